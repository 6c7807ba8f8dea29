import PyProof.Rows.All
import Wide.All
import OpenK.AllK
import Wide.FinOn
import Lean
import PyProof.EqAt
import PyProof.EqKinds
import PyProof.TupleCall
import PyProof.ZipIter
import PyProof.NeData
import PyProof.Draws
import PyProof.EnumMake
import PyProof.IsiHeapPairs
import PyProof.IsiNone
import PyProof.ConsumeWalk
import PyProof.TupleOfStr
import PyProof.DictWalks
import KE.KDictSum
import KE.KDictOf
import PyProof.IsiH_list
import PySem.Challenge.RW_sideturn_k03_whole_programs_written_and
set_option Elab.async false
set_option linter.all false
set_option maxRecDepth 100000
set_option maxHeartbeats 8000000
open Lean in
def cv:Nat->Term->MacroM (TSyntax `rcasesPat)
 |0,_=>Macro.throwUnsupported
 |n+1,t=>do match t with
  |`(($a,$b,*))=>let p<-(#[a]++b.getElems).mapM (cv n);`(rcasesPat|⟨$[$p:rcasesPat],*⟩)
  |`($x:ident)=>`(rcasesPat|$x:ident)
  |`(_)=>`(rcasesPat|_)
  |`(())=>`(rcasesPat|⟨⟩)
  |_=>Macro.throwUnsupported
section
local macro_rules
 | `(tactic|let ($a,$b,*):=$e)=>do `(tactic|obtain $(<-cv 9 (<-`(($a,$b,*)))):rcasesPat:=$e)
local macro_rules
 | `(#[$a,*])=>`(⟨$a,*⟩)
local macro_rules
 | `(#v[$a,*])=>`(List.toArray [$a,*])
local macro_rules
 | `(↑$s)=>`(($s).heap.objs.size)
local macro_rules
 | `(tactic|cbv)=>`(tactic|first|with_reducible assumption|with_reducible exact Nat.le_refl _|with_reducible exact Nat.lt_succ_self _|lia|omega)
local macro_rules
 | `(tactic|ac_nf)=>`(tactic|first|exact .inl rfl|exact .inr rfl|assumption)
local macro_rules
 | `(tactic|ac_rfl)=>`(tactic|first|decide|cbv)
local macro_rules
 | `(command|def $i:declId $s:optDeclSig $v:declVal)=>`(command|noncomputable def $i:declId $s:optDeclSig $v:declVal)
local macro_rules
 | `(command|abbrev $i:declId $s:optDeclSig $v:declVal)=>`(command|noncomputable abbrev $i:declId $s:optDeclSig $v:declVal)
open PySem.W (Frag nsIn findIn keepIn typeIn kitOne fnOf kitAny codeIn InstAt Looks specialIn)
section
open PySem
def Yk:=@List.length_map
def Yl:=@List.length_append
def Ym:=@List.mem_cons_self
def Yn:=@List.mem_cons
def Yo:=@List.mem_cons_of_mem
def Yp:=@List.map_cons
def Yq:=@Heap.get?_push_of_some
def Yr:=@List.map_append
def Ys:=@Nat.le_refl
def Yt:=@List.flatMap_cons
def Yu:=@List.getElem?_eq_some_iff
def Yv:=@List.length_cons
def Yw:=@Nat.le_trans
def Yx:=@List.mem_singleton
def Yy:=@Bool.false_ne_true
def Yz:=@List.mem_append
def YA:=@List.append_nil
def YB:=@List.mem_map
def YC:=@Heap.lt_size
def YD:=@Heap.get?_push_size
def YE:=@List.nil_append
def YF:=@List.map_map
def YG:=@Bool.and_eq_true
def YH:=@List.size_toArray
def YI:=@List.append_assoc
def YJ:=@Nat.ne_of_lt
def YK:=@Option.map_eq_some_iff
def YL:=@List.flatMap_append
def YM:=@List.getElem?_set_ne
def YN:=@List.mem_flatMap
def YO:=@Nat.zero_le
def YQ:=@Nat.lt_of_lt_of_le
def YR:=@PySem.F.plainAttrs_list
def YS:=@List.getElem?_map
def YT:=@List.cons_append
def YU:=@Option.some.inj
def YV:=@PySem.W.mg_none_of
def YW:=@PySem.F.slot_list_extend
def YX:=@PySem.F.type_list_extend
def YY:=@List.getElem?_eq_getElem
def YZ:=@PySem.F.slot_list_append
def Y0:=@PySem.F.type_list_append
def Y1:=@List.mem_append_right
def Y2:=@List.all_eq_true
def Y3:=@List.eq_nil_of_length_eq_zero
def Y4:=@List.mem_of_getElem?
def Y5:=@List.getElem?_set_self
def Y6:=@PySem.W.mg_of
def Y7:=@List.length_set
def Y8:=@Str.length_append
def Y9:=@List.map_nil
def Za:=@List.nodup_cons
def Zb:=@List.of_mem_zip
def Zc:=@List.sum_append
def Zd:=@List.mem_append_left
def Ze:=@Nat.succ_le_succ
def Zf:=@Heap.size_push
def Zg:=@PySem.mem_of_lookup
def Zh:=@List.any_cons
def Zi:=@List.sum_cons
def Zj:=@PySem.boot_len
def Zk:=@List.length_range
def Zl:=@List.map_congr_left
def Zm:=@Option.isSome_iff_exists
def Zn:=@List.length_take
def Zo:=@List.lookup_cons
def Zp:=@PySem.F.plainAttrs_str
def Zq:=@PySem.F.slot_str_split
def Zr:=@Int.emod_lt_of_pos
def Zs:=@PySem.StrLaws.glued_eq_join
def Zt:=@Nat.isDigit_of_mem_toDigits
def Zu:=@List.length_replicate
def Zv:=@Int.emod_nonneg
def Zw:=@List.headD_cons
def Zx:=@PySem.F.slot_list_pop
def Zy:=@PySem.F.type_list_pop
def Zz:=@List.take_add_one
def ZA:=@List.drop_zero
def ZC:=@List.tail_cons
def ZD:=@List.flatMap_map
def ZE:=@Int.eq_ofNat_of_zero_le
def ZF:=@Bool.eq_iff_iff
def ZG:=@PySem.AutoSeq1.sub_tuple_tuple
def ZH:=@List.zip_cons_cons
def ZI:=@List.reverse_cons
def ZJ:=@List.foldl_append
def ZK:=@Nat.ne_of_gt
def ZL:=@List.length_singleton
def ZM:=@Array.getElem?_toList
def ZN:=@List.length_filter_le
def ZO:=@List.length_drop
def ZP:=@List.take_length
def ZQ:=@List.cons_ne_nil
def ZR:=@Nat.lt_irrefl
def ZS:=@List.all_cons
def ZT:=@List.getElem?_append_right
def ZU:=@List.getD_eq_getElem?_getD
def ZV:=@Array.length_toList
def ZW:=@List.map_eq_nil_iff
def ZX:=@List.length_nil
def ZY:=@List.drop_eq_getElem_cons
def ZZ:=@List.length_zip
def Z0:=@PySem.F.args_tuple_add_2
def Z1:=@List.filterMap_map
def Z2:=@List.filter_append
def Z3:=@Nat.sub_zero
def Z4:=@List.length_filterMap_le
def Z5:=@List.eq_of_mem_replicate
def Z6:=@PySem.F.args_str_split_2
def Z7:=@Nat.succ.inj
def Z8:=@PySem.F.entry_tuple_add
def Z9:=@List.append_cancel_left
def aaa:=@List.length_eq_zero_iff
def aab:=@PySem.F.entry_str_split
def aac:=@PySem.F.slot_tuple_add
def aad:=@Heap.get?_update_other
def aae:=@List.map_id
def aaf:=@Array.getElem?_eq_none
def aag:=@Nat.le_of_succ_le_succ
def aah:=@Bool.true_and
def aai:=@List.map_reverse
def aaj:=@List.drop_length
def aak:=@List.map_flatMap
def aal:=@Heap.get?_update_self
def aam:=@PySem.F.slot_dict_get
def aan:=@List.eq_nil_or_concat
def aao:=@List.getElem?_zipWith
def aap:=@PySem.W.KIN.signs_num
def aaq:=@List.dropLast_concat
def aar:=@Nat.succ_mul
def aas:=@List.foldl_cons
end
open PySem in
abbrev aat:=Value->Shared->Prop
open PySem in
abbrev aau:=List (Addr×Obj)
open PySem in abbrev aaw (N:Env)(e:Expr)(r:List Expr):Prop:=starEach (e::r) N=(false,eval e N)::starEach r N
open PySem in abbrev aax (N:Env)(p:Pos)(r:List Expr):Prop:=(backTo p (starEach r N)).any (·.1)=false
open PySem in abbrev aay (x:Str):Prop:=(x == ("__debug__":Str))=false
theorem U.{u}{α:Sort u}{a:α}:a=a:=rfl
namespace L2
open PySem PySem.Spec PyProof.Rows
abbrev Key:=Sum Int Str
def uk:Key->Value->Bool
 | .inl k,v=>Value.isInt k v
 | .inr x,v=>Value.isStrOf x v
def TC(w:World):Key->Int
 | .inl k=>hashInt k
 | .inr x=>hashStr w x
theorem cE:∀ {k:Key} {v:Value},uk k v=true->(∃ i t,k=Sum.inl i/\v=Value.int i t)\/(∃ x t,k=Sum.inr x/\v=Value.str x t)
 | .inl i,v,h=>by
  let(t,e):=Value.isInt_shape (k:=i) (v:=v) h;exact .inl #[i,t,U,e]
 | .inr x,v,h=>by
  let(t,e):=Value.isStrOf_shape (x:=x) (v:=v) h;exact .inr #[x,t,U,e]
theorem BL(i:Int)(t:Tok):uk (.inl i) (.int i t)=true:=by simp[uk,Value.isInt]
theorem AU(x:Str)(t:Tok):uk (.inr x) (.str x t)=true:=by simp[uk,Value.isStrOf]
theorem KC(a b:Int):decide ((Sum.inl a:Key)=Sum.inl b)=(a == b):=by
 by_cases e:a=b
 .subst e;simp
 .have h:¬ (Sum.inl a:Key)=Sum.inl b:=λq=>e (Sum.inl.inj q);rw[decide_eq_false h];exact (beq_eq_false_iff_ne.mpr e).symm
theorem KO(a b:Str):decide ((Sum.inr a:Key)=Sum.inr b)=decide (a=b):=by
 by_cases e:a=b
 .subst e;simp
 .have h:¬ (Sum.inr a:Key)=Sum.inr b:=λq=>e (Sum.inr.inj q);rw[decide_eq_false h,decide_eq_false e]
theorem J5(a:Int)(b:Str):decide ((Sum.inl a:Key)=Sum.inr b)=false:=decide_eq_false (λq=>nomatch q)
theorem Jm(a:Str)(b:Int):decide ((Sum.inr a:Key)=Sum.inl b)=false:=decide_eq_false (λq=>nomatch q)
def cp(prog:Program)(w:World):PySem.KeyKind prog w Key where
 is:=uk
 hash:=TC w
 inj:=λv a b ha hb=>by
  rcases cE ha with ⟨i,t,rfl,rfl⟩ | ⟨x,t,rfl,rfl⟩
  .rcases cE hb with ⟨j,u,rfl,e⟩ | ⟨y,u,rfl,e⟩
   .injection e with e1 _;rw[e1]
   .exact nomatch e
  .rcases cE hb with ⟨j,u,rfl,e⟩ | ⟨y,u,rfl,e⟩
   .exact nomatch e
   .injection e with e1 _;rw[e1]
 byValue:=λk v h=>by
  rcases cE h with ⟨i,t,rfl,rfl⟩ | ⟨x,t,rfl,rfl⟩<;>rfl
 pyHash:=λhv h=>by
  rcases cE hv with ⟨i,t,rfl,rfl⟩ | ⟨x,t,rfl,rfl⟩
  .exact wpAny_pyHash_int h
  .exact wpAny_pyHash_str h
 eqBool:=λhu hv h=>by
  rcases cE hu with ⟨i,t,rfl,rfl⟩ | ⟨x,t,rfl,rfl⟩
  .rcases cE hv with ⟨j,u,rfl,rfl⟩ | ⟨y,u,rfl,rfl⟩
   .rw[KC] at h;exact wpAny_eqBool_int h
   .rw[J5] at h;exact SeqAt.EqAt.int_str i t y u _ _ _ _ h
  .rcases cE hv with ⟨j,u,rfl,rfl⟩ | ⟨y,u,rfl,rfl⟩
   .rw[Jm] at h;exact SeqAt.EqAt.str_int x t j u _ _ _ _ h
   .rw[KO] at h;exact wpAny_eqBool_str h
 «strs»:=λk x t v h=>by
  rcases cE h with ⟨i,u,rfl,e⟩ | ⟨y,u,rfl,e⟩
  .exact nomatch e
  .injection e with e1 _;subst e1;cases v<;>rfl
theorem wI(prog:Program)(w:World)(i:Int)(t:Tok):(cp prog w).is (.inl i) (.int i t)=true:=BL i t
theorem xm(prog:Program)(w:World)(x:Str)(t:Tok):(cp prog w).is (.inr x) (.str x t)=true:=AU x t
inductive V where
 | cw | bl (b:Bool) | int (i:Int) | str (x:Str) | Bj (b:Array UInt8) | Uv (b:UInt64) | ref (a:Addr) | ty (n:String)
 deriving DecidableEq
def RelV:V->Value->Prop
 | .cw,u=>u=Value.none
 | .bl b,u=>u=Value.bool b
 | .int i,u=>∃ t,u=Value.int i t
 | .str x,u=>∃ t,u=Value.str x t
 | .Bj b,u=>∃ t,u=Value.bytes b t
 | .Uv b,u=>∃ t,u=Value.float b t
 | .ref a,u=>u=Value.ref a
 | .ty n,u=>u=Value.type n
abbrev Vals:List V->List Value->Prop:=Paired RelV
theorem Vals.length{xs:List V}{us:List Value}(r:Vals xs us):xs.length=us.length:=Paired.length r
theorem Vals.get:∀ {xs:List V} {us:List Value} {i:Nat} {x:V},Vals xs us->xs[i]?=some x->∃ u,us[i]?=some u/\RelV x u
 | _,_,_,_,.nil,e=>by simp at e
 | _,_,0,_,.cons r _,e=>by simp at e;subst e;exact#[_,rfl,r]
 | _,_,i+1,x,.cons _ t,e=>by
  let(u,h1,h2):=Vals.get (i:=i) (x:=x) t (by simpa using e);exact#[u,by simpa using h1,h2]
theorem Vals.set{x:V}{u:Value}(r:RelV x u):∀ {xs:List V} {us:List Value} (i:Nat),Vals xs us->Vals (xs.set i x) (us.set i u)
 | _,_,_,.nil=>.nil
 | _,_,0,.cons _ t=>.cons r t
 | _,_,i+1,.cons q t=>.cons q (Vals.set r i t)
theorem Vals.append:∀ {xs ys:List V} {us ws:List Value},Vals xs us->Vals ys ws->Vals (xs++ys) (us++ws)
 | _,_,_,_,.nil,s=>s
 | _,_,_,_,.cons r t,s=>.cons r (Vals.append t s)
theorem Vals.take:∀ {xs:List V} {us:List Value} (n:Nat),Vals xs us->Vals (xs.take n) (us.take n)
 | _,_,0,_=>.nil
 | _,_,_+1,.nil=>.nil
 | _,_,n+1,.cons r t=>.cons r (Vals.take n t)
theorem Vals.drop:∀ {xs:List V} {us:List Value} (n:Nat),Vals xs us->Vals (xs.drop n) (us.drop n)
 | _,_,0,r=>r
 | _,_,_+1,.nil=>.nil
 | _,_,n+1,.cons _ t=>Vals.drop n t
def pz:Option V->Option Value->Prop
 | some v,some u=>RelV v u
 | none,none=>True
 | _,_=>False
def KV{κ:Type}:List (κ×V)->List (κ×Value)->Prop:=Paired λ(p:κ×V) (q:κ×Value)=>p.1=q.1/\RelV p.2 q.2
def kV:Key->V
 | .inl i=>.int i
 | .inr x=>.str x
inductive HO where
  | lst (xs:List V)
  | tup (xs:List V)
  | dK (kvs:List (Key×V)) | dT (kvs:List (List Key×V))
  | set (S:Int->Bool) (n:Nat)
  | ins (C dx:Addr) (fs:List (Str×V))
  | own (x:Addr)
  | xd (fs:List (Str×V))
  | met (f x:Addr)
  | S3 (lo hi:Int)
  | iX (o:Obj) (u:HO)
  | IK (ps:Array Value)
  | ext (φ:Heap->Prop)
abbrev Hp:=Addr->Option HO
def upd(H:Hp)(a:Addr)(o:HO):Hp:=λb=>if b=a then some o else H b
theorem au{H:Hp}{a:Addr}{o:HO}:upd H a o a=some o:=by unfold upd;rw[if_pos U]
theorem aq{H:Hp}{a b:Addr}{o:HO}(h:b≠a):upd H a o b=H b:=by unfold upd;rw[if_neg h]
theorem Hm{H:Hp}{a:Addr}{o u:HO}:upd (upd H a o) a u=upd H a u:=by
 funext b;unfold upd;split<;>rfl
theorem Ie{H:Hp}{a b:Addr}{o u:HO}(h:H a=some o)(h':H b=some u)(d:o≠u):a≠b:=by
 intro e;subst e;rw[h] at h';exact d (YU h')
theorem av{H:Hp}{a b:Addr}{o:HO}(h:H a=some o)(h':H b=none):a≠b:=by
 intro e;subst e;rw[h] at h';cases h'
section
variable(P:Program)(w:World)
def c8(H:Hp)(h:Heap)(a:Addr):HO->Prop
 | .lst xs=>xs.length<=sizeLine/\∃ (its:List Value) (n:Nat),Vals xs its/\h.get? a=some { cls:=.type "list",data:=.seq its.toArray n }
 | .tup xs=>xs.length<=sizeLine/\∃ its:List Value,Vals xs its/\IsTup h a its.toArray
 | .dK kvs=>kvs.length<=sizeLine/\(a == sysModules)=false/\∃ vs,KV kvs vs/\h.DictOf (cp P w) a vs
 | .dT kvs=>kvs.length<=sizeLine/\(a == sysModules)=false/\∃ xs:List (List Key×Addr×Value),
   Paired (λ(p:List Key×V) (q:List Key×Addr×Value)=>p.1=q.1/\H q.2.1=some (.tup (p.1.map kV))/\RelV p.2 q.2.2) kvs xs /\
   ∃ o es ep,h.get? a=some o/\o.ExactDict/\o.data=.dict es ep/\es.toList=xs.map (entryOfKey (tupleKind (cp P w)))/\(xs.map (·.1)).Nodup
 | .set S n=>h.SetOf (intKind P w) a S n
 | .ins C dx fs=>H dx=some (.own a)/\fs.length<=1000/\dx≠a/\h.get? a=some (PySem.W.instObj C dx) /\
   ∃ mA,h.Ns1 dx mA/\(∀ f,pz (fs.lookup f) (mA f))/\PySem.Within mA (fs.map (·.1))
 | .own _=>∃ o,h.get? a=some o
 | .xd fs=>∃ mA,h.Ns1 a mA/\∀ f,pz (fs.lookup f) (mA f)
 | .S3 lo hi=>∃ t u v,h.get? a=some { cls:=.type "range",data:=.fields #v[.int lo t,.int hi u,.int 1 v] }
 | .iX o u=>h.get? a=some o/\c8 H h a u
 | .IK ps=>h.get? a=some { cls:=.none,data:=.fields ps }
 | .met f x=>h.get? a=some (PySem.W.methodObj (.ref f) (.ref x))
 | .ext φ=>φ h/\(∃ o,h.get? a=some o)/\∀ h1 h2:Heap,φ h1->(∀ o,h1.get? a=some o->h2.get? a=some o)->φ h2
def lY(H:Hp)(h:Heap):Prop:=∀ a o,H a=some o->c8 P w H h a o
end
section
variable{P:Program}{w:World}{H H':Hp}{h h':Heap}{a:Addr}{o:HO}
theorem c8.lt(x:c8 P w H h a o):a < h.objs.size:=by
 cases o with
 | lst xs=>let(_,_,_,_,e):=x;exact YC e
 | tup xs=>let(_,_,_,p):=x;exact p.lt
 | dK kvs=>let(_,_,_,_,o,_,_,e,_):=x;exact YC e
 | dT kvs=>let(_,_,_,_,o,_,_,e,_):=x;exact YC e
 | set S n=>let(o,_,_,_,e,_):=x;exact YC e
 | ins C dx fs=>let(_,_,_,e,_):=x;exact YC e
 | own y=>let(_,e):=x;exact YC e
 | xd fs=>let(_,(_,_,_,e,_),_):=x;exact YC e
 | S3 lo hi=>let(_,_,_,e):=x;exact YC e
 | iX ob u=>let(e,_):=x;exact YC e
 | IK ps=>exact YC (show h.get? a=some _ from x)
 | met f y=>exact YC (show h.get? a=some _ from x)
 | ext φ=>let(_,(_,e),_):=x;exact YC e
theorem Paired.EI{α β:Type}{F G:α->β->Prop}:∀ {l₁:List α} {l₂:List β},Paired F l₁ l₂->(∀ a b,F a b->G a b)->Paired G l₁ l₂
 | _,_,.nil,_=>.nil
 | _,_,.cons r t,f=>.cons (f _ _ r) (Paired.EI t f)
theorem c8.yK(x:c8 P w H h a o)(k:∀ b u,(b=a\/H b=some (.own a))->h.get? b=some u->h'.get? b=some u)(ho:∀ b,H b=some (.own a)->H' b=some (.own a))(ht:∀ b xs,H b=some (.tup xs)->H' b=some (.tup xs)):c8 P w H' h' a o:=by
 induction o with
 | lst xs=>let(z,its,n,r,e):=x;exact#[z,its,n,r,k _ _ (.inl U) e]
 | tup xs=>let(z,its,r,ob,e,c):=x;exact#[z,its,r,ob,k _ _ (.inl U) e,c]
 | dK kvs=>let(z,y,vs,r,ob,es,ep,e,c):=x;exact#[z,y,vs,r,ob,es,ep,k _ _ (.inl U) e,c]
 | dT kvs =>
  let(z,y,xs,r,ob,es,ep,e,c):=x;exact#[z,y,xs,Paired.EI r λp q z=>#[z.1,ht _ _ z.2.1,z.2.2],ob,es,ep,k _ _ (.inl U) e,c]
 | set S n=>let(ob,es,ep,t,e,c):=x;exact#[ob,es,ep,t,k _ _ (.inl U) e,c]
 | ins C dx fs =>
  let(d,z,ne,e,mA,(od,es,ep,e2,c),r):=x;exact#[ho _ d,z,ne,k _ _ (.inl U) e,mA,#[od,es,ep,k _ _ (.inr d) e2,c],r]
 | own y=>let(ob,e):=x;exact#[ob,k _ _ (.inl U) e]
 | xd fs=>let(mA,(od,es,ep,e,c),r):=x;exact#[mA,#[od,es,ep,k _ _ (.inl U) e,c],r]
 | S3 lo hi=>let(t,u,v,e):=x;exact#[t,u,v,k _ _ (.inl U) e]
 | iX ob u ih=>let(e,q):=x;exact#[k _ _ (.inl U) e,ih q]
 | IK ps =>
  have e:h.get? a=some { cls:=.none,data:=.fields ps }:=x;show h'.get? a=some { cls:=.none,data:=.fields ps };exact k a _ (.inl U) e
 | met f y =>
  have e:h.get? a=some (PySem.W.methodObj (.ref f) (.ref y)):=x;show h'.get? a=some (PySem.W.methodObj (.ref f) (.ref y));exact k a _ (.inl U) e
 | ext φ=>let(p,(o,e),st):=x;exact#[st _ _ p λo q=>k _ _ (.inl U) q,#[o,k _ _ (.inl U) e],st]
theorem lY.lt(x:lY P w H h)(e:H a=some o):a < h.objs.size:=(x a o e).lt
theorem lY.fresh(x:lY P w H h)(e:h.objs.size<=a):H a=none:=by
 cases q:H a with
 | none=>rfl
 | some u=>exact absurd (YQ (x.lt q) e) (ZR _)
theorem lY.kept(x:lY P w H h)(k:∀ b u,h.get? b=some u->h'.get? b=some u):lY P w H h':=λa o e =>
 (x a o e).yK (λb u _ q=>k b u q) (λ_ q=>q) λ_ _ q=>q
theorem lY.laid(x:lY P w H h)(k:∀ b u,h.get? b=some u->h'.get? b=some u)(hp:h.objs.size<=a)(new:c8 P w (upd H a o) h' a o):lY P w (upd H a o) h':=λb u e=>by
 have hn:=x.fresh hp;by_cases hb:b=a
 .subst hb;rw[au] at e;cases e;exact new
 .rw[aq hb] at e;exact (x b u e).yK (λc v _ q=>k c v q) (λc q=>by rw[aq (av q hn)];exact q) λc xs q=>by rw[aq (av q hn)];exact q
end
def Rd(H:Hp)(a:Addr)(u:HO):Prop:=H a=some u\/∃ o,H a=some (.iX o u)
theorem Rd.ok{P:Program}{w:World}{H:Hp}{h:Heap}{a:Addr}{u:HO}(r:Rd H a u)(x:lY P w H h):c8 P w H h a u:=by
 rcases r with r | ⟨o,r⟩
 .exact x a u r
 .let(_,q):=x a _ r;exact q
def My:Option HO->Prop
 | some (.lst _)=>True
 | some (.dK _)=>True
 | some (.dT _)=>True
 | some (.set _ _)=>True
 | some (.ins _ _ _)=>True
 | some (.ext _)=>True
 | _=>False
section
variable{P:Program}{w:World}{H:Hp}{h h':Heap}{x e:Addr}{o':HO}
theorem lY.write(ok:lY P w H h)(mu:My (H x))(he:e=x\/H e=some (.own x))(k:∀ b u,b≠e->h.get? b=some u->h'.get? b=some u)(LP:∃ u,h'.get? e=some u)(new:c8 P w (upd H x o') h' x o'):lY P w (upd H x o') h':=λb u q=>by
 have nown:∀ c y,H c=some (.own y)->c≠x:=λc y r z=>by subst z;rw[r] at mu;exact mu
 have B9:∀ c xs,H c=some (.tup xs)->c≠x:=λc xs r z=>by subst z;rw[r] at mu;exact mu
 by_cases hb:b=x
 .subst hb;rw[au] at q;cases q;exact new
 .rw[aq hb] at q;by_cases hbe:b=e
  .have q':H b=some (.own x):=by
    rcases he with z | z
    .exact absurd (hbe.trans z) hb
    .rw[hbe];exact z
   rw[q] at q';cases q';let(v,hv):=LP;exact#[v,by rw[hbe];exact hv]
  .refine (ok b u q).yK (λc v hc r=>k c v ?_ r) (λc r=>by rw[aq (nown c b r)];exact r) λc xs r=>by rw[aq (B9 c xs r)];exact r
   rcases hc with rfl | hc
   .exact hbe
   .rintro rfl;rcases he with z | z
    .exact nown c b hc z
    .rw[hc] at z;cases z;exact hb U
end
structure Un(fs ex:List Addr)(H H':Hp)(h h':Heap):Prop where
 keep:∀ b o,h.get? b=some o->H b=none->b∉fs->b∉ex->h'.get? b=some o
 slot:∀ b o,h.get? b=some o->H b=none->b∈fs->b∉ex->∃ sl,h'.get? b=some { o with slots:=sl }
 free:∀ b o,h.get? b=some o->H b=none->b∉ex->H' b=none
 there:∀ b o,h.get? b=some o->b∉ex->∃ o',h'.get? b=some o'
 xg:∀ b xs,H b=some (.tup xs)->H' b=some (.tup xs)
 uP:∀ b o u,H b=some (.iX o u)->H' b=some (.iX o u)
 wZ:∀ b ps,H b=some (.IK ps)->∃ more,H' b=some (.IK (ps++more))
section
variable{fs Xu ex Yj:List Addr}{H H1 H2:Hp}{h h1 h2 h':Heap}{a x e:Addr}{o:HO}
theorem Un.any(u:Un fs ex H H1 h h1){b:Addr}{ob:Obj}(q:h.get? b=some ob)(n:H b=none)(hx:b∉ex):∃ sl,h1.get? b=some { ob with slots:=sl }:=by
 by_cases hb:b∈fs
 .exact u.slot b ob q n hb hx
 .exact#[ob.slots,u.keep b ob q n hb hx]
theorem Un.kept(k:∀ b u,h.get? b=some u->h'.get? b=some u):Un fs ex H H h h' :=
 #[λb ob q _ _ _=>k b ob q,λb ob q _ _ _=>#[ob.slots,k b ob q],λ_ _ _ n _=>n,λb ob q _=>#[ob,k b ob q],λ_ _ q=>q,λ_ _ _ q=>q,λ_ ps q=>#[#v[],by rw[q];simp]]
theorem Un.refl:Un fs ex H H h h:=Un.kept λ_ _ q=>q
theorem Un.laid(k:∀ b u,h.get? b=some u->h'.get? b=some u)(hp:h.objs.size<=a)(hn:H a=none):Un fs ex H (upd H a o) h h' where
 keep:=λb u q _ _ _=>k b u q
 slot:=λb u q _ _ _=>#[u.slots,k b u q]
 free:=λb u q n _=>by rw[aq (YJ (YQ (YC q) hp))];exact n
 there:=λb u q _=>#[u,k b u q]
 xg:=λb xs q=>by rw[aq (av q hn)];exact q
 uP:=λb u xs q=>by rw[aq (av q hn)];exact q
 wZ:=λb ps q=>#[#v[],by rw[aq (av q hn),q];simp]
theorem Un.write(mu:My (H x))(he:e=x\/H e=some (.own x))(k:∀ b u,b≠e->h.get? b=some u->h'.get? b=some u)(LP:∃ u,h'.get? e=some u):Un fs ex H (upd H x o) h h':=by
 have hx:∀ b,H b=none->b≠x:=λb n z=>by subst z;rw[n] at mu;exact mu
 have hb:∀ b,H b=none->b≠e:=λb n z=>by
  subst z;rcases he with r | r
  .exact hx b n r
  .rw[n] at r;cases r
 have hm:∀ b u,H b=some u->¬ My (some u)->b≠x:=λb u q nm z=>by subst z;rw[q] at mu;exact nm mu
 refine#[λb u q n _ _=>k b u (hb b n) q,λb u q n _ _=>#[u.slots,k b u (hb b n) q],λb u q n _=>by rw[aq (hx b n)];exact n,λb u q _=>?_,
  λb xs q=>by rw[aq (hm b _ q λz=>z)];exact q,λb u xs q=>by rw[aq (hm b _ q λz=>z)];exact q,λb ps q=>#[#v[],by rw[aq (hm b _ q λz=>z),q];simp]]
 by_cases hbe:b=e
 .subst hbe;exact LP
 .exact#[u,k b u hbe q]
end
def Qz(h:Heap)(H:Hp):List Addr:=(List.range h.objs.size).filter λa=>(H a).isSome
def vH(h:Heap)(H:Hp):Heap:=PySem.W.hideAll h (Qz h H)
theorem AY(h:Heap)(H:Hp):(vH h H).objs.size=h.objs.size:=PySem.W.hideAll_size _ _
theorem Dx{h:Heap}{H:Hp}{b:Addr}{o:Obj}(e:h.get? b=some o)(n:H b=none):(vH h H).get? b=some o :=
 PySem.W.hideAll_get _ e λhm=>by
  have q:(H b).isSome=true:=(List.mem_filter.mp hm).2;rw[n] at q;simp at q
theorem Gu{h:Heap}{H:Hp}{b:Addr}{o:Obj}(e:(vH h H).get? b=some o):h.get? b=some o/\H b=none:=by
 have e':h.get? b=some o:=PySem.W.of_hideAll (Qz h H) e;refine#[e',?_];cases q:H b with
 | none=>rfl
 | some x =>
  have hm:b∈Qz h H:=List.mem_filter.mpr #[List.mem_range.mpr (Heap.lt_size e'),by simp[q]];have z:(vH h H).get? b=none:=PySem.W.hideAll_none (Qz h H) hm;rw[z] at e;cases e
structure Mod(K:Frag)(mg:Str->Option Value)(base:Heap):Prop where
 QI:K.In base
 glob:base.Ns mainGlobals mg
 blt:∃ mb,base.Ns builtinsNs mb/\∀ x:Str,x≠"__name__"->mb x=bootBuiltins x
 nolimit:base.NoLimit
structure Cx where
 prog:Program
 w:World
 K:Frag
 mg:Str->Option Value
 base:Heap
 A:Around
 N:List Str
 s₀:Shared
 H₀:Hp
 env:Env
 outer:List Env
 stack:List Env
 ex:List Addr
 fn:Str->Bool
 calm:Bool
 pn:aau
 xe:aat
def CQ(l:List Env):List Addr:=l.filterMap (·.frame)
abbrev Cx.fs(X:Cx):List Addr:=CQ X.outer
def LB(sc:Scope)(x:Str):Prop:=sc.names.lookup x=some .local\/sc.names.lookup x=some .cell\/sc.names.lookup x=some .free
def Loc(sc:Scope)(x:Str):Prop:=sc.names.lookup x=some .local\/sc.names.lookup x=some .cell
def Look(env:Env)(h:Heap)(m:Str->Option Value)(x:Str)(u:Value):Prop :=
 (env.kindOf x=some .local/\m x=some u)\/((env.kindOf x=some .cell\/env.kindOf x=some .free)/\∃ c,env.cells.lookup x=some c/\h.IsCell c (some u))
structure Cx.Ok(X:Cx):Prop where
 mod:Mod X.K X.mg X.base
 kind:X.env.scope.kind=.function
 glob:X.env.globals=mainGlobals
 blt:X.env.builtins=builtinsNs
 above:X.s₀.heap.objs.size<=X.env.locals
 inj:∀ x y c,X.env.cells.lookup x=some c->X.env.cells.lookup y=some c->x=y
 has:∀ x,(X.env.kindOf x=some .cell\/X.env.kindOf x=some .free)->∃ c,X.env.cells.lookup x=some c
 MI:∀ x c,X.fn x=true->X.env.cells.lookup x=some c->X.s₀.heap.objs.size<=c
 hd:X.calm=true->X.A.handled=none
 frames:X.A.frames=some X.stack
 Q6:X.stack=X.outer\/(X.stack=X.env::X.outer/\X.env.frame=some X.env.locals)
 QG:∀ b∈X.ex,b≠X.env.locals/\∀ x c,X.env.cells.lookup x=some c->c≠b
 bs:∀ b o,X.base.get? b=some o->X.s₀.heap.get? b=some o/\X.H₀ b=none
 HS:X.base.objs.size<=X.s₀.heap.objs.size
 Ce:∀ b o,X.base.get? b=some o->b∉X.ex
 Cg:∀ b∈X.ex,b∉X.fs
 qY:X.s₀.heap.FunFrames X.base X.outer
 LU:∀ b∈X.fs,X.H₀ b=none
structure Inv(X:Cx)(pins:aau)(O:List (Option V))(H:Hp)(s:Shared):Prop where
 ok:X.Ok
 os:s.os=X.s₀.os
 bare:AllBare s.gens
 base:Un X.fs X.ex X.H₀ H X.s₀.heap s.heap
 loc:∃ m,s.heap.Ns X.env.locals m/\∀ (i:Nat) (x:Str) (v:V),X.N[i]?=some x->O[i]?=some (some v)->LB X.env.scope x->∃ u,RelV v u/\Look X.env s.heap m x u
 cell:∀ x c,X.env.cells.lookup x=some c->∃ v,s.heap.IsCell c v
 free:H X.env.locals=none
 jH:∀ x c,X.env.cells.lookup x=some c->H c=none
 pin:∀ p∈X.pn++pins,s.heap.get? p.1=some p.2/\H p.1=none/\p.1≠X.env.locals/\p.1∉X.fs/\∀ v,p.2.data≠.cell v
 aN:lY X.prog X.w H s.heap
 len:O.length=X.N.length
section
variable{X:Cx}{pins:aau}{O:List (Option V)}{H H':Hp}{s:Shared}{h':Heap}
theorem Cx.Ok.RQ(ok:X.Ok){b:Addr}{o:Obj}(e:X.base.get? b=some o):b∉X.fs:=λhb=>by
 have:=(ok.qY.mem hb).1;rw[e] at this;cases this
theorem Inv.bs(I:Inv X pins O H s):∀ b o,X.base.get? b=some o->s.heap.get? b=some o/\H b=none:=λb o e =>
 #[I.base.keep b o (I.ok.bs b o e).1 (I.ok.bs b o e).2 (I.ok.RQ e) (I.ok.Ce b o e),I.base.free b o (I.ok.bs b o e).1 (I.ok.bs b o e).2 (I.ok.Ce b o e)]
theorem Inv.bk(I:Inv X pins O H s):∀ b o,X.base.get? b=some o->s.heap.get? b=some o:=λb o e=>(I.bs b o e).1
theorem Inv.mod(I:Inv X pins O H s):Mod X.K X.mg X.base:=I.ok.mod
theorem Inv.Ig(I:Inv X pins O H s):X.K.In s.heap:=I.ok.mod.QI.keeps I.bk
theorem Inv.lt(I:Inv X pins O H s):X.env.locals < ↑s:=let #[_,hn,_]:=I.loc;hn.lt
theorem Inv.sz(I:Inv X pins O H s):X.s₀.heap.objs.size<=↑s:=Yw I.ok.above (Nat.le_of_lt I.lt)
theorem Inv.R6(I:Inv X pins O H s){a:Addr}(h:↑s<=a):a∉X.fs:=λhb=>by
 let(_,o,ho,_):=I.ok.qY.mem hb;exact absurd (YQ (YC ho) (Yw I.sz h)) (ZR _)
theorem Inv.Lx(I:Inv X pins O H s):∀ x c,X.env.cells.lookup x=some c->c≠X.env.locals:=λx c e z=>by
 let(v,o,ho,hd):=I.cell x c e;let(m,(o',es,ep,xR,hd',_),_):=I.loc;rw[z,xR] at ho;cases ho;rw[hd'] at hd;cases hd
theorem Inv.qY(I:Inv X pins O H s):s.heap.FunFrames X.base X.outer:=by
 have all:∀ (l:List Env),(∀ b∈CQ l,b∈X.fs)->X.s₀.heap.FunFrames X.base l->s.heap.FunFrames X.base l:=by
  intro l
  induction l with
  | nil=>intro _ _;trivial
  | cons env r ih =>
   intro hs hl;let(hk,(L,o,hf,hn,ho,hd),hr):=hl;have hL:L∈X.fs:=hs L (by unfold CQ;rw[List.filterMap_cons,hf];exact List.mem_cons_self);let(sl,e):=I.base.slot L o ho (I.ok.LU L hL) hL λz=>I.ok.Cg L z hL;exact#[hk,#[L,_,hf,hn,e,hd],ih (λb hb=>hs b (by unfold CQ;rw[List.filterMap_cons,hf];exact List.mem_cons_of_mem _ hb)) hr]
 exact all X.outer (λ_ hb=>hb) I.ok.qY
theorem Inv.stack(I:Inv X pins O H s):s.heap.FunFrames X.base X.stack:=by
 rcases I.ok.Q6 with e | ⟨e,hf⟩
 .rw[e];exact I.qY
 .rw[e];let(m,hn,_):=I.loc;refine .cons (by rw[I.ok.kind];decide) hf hn ?_ I.qY;exact Heap.get?_none_of_le (Yw I.ok.HS I.ok.above)
theorem Inv.yB(I:Inv X pins O H s):∀ b∈CQ X.stack,b∈X.env.locals::X.fs:=λb hb=>by
 rcases I.ok.Q6 with e | ⟨e,hf⟩
 .rw[e] at hb;exact Yo _ hb
 .rw[e] at hb;unfold CQ at hb;rw[List.filterMap_cons,hf] at hb;exact hb
theorem Inv.AM(I:Inv X pins O H s):∀ b∈CQ X.stack,H b=none:=λb hb=>by
 rcases Yn.mp (I.yB b hb) with e | hb
 .rw[e];exact I.free
 .let(_,o,ho,_):=I.ok.qY.mem hb;exact I.base.free b o ho (I.ok.LU b hb) λz=>I.ok.Cg b z hb
theorem Inv.step{g':Array GenState}{t':Nat}{d':Drawn}{ch:List Addr}(I:Inv X pins O H s)(BR:∀ b∈ch,(b∈X.ex\/X.s₀.heap.objs.size<=b)/\b≠X.env.locals/\(∀ x c,X.env.cells.lookup x=some c->c≠b)/\∀ p∈X.pn++pins,p.1≠b)(keep:∀ b o,b≠X.env.locals->b∉X.fs->b∉ch->s.heap.get? b=some o->H b=none->h'.get? b=some o)(slot:∀ b o,b≠X.env.locals->b∈X.fs->b∉ch->s.heap.get? b=some o->H b=none->∃ sl,h'.get? b=some { o with slots:=sl })(free:∀ b o,b∉ch->s.heap.get? b=some o->H b=none->H' b=none)(there:∀ b o,b∉ch->s.heap.get? b=some o->∃ o',h'.get? b=some o')(xg:∀ b xs,H b=some (.tup xs)->H' b=some (.tup xs))(uP:∀ b o u,H b=some (.iX o u)->H' b=some (.iX o u))(wZ:∀ b ps,H b=some (.IK ps)->∃ more,H' b=some (.IK (ps++more)))(ns:∀ m,s.heap.Ns X.env.locals m->h'.Ns X.env.locals m)(aN:lY X.prog X.w H' h')(hg:AllBare g') :
  Inv X pins O H' { s with heap:=h',gens:=g',drawn:=d',toks:=t' }:=by
 have neL:∀ b o,X.s₀.heap.get? b=some o->b≠X.env.locals:=λb o e=>YJ (YQ (YC e) I.ok.above);have neC:∀ b o,X.s₀.heap.get? b=some o->b∉X.ex->b∉ch:=λb o e hx hb=>by
  rcases (BR b hb).1 with z | z
  .exact hx z
  .exact absurd (YQ (YC e) z) (ZR _)
 have cellK:∀ x c,X.env.cells.lookup x=some c->∀ v,s.heap.IsCell c v->h'.IsCell c v:=λx c e v z1r=>by
  let(o,ho,hd):=z1r;have nch:c∉ch:=λz=>(BR c z).2.2.1 x c e U;by_cases hc:c∈X.fs
  .let(sl,q):=slot c o (I.Lx x c e) hc nch ho (I.jH x c e);exact#[_,q,hd]
  .exact#[o,keep c o (I.Lx x c e) hc nch ho (I.jH x c e),hd]
 refine#[I.ok,I.os,hg,#[λb o e n hb hx=>?_,λb o e n hb hx=>?_,λb o e n hx=>?_,λb o e hx=>?_,λb xs e=>xg b xs (I.base.xg b xs e),λb o xs e=>uP b o xs (I.base.uP b o xs e),λb ps e=>?_],?_,λx c e=>?_,?_,λx c e=>?_,λp hp=>?_,aN,I.len]
 .exact keep b o (neL b o e) hb (neC b o e hx) (I.base.keep b o e n hb hx) (I.base.free b o e n hx)
 .let(sl,e1):=I.base.slot b o e n hb hx;let(sl',e2):=slot b _ (neL b o e) hb (neC b o e hx) e1 (I.base.free b o e n hx);exact#[sl',e2]
 .let(o',e1):=I.base.there b o e hx;exact free b o' (neC b o e hx) e1 (I.base.free b o e n hx)
 .let(o',e1):=I.base.there b o e hx;exact there b o' (neC b o e hx) e1
 .let(m1,e1):=I.base.wZ b ps e;let(m2,e2):=wZ b _ e1;exact#[m1++m2,by rw[e2,Array.append_assoc]]
 .let(m,hn,hl):=I.loc;refine#[m,ns m hn,λi x v e1 e2 e3=>?_];let(u,r,l):=hl i x v e1 e2 e3;refine#[u,r,?_];rcases l with l | ⟨k,c,e,z⟩
  .exact .inl l
  .exact .inr #[k,c,e,cellK x c e _ z]
 .let(v,z):=I.cell x c e;exact#[v,cellK x c e v z]
 .let(m,(o,_,_,ho,_),_):=I.loc;exact free _ o (λz=>(BR _ z).2.1 U) ho I.free
 .let(v,o,ho,hd):=I.cell x c e;exact free c o (λz=>(BR c z).2.2.1 x c e U) ho (I.jH x c e)
 .let(e,n,ne,nf,d):=I.pin p hp;have nch:p.1∉ch:=λz=>(BR p.1 z).2.2.2 p hp U;exact#[keep p.1 p.2 ne nf nch e n,free p.1 p.2 nch e n,ne,nf,d]
theorem Inv.un{t':Nat}(I:Inv X pins O H s)(u:Un X.fs [] H H' s.heap h')(aN:lY X.prog X.w H' h'):Inv X pins O H' { s with heap:=h',toks:=t' }:=by
 let(m,(o,es,ep,ho,r),_):=id I.loc;let(sl,hL):=u.any ho I.free (by simp);exact I.step (g':=s.gens) (d':=s.drawn) (ch:=[]) (λ_ z=>nomatch z) (λb o _ hb _ e n=>u.keep b o e n hb (by simp)) (λb o _ hb _ e n=>u.slot b o e n hb (by simp)) (λb o _ e n=>u.free b o e n (by simp)) (λb o _ e=>u.there b o e (by simp)) u.xg u.uP u.wZ (λm' hm=>by
  let(o',es',ep',xR,r'):=hm;rw[ho] at xR;cases xR;exact#[_,es',ep',hL,r']) aN I.bare
theorem Inv.call{g':Array GenState}{t':Nat}{d':Drawn}{ch:List Addr}(I:Inv X pins O H s)(u:Un (CQ X.stack) ch H H' s.heap h')(aN:lY X.prog X.w H' h')(hg:AllBare g')(BR:∀ b∈ch,(b∈X.ex\/X.s₀.heap.objs.size<=b)/\b≠X.env.locals/\(∀ x c,X.env.cells.lookup x=some c->c≠b)/\∀ p∈X.pn++pins,p.1≠b) :
  Inv X pins O H' { s with heap:=h',gens:=g',drawn:=d',toks:=t' }:=by
 let(m,(o,es,ep,ho,r),_):=id I.loc;let(sl,hL):=u.any ho I.free λz=>(BR _ z).2.1 U;exact I.step (ch:=ch) BR (λb o hL hb hc e n=>u.keep b o e n (λz=>(Yn.mp (I.yB b z)).elim hL hb) hc) (λb o _ _ hc e n=>u.any e n hc) (λb o hc e n=>u.free b o e n hc) (λb o hc e=>u.there b o e hc) u.xg u.uP u.wZ (λm' hm=>by
  let(o',es',ep',xR,r'):=hm;rw[ho] at xR;cases xR;exact#[_,es',ep',hL,r']) aN hg
theorem Inv.turned{t':Nat}{it:Addr}(I:Inv X pins O H s)(k:∀ b o,b≠it->s.heap.get? b=some o->h'.get? b=some o)(hn:H it=none)(hL:it≠X.env.locals)(h1:it∈X.ex\/X.s₀.heap.objs.size<=it)(h2:∀ x c,X.env.cells.lookup x=some c->c≠it)(h3:∀ p∈X.pn++pins,p.1≠it):Inv X pins O H { s with heap:=h',toks:=t' }:=by
 have nit:∀ b u,H b=some u->b≠it:=λb u e z=>by rw[z,hn] at e;cases e
 refine I.step (g':=s.gens) (d':=s.drawn) (ch:=[it]) (λb hb=>?_) (λb o _ _ hc e _=>k b o (λz=>hc (by simp[z])) e) (λb o _ _ hc e _=>#[o.slots,k b o (λz=>hc (by simp[z])) e]) (λ_ _ _ _ n=>n)
  (λb o hc e=>#[o,k b o (λz=>hc (by simp[z])) e]) (λ_ _ e=>e) (λ_ _ _ e=>e) (λb ps e=>#[#v[],by rw[e];simp]) (λm hm=>?_) (λb u e=>?_) I.bare
 .have e:b=it:=by simpa using hb
  subst e;exact#[h1,hL,h2,h3]
 .let(o,es,ep,ho,r):=hm;exact#[o,es,ep,k _ o (Ne.symm hL) ho,r]
 .refine (I.aN b u e).yK (λc v hc q=>k c v ?_ q) (λ_ q=>q) λ_ _ q=>q;rcases hc with z | z
  .rw[z];exact nit b u e
  .exact nit c _ z
theorem Inv.tok(I:Inv X pins O H s)(t:Nat):Inv X pins O H { s with toks:=t }:=I.un (h':=s.heap) (t':=t) Un.refl I.aN
theorem Inv.kept{t':Nat}(I:Inv X pins O H s)(k:∀ b u,s.heap.get? b=some u->h'.get? b=some u):Inv X pins O H { s with heap:=h',toks:=t' }:=I.un (Un.kept k) (I.aN.kept k)
theorem Inv.laid{a:Addr}{o:HO}{t':Nat}(I:Inv X pins O H s)(k:∀ b u,s.heap.get? b=some u->h'.get? b=some u)(hp:↑s<=a)(new:c8 X.prog X.w (upd H a o) h' a o) :
  Inv X pins O (upd H a o) { s with heap:=h',toks:=t' }:=I.un (Un.laid k hp (I.aN.fresh hp)) (I.aN.laid k hp new)
theorem Inv.write{x e:Addr}{o:HO}{t':Nat}(I:Inv X pins O H s)(mu:My (H x))(he:e=x\/H e=some (.own x))(k:∀ b u,b≠e->s.heap.get? b=some u->h'.get? b=some u)(LP:∃ u,h'.get? e=some u)(new:c8 X.prog X.w (upd H x o) h' x o):Inv X pins O (upd H x o) { s with heap:=h',toks:=t' }:=I.un (Un.write mu he k LP) (I.aN.write mu he k LP new)
theorem Inv.weak{O':List (Option V)}(I:Inv X pins O H s)(hl:O'.length=O.length)(w:∀ (i:Nat) v,O'[i]?=some (some v)->O[i]?=some (some v)):Inv X pins O' H s :=
 #[I.ok,I.os,I.bare,I.base,let #[m,hn,hl']:=I.loc;#[m,hn,λi x v e1 e2 e3=>hl' i x v e1 (w i v e2) e3],I.cell,I.free,I.jH,I.pin,I.aN,hl.trans I.len]
theorem Inv.Av{HH:aau}(I:Inv X pins O H s)(h:∀ p∈HH,s.heap.get? p.1=some p.2/\H p.1=none/\p.1≠X.env.locals/\p.1∉X.fs/\∀ v,p.2.data≠.cell v):Inv X HH O H s :=
 #[I.ok,I.os,I.bare,I.base,I.loc,I.cell,I.free,I.jH,λp hp=>(Yz.mp hp).elim (λz=>I.pin p (Zd _ z)) (h p),I.aN,I.len]
theorem wg{N:List Str}(hN:N.Nodup){i j:Nat}{x:Str}(a:N[i]?=some x)(b:N[j]?=some x):i=j:=by
 let(h1,e1):=Yu.mp a;let(h2,e2):=Yu.mp b;exact (List.getElem_inj hN).mp (e1.trans e2.symm)
abbrev aaz (X:Cx)(x:Str):Prop:=X.fn x=true\/X.env.scope.names.lookup x=some .local
theorem ug{M:Model}{A:Around}{E:aat}{i:Nat}{x:Str}{v:V}{u:Value}{Q:Unit->Shared->Prop}(I:Inv X pins O H s)(hN:X.N.Nodup)(hi:X.N[i]?=some x)(hx:Loc X.env.scope x)(r:RelV v u)(h:∀ s',Inv X pins (O.set i (some v)) H s'->(∃ a,Heap.SameBut a s.heap s'.heap/\(a=X.env.locals\/X.env.cells.lookup x=some a))->Q () s')(hf:aaz X x:=by ac_nf):wpAny M A (storeName X.env x u) Q E s:=by
 let(m,hn,hl):=id I.loc;have hcls:(X.env.scope.kind == .class||(X.env.scope.kind == .module&&X.env.locals != X.env.globals))=false:=by rw[I.ok.kind];rfl
 have hiO:i < O.length:=by rw[I.len];exact (Yu.mp hi).1
 have Lx:=I.Lx;have tracked:∀ {a:Addr} {h':Heap},(∃ o,s.heap.get? a=some o/\H a=none)->Heap.SameBut a s.heap h'->lY X.prog X.w H h':=λ{a h'} ha hs b ob e=>by
  let(_,_,hfree):=ha;refine (I.aN b ob e).yK (λc w' hc q=>(hs.2 c ?_).trans q) (λ_ q=>q) λ_ _ q=>q;rintro rfl;rcases hc with rfl | hc
  .rw[hfree] at e;cases e
  .rw[hfree] at hc;cases hc
 rcases hx with hk | hk
 .refine wpAny_storeName_local hk hn (λh' hn' hs=>?_) hcls;let(oL,_,_,hoL,_):=id hn;refine h _ #[I.ok,I.os,I.bare,#[λb o e n hb hx=>?_,λb o e n hb hx=>?_,I.base.free,λb o e hx=>?_,I.base.xg,I.base.uP,I.base.wZ],#[_,hn',λj y v' e1 e2 e3=>?_],λy c e=>?_,I.free,I.jH,λp hp=>?_,tracked #[oL,hoL,I.free] hs,by simpa using I.len] #[_,hs,.inl U]
  .exact (hs.2 b (YJ (YQ (YC e) I.ok.above))).trans (I.base.keep b o e n hb hx)
  .let(sl,e1):=I.base.slot b o e n hb hx;exact#[sl,(hs.2 b (YJ (YQ (YC e) I.ok.above))).trans e1]
  .let(o',e1):=I.base.there b o e hx;exact#[o',(hs.2 b (YJ (YQ (YC e) I.ok.above))).trans e1]
  .by_cases hj:j=i
   .subst hj;rw[hi] at e1;cases e1;rw[Y5 hiO] at e2;cases e2;exact#[u,r,.inl #[hk,by simp]]
   .rw[YM (Ne.symm hj)] at e2;let(u',r',q):=hl j y v' e1 e2 e3;refine#[u',r',?_];rcases q with ⟨k,e⟩ | ⟨k,c,e,z⟩
    .refine .inl #[k,?_];have:y≠x:=λe=>hj (wg hN e1 (e▸hi));simp[this,e]
    .exact .inr #[k,c,e,z.sameBut hs (Lx y c e)]
  .let(w',z):=I.cell y c e;exact#[w',z.sameBut hs (Lx y c e)]
  .let(e,n,ne,nf,d):=I.pin p hp;exact#[(hs.2 p.1 ne).trans e,n,ne,nf,d]
 .have hfn:X.fn x=true:=by
   rcases hf with z | z
   .exact z
   .rw[z] at hk;cases hk
  let(c,hc):=I.ok.has x (.inl hk);let(w',z):=I.cell x c hc;refine wpAny_storeName_cell I.ok.kind hk hc z (λh' hc' hs=>?_);let(oc,hoc,hocd):=id z;refine h { s with heap:=h' } #[I.ok,I.os,I.bare,#[λb o e n hb hx=>?_,λb o e n hb hx=>?_,I.base.free,λb o e hx=>?_,I.base.xg,I.base.uP,I.base.wZ],#[m,hn.sameBut hs (Ne.symm (Lx x c hc)),λj y v' e1 e2 e3=>?_],λy c' e=>?_,I.free,I.jH,λp hp=>?_,tracked #[oc,hoc,I.jH x c hc] hs,by simpa using I.len] #[c,hs,.inr hc]
  .exact (hs.2 b (YJ (YQ (YC e) (I.ok.MI x c hfn hc)))).trans (I.base.keep b o e n hb hx)
  .let(sl,e1):=I.base.slot b o e n hb hx;exact#[sl,(hs.2 b (YJ (YQ (YC e) (I.ok.MI x c hfn hc)))).trans e1]
  .let(o',e1):=I.base.there b o e hx;exact#[o',(hs.2 b (YJ (YQ (YC e) (I.ok.MI x c hfn hc)))).trans e1]
  .by_cases hj:j=i
   .subst hj;rw[hi] at e1;cases e1;rw[Y5 hiO] at e2;cases e2;exact#[u,r,.inr #[.inl hk,c,hc,hc']]
   .rw[YM (Ne.symm hj)] at e2;let(u',r',q):=hl j y v' e1 e2 e3;refine#[u',r',?_];rcases q with q | ⟨k,c',e,z'⟩
    .exact .inl q
    .refine .inr #[k,c',e,z'.sameBut hs ?_];rintro rfl;exact hj (wg hN e1 (I.ok.inj _ _ _ e hc▸hi))
  .by_cases hcc:c'=c
   .subst hcc;exact#[_,hc']
   .let(w2,z2):=I.cell y c' e;exact#[w2,z2.sameBut hs hcc]
  .let(e,n,ne,nf,d):=I.pin p hp;refine#[(hs.2 p.1 ?_).trans e,n,ne,nf,d];intro q;rw[q,hoc] at e;have q':oc=p.2:=YU e;exact d w' (by rw[<- q'];exact hocd)
theorem lT{M:Model}{A:Around}{E:aat}{i:Nat}{x:Str}{v:V}{u:Value}{Q:Unit->Shared->Prop}(I:Inv X pins O H s)(hN:X.N.Nodup)(hi:X.N[i]?=some x)(hx:Loc X.env.scope x)(r:RelV v u)(h:∀ s',Inv X pins (O.set i (some v)) H s'->Q () s')(hf:aaz X x:=by ac_nf):wpAny M A (storeName X.env x u) Q E s :=
 ug I hN hi hx r (λs' I' _=>h s' I') hf
theorem Inv.Pq{s':Shared}{ch:List Addr}(I:Inv X pins O H s)(ho:s'.os=s.os)(u:Un (CQ X.stack) ch H H' s.heap s'.heap)(aN:lY X.prog X.w H' s'.heap)(hg:AllBare s'.gens)(BR:∀ b∈ch,(b∈X.ex\/X.s₀.heap.objs.size<=b)/\b≠X.env.locals/\(∀ x c,X.env.cells.lookup x=some c->c≠b)/\∀ p∈X.pn++pins,p.1≠b):Inv X pins O H' s':=by
 let(h',g',d',t',o'):=s';have e:o'=s.os:=ho;subst e;exact I.call (g':=g') (t':=t') (d':=d') u aN hg BR
end
abbrev XK:=Value->Option Addr->Hp->Prop
abbrev St:=List (Option V)
abbrev VK:=V->Hp->Prop
abbrev TE:=St->Hp->VK->Prop
abbrev TT:=St->Hp->(Bool->Hp->Prop)->Prop
abbrev TA:=St->Hp->(List V->Hp->Prop)->Prop
structure Ends where
 nx:St->Hp->Prop
 rt:VK
 bk:St->Hp->Prop:=λ_ _=>False
 ct:St->Hp->Prop:=λ_ _=>False
abbrev TS:=Ends->St->Hp->Prop
def EP(X:Cx)(pins:aau)(O:St)(Q:VK)(u:Value)(s':Shared):Prop:=∃ v H',Inv X pins O H' s'/\RelV v u/\Q v H'
def TP(X:Cx)(pins:aau)(O:St)(Q:Bool->Hp->Prop)(b:Bool)(s':Shared):Prop:=∃ H',Inv X pins O H' s'/\Q b H'
def AP(X:Cx)(pins:aau)(O:St)(Q:List V->Hp->Prop)(us:List Value)(s':Shared):Prop:=∃ vs H',Inv X pins O H' s'/\Vals vs us/\Q vs H'
def SP(X:Cx)(pins:aau)(D:Ends)(f:Flow)(s':Shared):Prop :=
 match f with
 | .next=>∃ O' H',Inv X pins O' H' s'/\D.nx O' H'
 | .brk=>∃ O' H',Inv X pins O' H' s'/\D.bk O' H'
 | .cont=>∃ O' H',Inv X pins O' H' s'/\D.ct O' H'
 | .ret u=>∃ v O' H',Inv X pins O' H' s'/\RelV v u/\D.rt v H'
def PE(X:Cx)(e:Expr)(t:TE):Prop :=
 ∀ (pins:aau) (s:Shared) (O:St) (H:Hp) (Q:VK),Inv X pins O H s->t O H Q->wpAny (model X.prog X.w) X.A (eval e X.env) (EP X pins O Q) X.xe s
def PT(X:Cx)(e:Expr)(t:TT):Prop :=
 ∀ (pins:aau) (s:Shared) (O:St) (H:Hp) (Q:Bool->Hp->Prop),Inv X pins O H s->t O H Q->wpAny (model X.prog X.w) X.A (isTrue e X.env (eval e X.env)) (TP X pins O Q) X.xe s
def PW(X:Cx)(e:Expr)(t:TT):Prop :=
 ∀ (whole:Sem Value) (pins:aau) (s:Shared) (O:St) (H:Hp) (Q:Bool->Hp->Prop),Inv X pins O H s->t O H Q->wpAny (model X.prog X.w) X.A (isTrue e X.env whole) (TP X pins O Q) X.xe s
theorem PW.pt{X:Cx}{e:Expr}{t:TT}(h:PW X e t):PT X e t:=h _
def PA(X:Cx)(es:List Expr)(t:TA):Prop :=
 ∀ (pos:Pos) (pins:aau) (s:Shared) (O:St) (H:Hp) (Q:List V->Hp->Prop),Inv X pins O H s->t O H Q->wpAny (model X.prog X.w) X.A (spliced (backTo pos (starEach es X.env))) (AP X pins O Q) X.xe s
def PS(X:Cx)(st:Stmt)(t:TS):Prop :=
 ∀ (pins:aau) (s:Shared) (O:St) (H:Hp) (D:Ends),Inv X pins O H s->t D O H->wpAny (model X.prog X.w) X.A (exec st X.env) (SP X pins D) X.xe s
def rg(X:Cx)(st:List Stmt)(t:TS):Prop :=
 ∀ (pins:aau) (s:Shared) (O:St) (H:Hp) (D:Ends),Inv X pins O H s->t D O H->wpAny (model X.prog X.w) X.A (execs st X.env) (SP X pins D) X.xe s
theorem b9{α:Type}{t:Sem α}{Q Q':α->Shared->Prop}{M:Model}{A:Around}{E:aat}{s:Shared}(h:wpAny M A t Q E s)(hQ:∀ a s,Q a s->Q' a s):wpAny M A t Q' E s:=wpAny_mono h hQ λ_ _ x=>x
theorem el2{α β:Type}{P Q R:α->β->Prop}{C:Prop}(h:∃ a b,P a b/\Q a b/\R a b)(k:∀ a b,P a b->Q a b->R a b->C):C:=h.elim λa h=>h.elim λb h=>k a b h.1 h.2.1 h.2.2
section
variable{X:Cx}
def bz(i:Nat):TE:=λO H Q=>∃ v,O[i]?=some (some v)/\Q v H
def tC(v:V):TE:=λ_ H Q=>Q v H
theorem yN{i:Nat}{x:Str}{pos:Pos}(hN:X.N[i]?=some x)(hv:LB X.env.scope x)(hd:aay x:=by decide)(qT:(x == ("__classdict__":Str))=false:=by decide):PE X (.Name x pos) (bz i):=by
 intro pins s O H Q I h;let(v,e,h):=h;let(m,hn,hl):=I.loc;let(u,r,l):=hl i x v hN e hv;have fin:EP X pins O Q u s:=#[v,H,I,r,h];rcases l with ⟨hk,hm⟩ | ⟨hk,c,hc,hcell⟩
 .exact wpAny_Name (wpAny_loadName_local I.ok.kind hk hn hm fin) hd
 .rcases hk with hk | hk
  .exact wpAny_Name (wpAny_loadName_cell I.ok.kind hk hc hcell fin) hd
  .exact wpAny_Name (wpAny_loadName_free I.ok.kind hk hc hcell fin qT) hd
theorem aR{i j pos}:PE X (.Constant (.int i) j pos) (tC (.int i)):=λ_ _ _ H _ I h=>wpAny_Constant_int #[.int i,H,I.tok _,#[_,U],h]
theorem DC{b j pos}:PE X (.Constant (.bool b) j pos) (tC (.bl b)):=λ_ _ _ H _ I h=>Constant_bool #[.bl b,H,I,U,h]
theorem Cc{j pos}:PE X (.Constant .none j pos) (tC .cw):=λ_ _ _ H _ I h=>Constant_none #[.cw,H,I,U,h]
theorem b8{x j pos}:PE X (.Constant (.str x) j pos) (tC (.str x)):=λ_ _ _ H _ I h=>Calls.Constant_str #[.str x,H,I.tok _,#[_,U],h]
def Gl(X:Cx)(x:Str):Prop:=X.env.kindOf x=some .globalImplicit
theorem An{E:aat}{pins:aau}{s:Shared}{O:St}{H:Hp}{x:Str}{u:Value}{pos:Pos}{Q:aat}(I:Inv X pins O H s)(hg:Gl X x)(hm:X.mg x=some u)(h:Q u s)(hd:aay x:=by decide):wpAny (model X.prog X.w) X.A (eval (.Name x pos) X.env) Q E s :=
 Calls.Name_function_global I.ok.kind hg (Calls.loadGlobal_global (by rw[I.ok.glob];exact I.mod.glob.keeps I.bk) hm h) hd
theorem j6{E:aat}{pins:aau}{s:Shared}{O:St}{H:Hp}{x:Str}{u:Value}{pos:Pos}{Q:aat}(I:Inv X pins O H s)(hg:Gl X x)(hm:X.mg x=none)(hv:bootBuiltins x=some u)(h:Q u s)(hn:x≠"__name__":=by decide)(hd:aay x:=by decide):wpAny (model X.prog X.w) X.A (eval (.Name x pos) X.env) Q E s:=by
 let(mb,h1,h2):=I.mod.blt;exact Calls.Name_function_global I.ok.kind hg (Calls.loadGlobal_builtin (by rw[I.ok.glob];exact I.mod.glob.keeps I.bk) hm (by rw[I.ok.blt];exact h1.keeps I.bk) ((h2 x hn).trans hv) h) hd
theorem mw{x:Str}{v:V}{u:Value}{pos:Pos}(hg:Gl X x)(hm:X.mg x=some u)(r:RelV v u)(hd:aay x:=by decide):PE X (.Name x pos) (tC v) :=
 λ_ _ _ H _ I h=>An I hg hm #[v,H,I,r,h] hd
theorem bM{x:Str}{v:V}{u:Value}{pos:Pos}(hg:Gl X x)(hm:X.mg x=none)(hv:bootBuiltins x=some u)(r:RelV v u)(hn:x≠"__name__":=by decide)(hd:aay x:=by decide):PE X (.Name x pos) (tC v) :=
 λ_ _ _ H _ I h=>j6 I hg hm hv #[v,H,I,r,h] hn hd
variable{a b:Expr}{ta tb:TE}{pos:Pos}
def tB(t:TE):TT:=λO H Q=>t O H λx H1=>∃ c,x=.bl c/\Q c H1
theorem EO{e:Expr}{t:TE}(h:PE X e t)(he:∀ whole,isTrue e X.env whole=(do let v <- whole;standAt e.pos;holding [v] (truthy v)):=by intro _;rfl):PT X e (tB t):=by
 intro pins s O H Q I hw;refine isTrue_plain (b9 (h pins s O H _ I hw) λv s1 zz=>el2 zz λx H1 I1 r1 q1=>?_) (he _);let(d,rfl,q):=q1;cases r1;exact wpAny_truthy_bool #[H1,I1,q]
variable{tA QV:TT}{rest:List Expr}
def OD(t u:TT):TT:=λO H Q=>t O H λc H1=>if c=true then u O H1 Q else Q false H1
def X6(t u:TT):TT:=λO H Q=>t O H λc H1=>if c=true then Q true H1 else u O H1 Q
def UW(t:TT):TT:=λO H Q=>t O H λc H1=>Q (!c) H1
theorem pw_and1(ha:PT X a tA):PW X (.BoolOp .And [a] pos) tA:=by
 intro wh pins s O H Q I h;refine isTrue_and (b9 (ha pins s O H Q I h) λc s1 e=>?_);cases c with
 | true=>exact isTrue_and_nil e
 | false=>exact e
theorem pw_or1(ha:PT X a tA):PW X (.BoolOp .Or [a] pos) tA:=by
 intro wh pins s O H Q I h;refine isTrue_or (b9 (ha pins s O H Q I h) λc s1 e=>?_);cases c with
 | false=>exact isTrue_or_nil e
 | true=>exact e
theorem pw_and(ha:PT X a tA)(hb:PW X (.BoolOp .And (b::rest) pos) QV):PW X (.BoolOp .And (a::b::rest) pos) (OD tA QV):=by
 intro wh pins s O H Q I h;refine isTrue_and (b9 (ha pins s O H _ I h) λc s1 #[H1,I1,q1]=>?_);cases c with
 | true=>exact hb wh pins s1 O H1 Q I1 q1
 | false=>exact#[H1,I1,q1]
theorem pw_or(ha:PT X a tA)(hb:PW X (.BoolOp .Or (b::rest) pos) QV):PW X (.BoolOp .Or (a::b::rest) pos) (X6 tA QV):=by
 intro wh pins s O H Q I h;refine isTrue_or (b9 (ha pins s O H _ I h) λc s1 #[H1,I1,q1]=>?_);cases c with
 | true=>exact#[H1,I1,q1]
 | false=>exact hb wh pins s1 O H1 Q I1 q1
theorem yC(ha:PT X a tA):PT X (.UnaryOp .Not a pos) (UW tA):=by
 intro pins s O H Q I h;exact isTrue_not (ha pins s O H (λc H1=>Q (!c) H1) I h)
def Pl(ta tb:TE):TE:=λO H Q=>ta O H λx H1=>∃ c,x=.bl c/\if c=true then tb O H1 Q else Q (.bl false) H1
def Tg(ta tb:TE):TE:=λO H Q=>ta O H λx H1=>∃ c,x=.bl c/\if c=true then Q (.bl true) H1 else tb O H1 Q
theorem uY{op}{t:TE}(h:PE X a t):PE X (.BoolOp op [a] pos) t:=λpins s O H Q I hw=>BoolOp_one (h pins s O H Q I hw)
theorem yP(ha:PE X a ta)(hb:PE X (.BoolOp .And (b::rest) pos) tb):PE X (.BoolOp .And (a::b::rest) pos) (Pl ta tb):=by
 intro pins s O H Q I h;refine BoolOp_and (b9 (ha pins s O H _ I h) λv s1 zz=>el2 zz λx H1 I1 r1 q1=>?_);let(c,rfl,q1):=q1;cases r1;refine wpAny_truthy_bool ?_;cases c with
 | true=>exact hb pins s1 O H1 Q I1 q1
 | false=>exact#[.bl false,H1,I1,U,q1]
theorem Ij(ha:PE X a ta)(hb:PE X (.BoolOp .Or (b::rest) pos) tb):PE X (.BoolOp .Or (a::b::rest) pos) (Tg ta tb):=by
 intro pins s O H Q I h;refine BoolOp_or (b9 (ha pins s O H _ I h) λv s1 z0q=>?_);let(x,H1,I1,r1,q1):=z0q;let(c,rfl,q1):=q1;cases r1;refine wpAny_truthy_bool ?_;cases c with
 | false=>exact hb pins s1 O H1 Q I1 q1
 | true=>exact#[.bl true,H1,I1,U,q1]
def X1(t:TT)(ta tb:TE):TE:=λO H Q=>t O H λc H1=>if c=true then ta O H1 Q else tb O H1 Q
theorem xt{c:Expr}(hc:PT X c tA)(ha:PE X a ta)(hb:PE X b tb):PE X (.IfExp c a b pos) (X1 tA ta tb):=by
 intro pins s O H Q I h;refine wpAny_IfExp (b9 (hc pins s O H _ I h) λd s1 #[H1,I1,q1]=>?_);cases d with
 | true=>exact ha pins s1 O H1 Q I1 q1
 | false=>exact hb pins s1 O H1 Q I1 q1
end
def cn(K:Frag)(H:Hp)(a:Addr)(xs:List V):Prop :=
 Rd H a (.lst xs) \/
  ∃ (o:Obj) (its:Array Value) (n:Nat),K.lookup a=some o/\o.cls=.type "list"/\o.dict=none/\o.data=.seq its n/\its.size<=sizeLine/\Vals xs its.toList
def gZ(K:Frag)(H:Hp)(a:Addr)(xs:List V):Prop :=
 Rd H a (.tup xs) \/
  ∃ (o:Obj) (its:Array Value) (n:Nat),K.lookup a=some o/\o.cls=.type "tuple"/\o.data=.seq its n/\its.size<=sizeLine/\Vals xs its.toList
def Tf:Value->Option V
 | .none=>some .cw
 | .bool b=>some (.bl b)
 | .int i _=>some (.int i)
 | .str x _=>some (.str x)
 | .bytes b _=>some (.Bj b)
 | .float b _=>some (.Uv b)
 | .ref a=>some (.ref a)
 | .type n=>some (.ty n)
 | _=>none
theorem RelV.abs{x:V}{u:Value}(r:RelV x u):Tf u=some x:=by
 cases x with
 | cw=>cases r;rfl
 | bl _=>cases r;rfl
 | int _=>let(t,rfl):=r;rfl
 | str _=>let(t,rfl):=r;rfl
 | Bj _=>let(t,rfl):=r;rfl
 | Uv _=>let(t,rfl):=r;rfl
 | ref _=>cases r;rfl
 | ty _=>cases r;rfl
theorem RelV.inj{x y:V}{u:Value}(r:RelV x u)(q:RelV y u):x=y:=YU (r.abs.symm.trans q.abs)
theorem Vals.inj:∀ {xs ys:List V} {us:List Value},Vals xs us->Vals ys us->xs=ys
 | _,_,_,.nil,.nil=>rfl
 | _,_,_,.cons r t,.cons r' t'=>by rw[r.inj r',Vals.inj t t']
section
variable{X:Cx}{pins:aau}{O:St}{H:Hp}{s:Shared}{a:Addr}{xs ys:List V}
theorem cn.of{K:Frag}(h:H a=some (.lst xs)):cn K H a xs:=.inl (.inl h)
theorem gZ.of{K:Frag}(h:H a=some (.tup xs)):gZ K H a xs:=.inl (.inl h)
theorem Inv.list(I:Inv X pins O H s)(h:cn X.K H a xs):∃ its:List Value,Vals xs its/\PlainL s.heap a its.toArray/\xs.length<=sizeLine:=by
 rcases h with h | ⟨o,its,n,hk,hc,hd,hs,hz,r⟩
 .let(z,its,n,r,e):=h.ok I.aN;exact#[its,r,#[_,n,e,U,U,U],z]
 .refine#[its.toList,r,#[o,n,I.Ig a o hk,hc,hd,by simpa using hs],?_];have e:=r.length;simp only[Array.length_toList] at e;cbv
theorem Inv.tuple(I:Inv X pins O H s)(h:gZ X.K H a xs):∃ its:List Value,Vals xs its/\IsTup s.heap a its.toArray/\xs.length<=sizeLine:=by
 rcases h with h | ⟨o,its,n,hk,hc,hs,hz,r⟩
 .let(z,its,r,p):=h.ok I.aN;exact#[its,r,p,z]
 .refine#[its.toList,r,#[o,I.Ig a o hk,hc,n,by simpa using hs],?_];have e:=r.length;simp only[Array.length_toList] at e;cbv
theorem Inv.xQ(I:Inv X pins O H s)(h:cn X.K H a xs)(h':cn X.K H a ys):xs=ys:=by
 let(its,r,(o,n,e,_,_,d),_):=I.list h;let(its',r',(o',n',e',_,_,d'),_):=I.list h';rw[e] at e';cases e';rw[d] at d';injection d' with d1 _;have:its=its':=by simpa using congrArg Array.toList d1
 subst this;exact r.inj r'
theorem Inv.t5(I:Inv X pins O H s)(h:gZ X.K H a xs)(h':gZ X.K H a ys):xs=ys:=by
 let(its,r,(o,e,_,n,d),_):=I.tuple h;let(its',r',(o',e',_,n',d'),_):=I.tuple h';rw[e] at e';cases e';rw[d] at d';injection d' with d1 _;have:its=its':=by simpa using congrArg Array.toList d1
 subst this;exact r.inj r'
end
abbrev Cx.qQ(X:Cx)(E:aat):Cx:={ X with xe:=E }
abbrev Cx.Ai(X:Cx):Cx:=X.qQ λ_ _=>False
theorem Cx.Ok.qQ{X:Cx}(ok:X.Ok)(E:aat):(X.qQ E).Ok :=
 #[ok.mod,ok.kind,ok.glob,ok.blt,ok.above,ok.inj,ok.has,ok.MI,ok.hd,ok.frames,ok.Q6,ok.QG,ok.bs,ok.HS,ok.Ce,ok.Cg,ok.qY,ok.LU]
theorem Cx.Ok.iC{X:Cx}{E:aat}(ok:(X.qQ E).Ok):X.Ok :=
 #[ok.mod,ok.kind,ok.glob,ok.blt,ok.above,ok.inj,ok.has,ok.MI,ok.hd,ok.frames,ok.Q6,ok.QG,ok.bs,ok.HS,ok.Ce,ok.Cg,ok.qY,ok.LU]
section
variable{X:Cx}{pins:aau}{O:St}{H:Hp}{s:Shared}{E:aat}
theorem Inv.qQ(I:Inv X pins O H s)(E:aat):Inv (X.qQ E) pins O H s:=#[I.ok.qQ E,I.os,I.bare,I.base,I.loc,I.cell,I.free,I.jH,I.pin,I.aN,I.len]
theorem Inv.iC(I:Inv (X.qQ E) pins O H s):Inv X pins O H s:=#[I.ok.iC,I.os,I.bare,I.base,I.loc,I.cell,I.free,I.jH,I.pin,I.aN,I.len]
theorem SP.iC{D:Ends}{f:Flow}{s':Shared}(h:SP (X.qQ E) pins D f s'):SP X pins D f s':=by
 cases f with
 | next=>let(O',H',I,q):=h;exact#[O',H',I.iC,q]
 | brk=>let(O',H',I,q):=h;exact#[O',H',I.iC,q]
 | cont=>let(O',H',I,q):=h;exact#[O',H',I.iC,q]
 | ret u=>let(v,O',H',I,r,q):=h;exact#[v,O',H',I.iC,r,q]
theorem rg.Ai{st:List Stmt}{t:TS}(h:rg X.Ai st t):rg X st t:=λpins s O H D I hw =>
 wpAny_mono (h pins s O H D (I.qQ _) hw) (λ_ _ q=>q.iC) λ_ _ z=>False.elim z
end
section
variable{X:Cx}{st:Stmt}{rest:List Stmt}{t u:TS}{e:Expr}{te:TE}{pos:Pos}
def HL:TS:=λD O H=>D.nx O H
def pF(t u:TS):TS:=λD O H=>t { D with nx:=u D } O H
theorem lR:rg X [] HL:=λ_ _ O H _ I h=>wpAny_execs_nil #[O,H,I,h]
theorem aJ(h1:PS X st t)(h2:rg X rest u):rg X (st::rest) (pF t u):=by
 intro pins s O H D I h;refine wpAny_execs_cons (b9 (h1 pins s O H { D with nx:=u D } I h) λf s1 q=>?_);cases f with
 | next =>
  let(O',H',I',q):=q;exact h2 pins s1 O' H' D I' q
 | ret v=>exact q
 | brk=>exact q
 | cont=>exact q
theorem aX(h1:PS X st t):rg X [st] t:=by
 intro pins s O H D I h;refine wpAny_execs_cons (b9 (h1 pins s O H D I h) λf s1 q=>?_);cases f with
 | next=>exact wpAny_execs_nil q
 | ret v=>exact q
 | brk=>exact q
 | cont=>exact q
def Nb:TS:=λD O H=>D.ct O H
theorem v9:PS X (.Continue pos) Nb:=λ_ _ O H _ I h=>wpAny_Continue #[O,H,I,h]
theorem Inv.quiet{pins:aau}{O:St}{H:Hp}{s:Shared}(I:Inv X pins O H s):interactive X.env=false:=by simp[interactive,I.ok.kind]
def CF(te:TE):TS:=λD O H=>te O H λ_ H1=>D.nx O H1
theorem dE(he:PE X e te)(hs:swapsWith e none pos.line X.env=pure false:=by rfl):PS X (.Expr e pos) (CF te):=by
 intro pins s O H D I h;exact wpAny_Expr_any (b9 (he pins s O H _ I h) λv s1 zz=>el2 zz λx H1 I1 r1 q1=>#[O,H1,I1,q1]) I.quiet hs
def Ho(te:TE):TS:=λD O H=>te O H D.rt
theorem eP(he:PE X e te):PS X (.Return (some e) pos) (Ho te):=by
 intro pins s O H D I h;exact wpAny_Return_some (b9 (he pins s O H _ I h) λv s1 zz=>el2 zz λx H1 I1 r1 q1=>#[x,O,H1,I1,r1,q1])
def Gq(c:TT)(t u:TS):TS:=λD O H=>c O H λb H1=>if b=true then t D O H1 else u D O H1
theorem k9{c:Expr}{a b:List Stmt}{tc:TT}(hc:PT X c tc)(ha:rg X a t)(hb:rg X b u):PS X (.If c a b pos) (Gq tc t u):=by
 intro pins s O H D I h;refine wpAny_If (b9 (hc pins s O H _ I h) λd s1 #[H1,I1,q1]=>?_);cases d with
 | true=>exact ha pins s1 O H1 D I1 q1
 | false=>exact hb pins s1 O H1 D I1 q1
def Lq:TS:=λ_ _ _=>False
theorem ub{IB:List Stmt}:rg X IB Lq:=λ_ _ _ _ _ _ h=>h.elim
end
abbrev TG:=V->St->Hp->(St->Hp->Prop)->Prop
abbrev BM:=List V->St->Hp->(St->Hp->Prop)->Prop
def PG(X:Cx)(target:Expr)(t:TG):Prop :=
 ∀ (pins:aau) (s:Shared) (O:St) (H:Hp) (v:V) (u:Value) (Q:St->Hp->Prop),Inv X pins O H s->RelV v u->t v O H Q ->
  wpAny (model X.prog X.w) X.A (assign target X.env u) (λ_ s'=>∃ O' H',Inv X pins O' H' s'/\Q O' H') X.xe s
def Fc(X:Cx)(ts:List Expr)(t:BM):Prop :=
 ∀ (pins:aau) (s:Shared) (O:St) (H:Hp) (vs:List V) (us:List Value) (Q:St->Hp->Prop),Inv X pins O H s->Vals vs us->t vs O H Q ->
  wpAny (model X.prog X.w) X.A (assignInOrder ((assignEach ts X.env).map (·.2)) us) (λ_ s'=>∃ O' H',Inv X pins O' H' s'/\Q O' H') X.xe s
abbrev K3:=V->V->V->Hp->(Hp->Prop)->Prop
def Pf(X:Cx)(t:K3):Prop :=
 ∀ (pins:aau) (s:Shared) (O:St) (H:Hp) (o i v:V) (ov iv u:Value) (Q:Hp->Prop),Inv X pins O H s->RelV o ov->RelV i iv->RelV v u->t o i v H Q ->
  wpAny (model X.prog X.w) X.A (setItem ov iv u) (λ_ s'=>∃ H',Inv X pins O H' s'/\Q H') X.xe s
section
variable{X:Cx}{pos:Pos}
def eC(i:Nat):TG:=λv O H Q=>Q (O.set i (some v)) H
theorem fb{i:Nat}{x:Str}(hN:X.N.Nodup)(hi:X.N[i]?=some x)(hx:Loc X.env.scope x)(hf:aaz X x:=by ac_nf):PG X (.Name x pos) (eC i):=by
 intro pins s O H v u Q I r h;exact wpAny_assign_Name (lT I hN hi hx r (λs' I'=>#[_,H,I',h]) hf)
def RG:BM:=λvs O H Q=>vs=[]/\Q O H
def PH(t:TG)(u:BM):BM:=λvs O H Q=>∃ v r,vs=v::r/\t v O H λO' H'=>u r O' H' Q
theorem zQ:Fc X [] RG:=by
 intro pins s O H vs us Q I r h;let(e,h):=h;subst e;cases r;exact assignInOrder_nil #[O,H,I,h]
theorem rJ{e:Expr}{es:List Expr}{t:TG}{u:BM}(h1:PG X e t)(h2:Fc X es u)(hs:(assignEach (e::es) X.env).map (·.2)=assign e X.env::(assignEach es X.env).map (·.2):=by rfl):Fc X (e::es) (PH t u):=by
 intro pins s O H vs us Q I r h;let(v,vr,e1,h):=h;subst e1;cases r with
 | cons r rr =>
  rw[hs];refine assignInOrder_cons (b9 (h1 pins s O H _ _ _ I r h) λ_ s1 #[O1,H1,I1,q1]=>?_);exact h2 pins s1 O1 H1 _ _ Q I1 rr q1
def UH(K:Frag)(n:Nat)(t:BM):TG:=λv O H Q=>∃ a xs,v=.ref a/\gZ K H a xs/\xs.length=n/\t xs O H Q
theorem CK{es:List Expr}{k:Nat}{t:BM}{n:Nat}(hc:X.calm=true)(h:Fc X es t)(hn:(assignEach es X.env).length=n:=by rfl)(kX:(assignEach es X.env).findIdx? (·.1)=none:=by rfl):PG X (.Tuple es k pos) (UH X.K n t):=by
 intro pins s O H v u Q I r hw;let(a,xs,e1,hq,hl,hw):=hw;subst e1;cases r;let(its,rv,ht,hz):=I.tuple hq;refine assign_Tuple_tuple (I.ok.hd hc) ht (by simp[hn,<- hl,rv.length]) kX λh' hx=>?_;have I1:Inv X pins O H { s with heap:=h' }:=I.kept (t':=s.toks) λb o e=>hx b o (YJ (YC e)) e;exact h pins _ O H xs _ Q I1 (by simpa using rv) hw
def Qc(to ti:TE)(t:K3):TG:=λv O H Q=>to O H λo H1=>ti O H1 λi H2=>t o i v H2 λH3=>Q O H3
theorem vn{o i:Expr}{to ti:TE}{t:K3}(ho:PE X o to)(hi:PE X i ti)(hs:Pf X t)(ha:∀ v,assign (.Subscript o i pos) X.env v=(do
   let ov <- holding [v] (eval o X.env);let iv <- holding [v,ov] (eval i X.env)
   standAt pos
   holding [v,ov,iv] (setItem ov iv v)
   release [v,ov,iv] []):=by intro _;rfl):PG X (.Subscript o i pos) (Qc to ti t):=by
 intro pins s O H v u Q I r h;rw[ha];refine wpAny_bind (wpAny_holding (b9 (ho pins s O H _ I h) λov s1 z1q=>?_));let(x,H1,I1,r1,q1):=z1q;refine wpAny_bind (wpAny_holding (b9 (hi pins s1 O H1 _ I1 q1) λiv s2 z2q=>?_));let(y,H2,I2,r2,q2):=z2q;refine wpAny_bind (wpAny_standAt (wpAny_bind (wpAny_holding (b9 (hs pins s2 O H2 x y v ov iv u _ I2 r1 r2 r q2) λ_ s3 z3q=>?_))));let(H3,I3,q3):=z3q;exact wpAny_release #[O,H3,I3,q3]
def kQ(te:TE)(g:TG):TS:=λD O H=>te O H λx H1=>g x O H1 D.nx
theorem rT{tg e:Expr}{te:TE}{g:TG}(he:PE X e te)(hg:PG X tg g)(hs:swapsWithSole [tg] e pos.line X.env=pure false:=by rfl)(hw:swappedStores [tg] e X.env=pure none:=by rfl)(h1:(assignEach [tg] X.env).map (·.2)=[assign tg X.env]:=by rfl):PS X (.Assign [tg] e pos) (kQ te g):=by
 intro pins s O H D I h;refine wpAny_Assign_stores (b9 (he pins s O H _ I h) λv s1 zz=>el2 zz λx H1 I1 r1 q1=>?_) hs hw;rw[h1];exact b9 (hg pins s1 O H1 x v _ I1 r1 q1) λ_ s2 q=>q
theorem eg{i:Nat}{x:Str}{e:Expr}{te:TE}{pos':Pos}(hN:X.N.Nodup)(hi:X.N[i]?=some x)(hx:Loc X.env.scope x)(he:PE X e te)(hs:swapsWith e (some (.Name x pos')) pos.line X.env=pure false:=by rfl)(hf:aaz X x:=by ac_nf) :
  PS X (.Assign [.Name x pos'] e pos) (kQ te (eC i)):=by
 intro pins s O H D I h;refine wpAny_Assign_Name (b9 (he pins s O H _ I h) λv s1 zz=>el2 zz λy H1 I1 r1 q1=>?_) hs;exact lT I1 hN hi hx r1 (λs2 I2=>#[_,H1,I2,q1]) hf
def Og(i j:Nat)(ta:TA):TS:=λD O H=>ta O H λvs H1=>∃ v w,vs=[v,w]/\D.nx ((O.set i (some v)).set j (some w)) H1
theorem Kk{i j:Nat}{x y:Str}{a b:Expr}{ta:TA}{px py pt:Pos}{kt k2 pt2}(hc:X.calm=true)(hN:X.N.Nodup)(hi:X.N[i]?=some x)(hj:X.N[j]?=some y)(U3:i≠j)(hx:X.env.scope.names.lookup x=some .local)(hy:X.env.scope.names.lookup y=some .local)(ha:PA X [a,b] ta)(hw:swappedStores [.Tuple [.Name x px,.Name y py] kt pt] (.Tuple [a,b] k2 pt2) X.env=pure (some [x,y]))(hs:swapsWithSole [.Tuple [.Name x px,.Name y py] kt pt] (.Tuple [a,b] k2 pt2) pos.line X.env=pure false:=by rfl) :
  PS X (.Assign [.Tuple [.Name x px,.Name y py] kt pt] (.Tuple [a,b] k2 pt2) pos) (Og i j ta):=by
 intro pins s O H D I h;rw[exec_Assign_arm];refine wpAny_bind (wpAny_standAt ?_);rw[hs];refine wpAny_bind (wpAny_pure ?_);rw[if_neg (by decide)];refine wpAny_bind (Tuple_ (b9 (ha _ pins s O H _ I h) λus s1 zz=>el2 zz λvs H1 I1 r1 q1=>?_));let(v,w,e1,q1):=q1;subst e1;obtain⟨u1,u2,rfl,rv,rw'⟩:∃ u1 u2,us=[u1,u2]/\RelV v u1/\RelV w u2:=by
  cases r1 with
  | cons p q =>
   cases q with
   | cons p' q' =>
    cases q';exact#[_,_,U,p,p']
 refine wpAny_newObj_type ?_ (by show 2<=sizeLine;decide);have I2:Inv X pins O H1 { s1 with heap:=s1.heap.push { cls:=.type "tuple",data:=.seq [u1,u2].toArray } }:=I1.kept (t':=s1.toks) λb o e=>Yq _ e;rw[hw];refine wpAny_bind (wpAny_pure ?_);show wpAny (model X.prog X.w) X.A (do rule "assign.swapped-stores";let items <- unpackItems (.ref ↑s1) 2 none;assignInOrder [λv=>bindName X.env y v,λv=>bindName X.env x v] items.reverse;pure Flow.next) _ _ _;refine wpAny_bind (wpAny_rule (wpAny_bind (unpackItems_tuple (items:=#v[u1,u2]) (I.ok.hd hc) (IsTup.new s1.heap _) λh' hx'=>?_)));have I3:=I2.kept (h':=h') (t':=s1.toks) λb o e=>hx' b o (YJ (YC e)) e;show wpAny _ _ (assignInOrder [λv=>bindName X.env y v,λv=>bindName X.env x v] [u2,u1] >>= λ_=>pure Flow.next) _ _ _;refine wpAny_bind (assignInOrder_cons (wpAny_bindName (lT I3 hN hj (.inl hy) rw' (λs2 I4=>?_) (.inr hy))));refine assignInOrder_cons (wpAny_bindName (lT I4 hN hi (.inl hx) rv (λs3 I5=>assignInOrder_nil (wpAny_pure ?_)) (.inr hx)));rw[List.set_comm _ _ (Ne.symm U3)] at I5;exact#[_,H1,I5,q1]
def B8(c:TT)(tb:TS):TS:=λD O H=>∃ W:Nat->St->Hp->Prop,(∃ m,W m O H)/\∀ m O H,W m O H ->
 c O H λb H1=>if b=true then ∃ N:St->Hp->Prop,(∀ O' H',N O' H'->∃ m',m' < m/\W m' O' H')/\tb { D with nx:=N,ct:=N,bk:=D.nx } O H1 else D.nx O H1
theorem xj{c:Expr}{body:List Stmt}{tc:TT}{tb:TS}(hp:PassesOwn (model X.prog X.w) X.A X.env X.xe)(hc:PT X c tc)(hb:rg X body tb):PS X (.While c body [] pos) (B8 tc tb):=by
 intro pins s O H D I h;let(W,(m0,w0),turn):=h;refine wpAny_While (codeAny_whileLoop (λn s'=>∃ O' H',Inv X pins O' H' s'/\W n O' H') ?_ m0 #[O,H,I,w0]);rintro n s1 ⟨O1,H1,I1,w1⟩;refine wpAny_passesOwn hp (b9 (hc pins s1 O1 H1 _ I1 (turn n O1 H1 w1)) λb s2 z4q=>?_);let(H2,I2,q2):=z4q;cases b with
 | true =>
  let(N,hN,q2):=q2;rw[if_pos U];refine wpAny_passesOwn hp (b9 (hb pins s2 O1 H2 _ I2 q2) λf s3 q3=>?_);cases f with
  | next =>
   let(O3,H3,I3,n3):=q3;let(m',hm,w3):=hN O3 H3 n3;exact#[m',hm,O3,H3,I3,w3]
  | cont =>
   let(O3,H3,I3,n3):=q3;let(m',hm,w3):=hN O3 H3 n3;exact#[m',hm,O3,H3,I3,w3]
  | brk=>exact q3
  | ret v=>exact q3
 | false =>
  rw[if_neg Yy];exact wpAny_execs_nil #[O1,H2,I2,q2]
end
structure It where
 go:Nat->Hp->Prop
 IJ:Nat->Hp->V->Hp->Prop
 stop:Nat->Hp->Prop
def jw(X:Cx)(pins:aau)(H:Hp)(b:Addr):Prop :=
 H b=none/\b≠X.env.locals/\b∉X.fs/\(b∈X.ex\/X.s₀.heap.objs.size<=b)/\(∀ x c,X.env.cells.lookup x=some c->c≠b)/\∀ p∈X.pn++pins,p.1≠b
theorem Inv.vL{X:Cx}{pins:aau}{O:St}{H H':Hp}{s:Shared}{b:Addr}(I:Inv X pins O H s)(hb:↑s<=b)(hn:H' b=none):jw X pins H' b:=by
 refine#[hn,ZK (YQ I.lt hb),I.R6 hb,.inr (Yw I.sz hb),λx c e z=>?_,λp hp z=>?_]
 .let(v,q):=I.cell x c e;exact absurd (YQ q.lt (by rw[z];exact hb)) (ZR _)
 .exact absurd (YQ (YC (I.pin p hp).1) (by rw[z];exact hb)) (ZR _)
structure Turn(P:Program)(w:World)(K:Frag)(tg:Expr)(J:It)(fp:List Addr)(it:Addr)(tn:Nat->Heap->Prop):Prop where
 mem:it∈fp
 obj:∀ i h,tn i h->∀ b∈fp,∃ o,h.get? b=some o/\∀ v,o.data≠.cell v
 keep:∀ i h h',tn i h->(∀ b∈fp,∀ o,h.get? b=some o->h'.get? b=some o)->tn i h'
 item:∀ (X:Cx),X.prog=P->X.w=w->X.K=K->X.calm=true->∀ (i:Nat) (pins:aau) (s:Shared) (O:St) (H:Hp) (E:aat),Inv X pins O H s->(∀ b∈fp,jw X pins H b)->tn i s.heap->J.go i H ->
  wpAny (model P w) X.A (pyNext (.ref it)) (λr s1=>∃ u,r=some u /\
   wpAny (model P w) X.A (letOwnedTupleGo tg (.ref it) u) (λ_ s2=>∃ x H',Inv X pins O H' s2/\RelV x u/\J.IJ i H x H'/\tn (i+1) s2.heap/\∀ b∈fp,H' b=none) E s1) E s
 done:∀ (X:Cx),X.prog=P->X.w=w->X.K=K->X.calm=true->∀ (i:Nat) (pins:aau) (s:Shared) (O:St) (H:Hp) (E:aat),Inv X pins O H s->(∀ b∈fp,jw X pins H b)->tn i s.heap->J.stop i H ->
  wpAny (model P w) X.A (pyNext (.ref it)) (λr s1=>r=none/\Inv X pins O H s1) E s
 self:∀ (A:Around) (i:Nat) (s:Shared) (Q:aat) (E:aat),tn i s.heap->Q (.ref it) s->wpAny (model P w) A (pyIter (.ref it)) Q E s
abbrev TI:=St->Hp->(It->Hp->Prop)->Prop
def Ww(X:Cx)(pins:aau)(O:St)(tg:Expr)(R:It->Hp->Prop)(Qw:Value)(s2:Shared):Prop :=
 ∃ (it:Addr) (fp:List Addr) (tn:Nat->Heap->Prop) (J:It) (H':Hp),Qw=.ref it/\Inv X pins O H' s2/\Turn X.prog X.w X.K tg J fp it tn/\tn 0 s2.heap/\(∀ b∈fp,jw X pins H' b)/\R J H'
def PI(X:Cx)(tg iter:Expr)(wi:TI):Prop :=
 ∀ (pins:aau) (s:Shared) (O:St) (H:Hp) (R:It->Hp->Prop),Inv X pins O H s->wi O H R ->
  wpAny (model X.prog X.w) X.A (eval iter X.env) (λv s1=>wpAny (model X.prog X.w) X.A (pyIter v) (Ww X pins O tg R) X.xe s1) X.xe s
theorem w9{M:Model}{A:Around}{E:aat}{s:Shared}{tg:Expr}{it:Addr}{u:Value}{o:Obj}{n:String}{vs:Array Value}{Q:Unit->Shared->Prop}(ho:s.heap.get? it=some o)(hc:o.cls=.type n)(hd:o.data=.fields vs)(hn:["enumerate","zip","dict_itemiterator","dict_reverseitemiterator","odict_iterator","itertools.zip_longest","itertools.pairwise"].contains n=false)(hQ:Q () s):wpAny M A (letOwnedTupleGo tg (.ref it) u) Q E s:=by
 unfold letOwnedTupleGo;cases tg<;>first
  | exact wpAny_pure hQ
  | (cases u<;>first
    | exact wpAny_pure hQ
    | (refine wpAny_bind (wpAny_load ho ?_)
       rw[hc,hd];show wpAny M A (if (["enumerate","zip","dict_itemiterator","dict_reverseitemiterator","odict_iterator","itertools.zip_longest","itertools.pairwise"].contains n&&vs[0]? == some (rawInt _))=true then _ else _) Q E s;rw[if_neg (by intro h;rw[hn,Bool.false_and] at h;cases h)];exact wpAny_pure hQ))
def Lo(K:Frag)(a:Addr):It :=
 #[λi H=>∃ xs x,cn K H a xs/\xs[i]?=some x,λi H x H'=>H'=H/\∀ xs,cn K H a xs->xs[i]?=some x,λi H=>∃ xs,cn K H a xs/\xs.length<=i]
def Vd(K:Frag)(a:Addr):It :=
 #[λi H=>∃ xs x,gZ K H a xs/\xs[i]?=some x,λi H x H'=>H'=H/\∀ xs,gZ K H a xs->xs[i]?=some x,λi H=>∃ xs,gZ K H a xs/\xs.length<=i]
def Jt(lo:Int)(n:Nat):It:=#[λi _=>i < n,λi H x H'=>H'=H/\x=.int (lo+i),λi _=>n<=i]
theorem tp{P:Program}{w:World}{K:Frag}{tg:Expr}(a it:Addr):Turn P w K tg (Lo K a) [it] it (λi h=>h.IsListIter it a i) where
 mem:=by simp
 obj:=λi h st b hb=>by
  have e:b=it:=by simpa using hb
  subst e;let(o,e,c,d):=st;exact#[o,e,λv z=>by rw[d] at z;cases z]
 keep:=λi h h' st k=>st.at λo e=>k it (by simp) o e
 item:=by
  intro X hP hw hK hc i pins s O H E I hf st hg;subst hP hw hK;let(xs,x,hq,hx):=hg;let(its,rv,p,hz):=I.list hq;let(u,hu,ru):=rv.get hx;let(f0,f1,f2,f3,f4,f5):=hf it (by simp);refine wpAny_pyNext_list_item st p.isList (x:=u) (by simpa using hu) λh' st' sb=>?_;have I1:Inv X pins O H { s with heap:=h' }:=I.turned (t':=s.toks) (λb o hb e=>(sb.2 b hb).trans e) f0 f1 f3 f4 f5;let(o,e,c,d):=id st';exact#[u,U,w9 (s:={ s with heap:=h' }) e c d (by decide) #[x,H,I1,ru,#[U,λys hy=>by rw[I.xQ hy hq];exact hx],st',λb hb=>(hf b hb).1]]
 done:=by
  intro X hP hw hK hc i pins s O H E I hf st hg;subst hP hw hK;let(xs,hq,hx):=hg;let(its,rv,p,hz):=I.list hq;let(f0,f1,f2,f3,f4,f5):=hf it (by simp);have hl:=rv.length;exact wpAny_pyNext_list_end (I.ok.hd hc) st p.isList (by simp;cbv) λh' eb=>#[U,I.turned (t':=s.toks) (λb o hb e=>eb b o hb e) f0 f1 f3 f4 f5]
 self:=λ_ _ _ _ _ st h=>wpAny_pyIter_listiter st h
theorem y4{P:Program}{w:World}{K:Frag}{tg:Expr}(a it:Addr):Turn P w K tg (Vd K a) [it] it (λi h=>h.IsTupleIter it a i) where
 mem:=by simp
 obj:=λi h st b hb=>by
  have e:b=it:=by simpa using hb
  subst e;let(o,e,c,d):=st;exact#[o,e,λv z=>by rw[d] at z;cases z]
 keep:=λi h h' st k=>st.at λo e=>k it (by simp) o e
 item:=by
  intro X hP hw hK hc i pins s O H E I hf st hg;subst hP hw hK;let(xs,x,hq,hx):=hg;let(its,rv,p,hz):=I.tuple hq;let(u,hu,ru):=rv.get hx;let(f0,f1,f2,f3,f4,f5):=hf it (by simp);refine wpAny_pyNext_tuple_item st (show s.heap.IsTuple a its.toArray from p) (x:=u) (by simpa using hu) λh' st' sb=>?_;have I1:Inv X pins O H { s with heap:=h' }:=I.turned (t':=s.toks) (λb o hb e=>(sb.2 b hb).trans e) f0 f1 f3 f4 f5;let(o,e,c,d):=id st';exact#[u,U,w9 (s:={ s with heap:=h' }) e c d (by decide) #[x,H,I1,ru,#[U,λys hy=>by rw[I.t5 hy hq];exact hx],st',λb hb=>(hf b hb).1]]
 done:=by
  intro X hP hw hK hc i pins s O H E I hf st hg;subst hP hw hK;let(xs,hq,hx):=hg;let(its,rv,p,hz):=I.tuple hq;let(f0,f1,f2,f3,f4,f5):=hf it (by simp);have hl:=rv.length;exact wpAny_pyNext_tuple_end (I.ok.hd hc) st (show s.heap.IsTuple a its.toArray from p) (by simp;cbv) λh' eb=>#[U,I.turned (t':=s.toks) (λb o hb e=>eb b o hb e) f0 f1 f3 f4 f5]
 self:=λ_ _ _ _ _ st h=>wpAny_pyIter_tupleiter st h
theorem yE{P:Program}{w:World}{K:Frag}{tg:Expr}(it:Addr)(lo:Int)(n:Nat):Turn P w K tg (Jt lo n) [it] it (λi h=>IsRangeIter h it (lo+(i:Nat) * 1) ((n:Int) - (i:Nat)) 1) where
 mem:=by simp
 obj:=λi h st b hb=>by
  have e:b=it:=by simpa using hb
  subst e;exact#[_,st,λv z=>by
   have z':Data.fields _=Data.cell v:=z;cases z']
 keep:=λi h h' st k=>k it (by simp) _ st
 item:=by
  intro X hP hw hK hc i pins s O H E I hf st hg;subst hP hw hK;let(f0,f1,f2,f3,f4,f5):=hf it (by simp);have W:=Walks.range (prog:=X.prog) (w:=X.w) (I.ok.hd hc) it lo 1 n;refine W.item i s _ _ hg st λv h' tk hv st' kk=>?_;let(t,rfl):=hv;have I1:Inv X pins O H { s with heap:=h',toks:=tk }:=I.turned (λb o hb e=>kk b o (by simpa using hb) e) f0 f1 f3 f4 f5;refine#[_,U,w9 (s:={ s with heap:=h',toks:=tk }) (n:="range_iterator") st' U U (by decide) #[.int (lo+i),H,I1,#[t,?_],#[U,U],st',λb hb=>(hf b hb).1]];rw[Int.mul_one]
 done:=by
  intro X hP hw hK hc i pins s O H E I hf st hg;subst hP hw hK;let(f0,f1,f2,f3,f4,f5):=hf it (by simp);exact wpAny_pyNext_range_end (I.ok.hd hc) st (by have:n<=i:=hg;cbv) λh' eb=>#[U,I.turned (t':=s.toks) (λb o hb e=>eb b o hb e) f0 f1 f3 f4 f5]
 self:=λ_ _ _ _ _ st h=>wpAny_pyIter_rangeiter st h
section
variable{X:Cx}{tg:Expr}
def Aj(K:Frag)(tl:TE):TI:=λO H R=>tl O H λx H1=>∃ a,x=.ref a/\(∃ xs,cn K H1 a xs)/\R (Lo K a) H1
theorem lS{l:Expr}{tl:TE}(hl:PE X l tl):PI X tg l (Aj X.K tl):=by
 intro pins s O H R I h;refine b9 (hl pins s O H _ I h) λv s1 z5q=>?_;let(x,H1,I1,r1,q1):=z5q;let(a,e,(xs,hq),q):=q1;subst e;cases r1;let(its,rv,p,hz):=I1.list hq;refine wpAny_pyIter_list p.isList ?_;refine#[↑s1,[↑s1],_,_,H1,U,I1.kept (t':=s1.toks) λb o e=>Yq _ e,tp a _,#[_,YD _ U,U,U],λb hb=>?_,q];have e:b=↑s1:=by simpa using hb
 subst e;exact I1.vL (Ys _) (I1.aN.fresh (Ys _))
theorem Ee{pins:aau}{O:St}{H:Hp}{s:Shared}{R:It->Hp->Prop}{E:aat}{lo hi:Int}{t u v:Tok}{tk:Nat}(I:Inv X pins O H s)(h1:-(2 ^ 62)<=lo)(h2:lo < 2 ^ 62)(h3:-(2 ^ 62)<=hi)(h4:hi < 2 ^ 62)(q:R (Jt lo (hi - lo).toNat) H):wpAny (model X.prog X.w) X.A (pyIter (.ref ↑s)) (Ww X pins O tg R) E { s with heap:=s.heap.push { cls:=.type "range",data:=.fields #v[.int lo t,.int hi u,.int 1 v] },toks:=tk }:=by
 refine wpAny_pyIter_range (IsRange.new ..) (small_one h1 h2 h3 h4) ?_;have I1:Inv X pins O H { s with heap:=s.heap.push { cls:=.type "range",data:=.fields #v[.int lo t,.int hi u,.int 1 v] },toks:=tk }:=I.kept λb o e=>Yq _ e;refine#[(s.heap.push { cls:=.type "range",data:=.fields #v[.int lo t,.int hi u,.int 1 v] }).objs.size,[(s.heap.push { cls:=.type "range",data:=.fields #v[.int lo t,.int hi u,.int 1 v] }).objs.size],_,_,H,U,
  I1.kept (t':=tk) λb o e=>Yq _ e,yE _ lo (hi - lo).toNat,?_,λb hb=>?_,q]
 .have e1:lo+((0:Nat):Int) * 1=lo:=by simp
  have e2:(((hi - lo).toNat:Nat):Int) - ((0:Nat):Int)=Builtin.Range.rangeSize lo hi 1:=by rw[rangeSize_one];split<;>cbv
  show IsRangeIter _ _ (lo+((0:Nat):Int) * 1) ((((hi - lo).toNat:Nat):Int) - ((0:Nat):Int)) 1;rw[e1,e2];exact YD _ U
 .have e:b=(s.heap.push { cls:=.type "range",data:=.fields #v[.int lo t,.int hi u,.int 1 v] }).objs.size:=by simpa using hb
  subst e;exact I1.vL (Ys _) (I1.aN.fresh (Ys _))
def N5(ta:TA):TI:=λO H R=>ta O H λvs H1=>∃ j:Int,vs=[.int j]/\-(2 ^ 62)<=j/\j < 2 ^ 62/\R (Jt 0 j.toNat) H1
theorem tZ{a:Expr}{ta:TA}{p pos:Pos}(hg:Gl X "range")(hm:X.mg "range"=none)(ha:PA X [a] ta)(hs:starEach [a] X.env=[(false,eval a X.env)]:=by rfl):PI X tg (.Call (.Name "range" p) [a] [] pos) (N5 ta):=by
 intro pins s O H R I h;refine Call_ (j6 I hg hm boot_range (PyProof.Rows.callWith_type1 (b9 (ha pos pins s O H _ I h) λus s1 zz=>el2 zz λvs H1 I1 r1 q1=>?_) hs U));let(j,e,q1,q2,q):=q1;subst e;cases r1 with
 | cons r rr =>
  cases rr;let(t,rfl):=r;exact call_range_1 (Ee I1 (by cbv) (by cbv) q1 q2 (by simpa using q))
def Mf(wi:TI)(g:TG)(tb:TS):TS:=λD O H=>wi O H λJ H1=>∃ W:Nat->Nat->St->Hp->Prop,(∃ m,W 0 m O H1)/\∀ i m O H,W i m O H ->
 (J.stop i H/\D.nx O H)\/(J.go i H/\∃ N:St->Hp->Prop,(∀ O' H',N O' H'->∃ m',m' < m/\W (i+1) m' O' H')/\∀ x H',J.IJ i H x H'->g x O H' λO2 H2=>tb { D with nx:=N,ct:=N,bk:=D.nx } O2 H2)
def rR(fp:List Addr)(h:Heap):aau:=fp.filterMap λb=>(h.get? b).map λo=>(b,o)
theorem iF{fp:List Addr}{h:Heap}{b:Addr}{o:Obj}(hb:b∈fp)(e:h.get? b=some o):(b,o)∈rR fp h:=List.mem_filterMap.mpr #[b,hb,by rw[e];rfl]
theorem AO{fp:List Addr}{h:Heap}{p:Addr×Obj}(hp:p∈rR fp h):p.1∈fp/\h.get? p.1=some p.2:=by
 let(b,hb,e):=List.mem_filterMap.mp hp;cases q:h.get? b with
 | none=>rw[q] at e;cases e
 | some o =>
  rw[q] at e;have e':(b,o)=p:=YU e;subst e';exact#[hb,q]
theorem Inv.pinned{pins:aau}{O:St}{H:Hp}{s:Shared}{fp:List Addr}(I:Inv X pins O H s)(hf:∀ b∈fp,jw X pins H b)(ho:∀ b∈fp,∃ o,s.heap.get? b=some o/\∀ v,o.data≠.cell v):Inv X (pins++rR fp s.heap) O H s :=
 I.Av λp hp=>(Yz.mp hp).elim (λz=>I.pin p (Y1 _ z)) λz=>by
  let(hb,e):=AO z;let(f0,f1,f2,_):=hf p.1 hb;let(o,e',d):=ho p.1 hb;rw[e] at e';cases e';exact#[e,f0,f1,f2,d]
theorem Inv.mm{pins pl:aau}{O:St}{H:Hp}{s:Shared}(I:Inv X (pins++pl) O H s):Inv X pins O H s:=I.Av λp hp=>I.pin p (Y1 _ (Zd _ hp))
abbrev aaA (i:Expr)(N:Env):Prop:=∀ x,foldedSetIterable i N x=pure x
theorem nX{iter:Expr}{body:List Stmt}{wi:TI}{g:TG}{tb:TS}{pos:Pos}(hp:PassesOwn (model X.prog X.w) X.A X.env X.xe)(hc:X.calm=true)(hi:PI X tg iter wi)(hg:PG X tg g)(hb:rg X body tb)(hs:aaA iter X.env:=by intro _;rfl):PS X (.For tg iter body [] pos) (Mf wi g tb):=by
 intro pins s O H D I h;refine wpAny_For (b9 (hi pins s O H _ I h) λv s1 h1=>b9 h1 λQw s2 h2=>?_) hs;let(it,fp,tn,J,H2,e,I2,T,J7,f2,W,(m0,w0),turn):=h2;subst e
 -- what stays true of the iterator's objects through the loop
 have stat:∀ {H':Hp},(∀ b∈fp,H' b=none)->∀ b∈fp,jw X pins H' b:=λhn b hb=>#[hn b hb,(f2 b hb).2];refine codeAny_forLoop_any (λn s'=>∃ i O' H',Inv X pins O' H' s'/\tn i s'.heap/\(∀ b∈fp,H' b=none)/\W i n O' H') ?_ m0 #[0,O,H2,I2,J7,λb hb=>(f2 b hb).1,w0];rintro n s3 ⟨i,O3,H3,I3,st3,fr3,w3⟩;rcases turn i n O3 H3 w3 with ⟨stop,qn⟩ | ⟨go,N,hN,step⟩
 .refine wpAny_passesOwn hp (b9 (T.done X U U U hc i pins s3 O3 H3 X.xe I3 (stat fr3) st3 stop) λr s4 z6q=>?_);let(hr,I4):=z6q;subst hr;exact wpAny_execs_nil #[O3,H3,I4,qn]
 .refine wpAny_passesOwn hp (b9 (T.item X U U U hc i pins s3 O3 H3 X.xe I3 (stat fr3) st3 go) λr s4 z7q=>?_);let(u,hr,h4):=z7q;subst hr;refine wpAny_passesOwn hp (b9 h4 λ_ s5 z8q=>?_);let(x,H5,I5,r5,y5,st5,fr5):=z8q;have I5':=I5.pinned (stat fr5) (T.obj _ _ st5);refine wpAny_passesOwn hp (b9 (hg _ s5 O3 H5 x u _ I5' r5 (step x H5 y5)) λ_ s6 z9q=>?_);let(O6,H6,I6,q6):=z9q;refine wpAny_passesOwn hp (b9 (hb _ s6 O6 H6 _ I6 q6) λf s7 q7=>?_);have again:∀ {O7:St} {H7:Hp},Inv X (pins++rR fp s5.heap) O7 H7 s7->N O7 H7->∃ m,m < n/\∃ i O' H',Inv X pins O' H' s7/\tn i s7.heap/\(∀ b∈fp,H' b=none)/\W i m O' H':=λ{O7 H7} I7 n7=>by
   let(m',hm,w7):=hN O7 H7 n7;refine#[m',hm,i+1,O7,H7,I7.mm,T.keep _ _ _ st5 λb hb o e=>(I7.pin (b,o) (Y1 _ (Y1 _ (iF hb e)))).1,λb hb=>?_,w7];let(o,e,d):=T.obj _ _ st5 b hb;exact (I7.pin (b,o) (Y1 _ (Y1 _ (iF hb e)))).2.1
  cases f with
  | next=>let(O7,H7,I7,n7):=q7;exact again I7 n7
  | cont=>let(O7,H7,I7,n7):=q7;exact again I7 n7
  | brk=>let(O7,H7,I7,q7):=q7;exact#[O7,H7,I7.mm,q7]
  | ret v=>let(x7,O7,H7,I7,r7,q7):=q7;exact#[x7,O7,H7,I7.mm,r7,q7]
end
theorem rH{K:Frag}{a:Addr}{xs:List V}{g:TG}{tb:TS}{D:Ends}{O:St}{H:Hp}(Pv:Nat->St->Hp->Prop)(h0:Pv 0 O H)(hl:∀ i O H,i<=xs.length->Pv i O H->cn K H a xs)(hs:∀ i x O H,xs[i]?=some x->Pv i O H->g x O H λO2 H2=>tb { D with nx:=Pv (i+1),ct:=Pv (i+1),bk:=D.nx } O2 H2)(hd:∀ O H,Pv xs.length O H->D.nx O H) :
  ∃ W:Nat->Nat->St->Hp->Prop,(∃ m,W 0 m O H)/\∀ i m O H,W i m O H ->
   ((Lo K a).stop i H/\D.nx O H)\/((Lo K a).go i H/\∃ N:St->Hp->Prop,(∀ O' H',N O' H'->∃ m',m' < m/\W (i+1) m' O' H')/\∀ x H',(Lo K a).IJ i H x H'->g x O H' λO2 H2=>tb { D with nx:=N,ct:=N,bk:=D.nx } O2 H2):=by
 refine#[λi m O H=>m=xs.length - i/\i<=xs.length/\Pv i O H,#[xs.length,by simp,Nat.zero_le _,h0],?_];rintro i m O H ⟨rfl,hi,p⟩;have q:=hl i O H hi p;by_cases kR:i < xs.length
 .refine .inr #[#[xs,xs[i],q,by simp[kR]],Pv (i+1),λO' H' p'=>#[xs.length - (i+1),by cbv,U,kR,p'],λx H' y=>?_];let(e,y):=y;subst e;exact hs i x O _ (y xs q) p
 .have e:i=xs.length:=by cbv
  subst e;exact .inl #[#[xs,q,Ys _],hd O H p]
theorem A7{lo:Int}{n:Nat}{g:TG}{tb:TS}{D:Ends}{O:St}{H:Hp}(Pv:Nat->St->Hp->Prop)(h0:Pv 0 O H)(hs:∀ i O H,i < n->Pv i O H->g (.int (lo+i)) O H λO2 H2=>tb { D with nx:=Pv (i+1),ct:=Pv (i+1),bk:=D.nx } O2 H2)(hd:∀ O H,Pv n O H->D.nx O H) :
  ∃ W:Nat->Nat->St->Hp->Prop,(∃ m,W 0 m O H)/\∀ i m O H,W i m O H ->
   ((Jt lo n).stop i H/\D.nx O H)\/((Jt lo n).go i H/\∃ N:St->Hp->Prop,(∀ O' H',N O' H'->∃ m',m' < m/\W (i+1) m' O' H')/\∀ x H',(Jt lo n).IJ i H x H'->g x O H' λO2 H2=>tb { D with nx:=N,ct:=N,bk:=D.nx } O2 H2):=by
 refine#[λi m O H=>m=n - i/\i<=n/\Pv i O H,#[n,by simp,Nat.zero_le _,h0],?_];rintro i m O H ⟨rfl,hi,p⟩;by_cases kR:i < n
 .refine .inr #[kR,Pv (i+1),λO' H' p'=>#[n - (i+1),by cbv,U,kR,p'],λx H' y=>?_];let(e,y):=y;subst e y;exact hs i O _ kR p
 .have e:i=n:=by cbv
  subst e;exact .inl #[Ys _,hd O H p]
abbrev R2:=V->V->Hp->VK->Prop
def iT(X:Cx)(f:Value->Value->Sem Value)(r:R2):Prop :=
 ∀ (pins:aau) (s:Shared) (O:St) (H:Hp) (x y:V) (v u:Value) (Q:VK),Inv X pins O H s->RelV x v->RelV y u->r x y H Q ->
  wpAny (model X.prog X.w) X.A (f v u) (EP X pins O Q) X.xe s
def Ss(X:Cx)(f:Value->Sem Value)(r:V->Hp->VK->Prop):Prop :=
 ∀ (pins:aau) (s:Shared) (O:St) (H:Hp) (x:V) (v:Value) (Q:VK),Inv X pins O H s->RelV x v->r x H Q ->
  wpAny (model X.prog X.w) X.A (f v) (EP X pins O Q) X.xe s
def fH(X:Cx)(f:Value)(r:List V->Hp->VK->Prop):Prop :=
 ∀ (pins:aau) (s:Shared) (O:St) (H:Hp) (xs:List V) (us:List Value) (Q:VK),Inv X pins O H s->Vals xs us->r xs H Q ->
  wpAny (model X.prog X.w) X.A (call f us) (EP X pins O Q) X.xe s
def UT(X:Cx)(r:V->Hp->(Bool->Hp->Prop)->Prop):Prop :=
 ∀ (pins:aau) (s:Shared) (O:St) (H:Hp) (x:V) (v:Value) (Q:Bool->Hp->Prop),Inv X pins O H s->RelV x v->r x H Q ->
  wpAny (model X.prog X.w) X.A (truthy v) (TP X pins O Q) X.xe s
def jh(r:R2)(ta tb:TE):TE:=λO H Q=>ta O H λx H1=>tb O H1 λy H2=>r x y H2 Q
def Xs(r:V->Hp->VK->Prop)(ta:TE):TE:=λO H Q=>ta O H λx H1=>r x H1 Q
def rI(C:Int->Int->Prop)(g:Int->Int->V):R2:=λx y H Q=>∃ i j,x=.int i/\y=.int j/\C i j/\Q (g i j) H
def vo(g:Int->Int->V):R2:=λx y H Q=>∃ i j,x=.int i/\y=.int j/\Q (g i j) H
def rU(g:Int->V):V->Hp->VK->Prop:=λx H Q=>∃ i,x=.int i/\Q (g i) H
section
variable{X:Cx}{a b c:Expr}{ta tb tc:TE}{pos:Pos}
theorem IU(ha:PE X a ta)(hb:PE X b tb){pins:aau}{s:Shared}{O:St}{H:Hp}{R:V->V->Hp->Prop}(I:Inv X pins O H s)(h:ta O H λx H1=>tb O H1 λy H2=>R x y H2){Q:aat}{f:Value->Value->Sem Value}(hf:∀ v u s2 x y H2,Inv X pins O H2 s2->RelV x v->RelV y u->R x y H2->wpAny (model X.prog X.w) X.A (f v u) Q X.xe s2) :
  wpAny (model X.prog X.w) X.A (eval a X.env) (λv s₁=>wpAny (model X.prog X.w) X.A (eval b X.env) (λu s₂=>wpAny (model X.prog X.w) X.A (f v u) Q X.xe s₂) X.xe s₁) X.xe s:=by
 refine b9 (ha pins s O H _ I h) λv s1 zz=>el2 zz λx H1 I1 r1 q1=>?_;refine b9 (hb pins s1 O H1 _ I1 q1) λu s2 zz=>el2 zz λy H2 I2 r2 q2=>?_;exact hf v u s2 x y H2 I2 r1 r2 q2
theorem dj{op:Operator}{r:R2}(ho:iT X (binaryOp op) r)(ha:PE X a ta)(hb:PE X b tb):PE X (.BinOp a op b pos) (jh r ta tb):=by
 intro pins s O H Q I h;exact wpAny_BinOp (IU ha hb I h λv u s2 x y H2 I2 rx ry q=>ho pins s2 O H2 x y v u Q I2 rx ry q)
theorem IA{op:UnaryOp}{r:V->Hp->VK->Prop}(ho:Ss X (unaryOp op) r)(ha:PE X a ta):PE X (.UnaryOp op a pos) (Xs r ta):=by
 intro pins s O H Q I h;exact UnaryOp_ (b9 (ha pins s O H _ I h) λv s1 zz=>el2 zz λx H1 I1 r1 q1=>ho pins s1 O H1 x v Q I1 r1 q1)
theorem QL{f:Value->Value->Sem Value}{C:Int->Int->Prop}{g:Int->Int->Int}(rule:∀ (i j:Int) (t u:Tok) (s:Shared) (Q:aat) (E:aat),C i j->Q (.int (g i j) s.toks) { s with toks:=s.toks+1 }->wpAny (model X.prog X.w) X.A (f (.int i t) (.int j u)) Q E s) :
  iT X f (rI C λi j=>.int (g i j)):=by
 intro pins s O H x y v u Q I rx ry h;let(i,j,rfl,rfl,hc,q):=h;let(t,rfl):=rx;let(t',rfl):=ry;exact rule i j t t' s _ _ hc #[.int (g i j),H,I.tok _,#[_,U],q]
theorem Pz{f:Value->Value->Sem Value}{g:Int->Int->Int}(rule:∀ (i j:Int) (t u:Tok) (s:Shared) (Q:aat) (E:aat),Q (.int (g i j) s.toks) { s with toks:=s.toks+1 }->wpAny (model X.prog X.w) X.A (f (.int i t) (.int j u)) Q E s) :
  iT X f (vo λi j=>.int (g i j)):=by
 intro pins s O H x y v u Q I rx ry h;let(i,j,rfl,rfl,q):=h;let(t,rfl):=rx;let(t',rfl):=ry;exact rule i j t t' s _ _ #[.int (g i j),H,I.tok _,#[_,U],q]
theorem Fy{f:Value->Value->Sem Value}{g:Int->Int->Bool}(rule:∀ (i j:Int) (t u:Tok) (s:Shared) (Q:aat) (E:aat),Q (.bool (g i j)) s->wpAny (model X.prog X.w) X.A (f (.int i t) (.int j u)) Q E s) :
  iT X f (vo λi j=>.bl (g i j)):=by
 intro pins s O H x y v u Q I rx ry h;let(i,j,rfl,rfl,q):=h;let(t,rfl):=rx;let(t',rfl):=ry;exact rule i j t t' s _ _ #[.bl (g i j),H,I,U,q]
def PY(i j:Int):Prop:=0<=j/\j<=1000000/\i.natAbs < 2 ^ 64
def uF(i j:Int):Prop:=(-(2 ^ 64) < i/\i < 2 ^ 64)\/(-(2 ^ 64) < j/\j < 2 ^ 64)
theorem uF.ok{i j:Int}(h:uF i j):IntMulOk i j:=by
 rcases h with ⟨h1,h2⟩ | ⟨h1,h2⟩
 .exact .of_left (intBits_le_64 h1 h2)
 .exact .of_right (intBits_le_64 h1 h2)
theorem cN:iT X (binaryOp .Add) (vo λi j=>.int (i+j)):=Pz λ_ _ _ _ _ _ _ q=>add_int q
theorem qO:iT X (binaryOp .Sub) (vo λi j=>.int (i - j)):=Pz λ_ _ _ _ _ _ _ q=>sub_int q
theorem lC:iT X (binaryOp .Mult) (rI uF λi j=>.int (i * j)):=QL λ_ _ _ _ _ _ _ hc q=>mul_int q hc.ok
theorem gr:iT X (binaryOp .Mod) (rI (λ_ j=>0 < j) λi j=>.int (i % j)):=QL λi j _ _ _ _ _ hc q=>by
 have h1:(0:Int) < j:=hc;exact mod_int' (by cbv) (by rw[Int.fmod_eq_emod_of_nonneg i (by cbv)];exact q)
theorem JD:iT X (binaryOp .Pow) (rI PY λi j=>.int (i ^ j.toNat)):=QL λ_ _ _ _ _ _ _ hc q=>pow_int_small hc.1 hc.2.1 hc.2.2 q
theorem XM{f:Value->Sem Value}{g:Int->Int}(rule:∀ (i:Int) (t:Tok) (s:Shared) (Q:aat) (E:aat),Q (.int (g i) s.toks) { s with toks:=s.toks+1 }->wpAny (model X.prog X.w) X.A (f (.int i t)) Q E s) :
  Ss X f (rU λi=>.int (g i)):=by
 intro pins s O H x v Q I rx h;let(i,rfl,q):=h;let(t,rfl):=rx;exact rule i t s _ _ #[.int (g i),H,I.tok _,#[_,U],q]
theorem EV:Ss X (unaryOp .USub) (rU λi=>.int (-i)):=XM λ_ _ _ _ _ q=>neg_int q
end
def Gy:V->V->Bool
 | .cw,.cw=>true | .cw,.int _=>true | .int _,.cw=>true | .cw,.bl _=>true | .bl _,.cw=>true | .cw,.str _=>true | .str _,.cw=>true
 | .int _,.int _=>true | .bl _,.bl _=>true | .str _,.str _=>true | .Bj _,.Bj _=>true
 | .int _,.str _=>true | .str _,.int _=>true | .bl _,.str _=>true | .str _,.bl _=>true
 | _,_=>false
def R4:R2:=λx y H Q=>Gy x y=true/\Q (.bl (decide (x=y))) H
def Wa:R2:=λx y H Q=>Gy x y=true/\Q (.bl (!decide (x=y))) H
theorem Ax{i j:Int}:decide (V.int i=V.int j)=(i == j):=by
 rw[ZF];simp
theorem EY{i j:Bool}:decide (V.bl i=V.bl j)=(i == j):=by
 rw[ZF];simp
theorem Au{i j:Str}:decide (V.str i=V.str j)=(i == j):=by
 rw[ZF];simp
theorem Ag{i j:Array UInt8}:decide (V.Bj i=V.Bj j)=(i.toList == j.toList):=by
 rw[ZF];cases i;cases j;simp
section
variable{X:Cx}{a b c:Expr}{ta tb tc:TE}{pos:Pos}
theorem bq{pins:aau}{O:St}{H:Hp}{s:Shared}{Q:VK}{k k':Bool}(I:Inv X pins O H s)(q:Q (.bl k) H)(e:k=k'):EP X pins O Q (.bool k') s:=by
 subst e;exact#[.bl k,H,I,U,q]
theorem aM:iT X (compareOp .Eq) R4:=by
 intro pins s O H x y v u Q I rx ry h;let(hs,q):=h;cases x with
 | cw =>
  cases rx;cases y with
  | cw=>cases ry;exact PySem.EqNone.eq_none_none (bq I q (by simp))
  | bl j=>cases ry;exact PySem.EqNone.eq_none_bool (bq I q (by simp))
  | int j=>let(t',rfl):=ry;exact PySem.EqNone.eq_none_int (bq I q (by simp))
  | str j=>let(t',rfl):=ry;exact PySem.EqNone.eq_none_str (bq I q (by simp))
  | _=>exact absurd (show false=true from hs) Yy
 | bl i =>
  cases rx;cases y with
  | cw=>cases ry;exact PySem.EqNone.eq_bool_none (bq I q (by simp))
  | bl j=>cases ry;exact eq_bool (bq I q EY)
  | str j=>let(t',rfl):=ry;exact PySem.EqMixed.eq_bool_str (bq I q (by simp))
  | _=>exact absurd (show false=true from hs) Yy
 | int i =>
  let(t,rfl):=rx;cases y with
  | cw=>cases ry;exact PySem.EqNone.eq_int_none (bq I q (by simp))
  | int j=>let(t',rfl):=ry;exact eq_int (bq I q Ax)
  | str j=>let(t',rfl):=ry;exact PySem.EqMixed.eq_int_str (bq I q (by simp))
  | _=>exact absurd (show false=true from hs) Yy
 | str i =>
  let(t,rfl):=rx;cases y with
  | cw=>cases ry;exact PySem.EqNone.eq_str_none (bq I q (by simp))
  | bl j=>cases ry;exact PySem.EqMixed.eq_str_bool (bq I q (by simp))
  | int j=>let(t',rfl):=ry;exact PySem.EqMixed.eq_str_int (bq I q (by simp))
  | str j=>let(t',rfl):=ry;exact eq_str (bq I q Au)
  | _=>exact absurd (show false=true from hs) Yy
 | Bj i =>
  let(t,rfl):=rx;cases y with
  | Bj j=>let(t',rfl):=ry;exact PySem.W.eq_bytes (bq I q Ag)
  | _=>exact absurd (show false=true from hs) Yy
 | _=>cases y<;>exact absurd (show false=true from hs) Yy
theorem wW:iT X (compareOp .NotEq) Wa:=by
 intro pins s O H x y v u Q I rx ry h;let(hs,q):=h;cases x with
 | cw =>
  cases rx;cases y with
  | cw=>cases ry;exact PySem.EqNone.ne_none_none (bq I q (by simp))
  | bl j=>cases ry;exact PySem.EqNone.ne_none_bool (bq I q (by simp))
  | int j=>let(t',rfl):=ry;exact PySem.EqNone.ne_none_int (bq I q (by simp))
  | str j=>let(t',rfl):=ry;exact PySem.EqNone.ne_none_str (bq I q (by simp))
  | _=>exact absurd (show false=true from hs) Yy
 | bl i =>
  cases rx;cases y with
  | cw=>cases ry;exact PySem.EqNone.ne_bool_none (bq I q (by simp))
  | bl j=>cases ry;exact ne_bool (bq I q (congrArg not EY))
  | str j=>let(t',rfl):=ry;exact PySem.EqMixed.ne_bool_str (bq I q (by simp))
  | _=>exact absurd (show false=true from hs) Yy
 | int i =>
  let(t,rfl):=rx;cases y with
  | cw=>cases ry;exact PySem.EqNone.ne_int_none (bq I q (by simp))
  | int j=>let(t',rfl):=ry;exact ne_int (bq I q (congrArg not Ax))
  | str j=>let(t',rfl):=ry;exact PySem.EqMixed.ne_int_str (bq I q (by simp))
  | _=>exact absurd (show false=true from hs) Yy
 | str i =>
  let(t,rfl):=rx;cases y with
  | cw=>cases ry;exact PySem.EqNone.ne_str_none (bq I q (by simp))
  | bl j=>cases ry;exact PySem.EqMixed.ne_str_bool (bq I q (by simp))
  | int j=>let(t',rfl):=ry;exact PySem.EqMixed.ne_str_int (bq I q (by simp))
  | str j=>let(t',rfl):=ry;exact ne_str (bq I q (congrArg not Au))
  | _=>exact absurd (show false=true from hs) Yy
 | Bj i =>
  let(t,rfl):=rx;cases y with
  | Bj j=>let(t',rfl):=ry;exact PySem.W.ne_bytes (bq I q (congrArg not Ag))
  | _=>exact absurd (show false=true from hs) Yy
 | _=>cases y<;>exact absurd (show false=true from hs) Yy
theorem Hw:iT X (compareOp .Lt) (vo λi j=>.bl (decide (i < j))):=Fy λ_ _ _ _ _ _ _ q=>lt_int q
theorem zw:iT X (compareOp .LtE) (vo λi j=>.bl (decide (i<=j))):=Fy λ_ _ _ _ _ _ _ q=>le_int q
theorem mQ:iT X (compareOp .Gt) (vo λi j=>.bl (decide (j < i))):=Fy λ_ _ _ _ _ _ _ q=>gt_int q
theorem so:iT X (compareOp .GtE) (vo λi j=>.bl (decide (j<=i))):=Fy λ_ _ _ _ _ _ _ q=>ge_int q
theorem Gw:iT X (compareOp .IsNot) (λx y H Q=>y=.cw/\Q (.bl (!decide (x=.cw))) H):=by
 intro pins s O H x y v u Q I rx ry h;let(rfl,q):=h;cases ry;refine isnot_none_gen (bq I q ?_);cases x<;>first
  | (cases rx;rfl)
  | (let(t,rfl):=rx;rfl)
theorem ax(b:Expr){op:CmpOp}(h:op≠.In:=by decide)(h2:op≠.NotIn:=by decide):behindInMarks op b=false:=by
 have e1:(op == CmpOp.In)=false:=by cases op<;>first | rfl | exact absurd U h
 have e2:(op == CmpOp.NotIn)=false:=by cases op<;>first | rfl | exact absurd U h2
 cases b<;>simp[behindInMarks,e1,e2]
theorem iV{op:CmpOp}{r:R2}(ho:iT X (compareOp op) r)(ha:PE X a ta)(hb:PE X b tb)(hm:behindInMarks op b=false):PE X (.Compare a [op] [b] pos) (jh r ta tb):=by
 intro pins s O H Q I h;exact wpAny_Compare1 (IU ha hb I h λv u s2 x y H2 I2 rx ry q=>ho pins s2 O H2 x y v u Q I2 rx ry q) hm
def rF(t:TE):TT:=λO H Q=>t O H λx H'=>∃ k,x=.bl k/\Q k H'
theorem iU{op:CmpOp}{r:R2}(ho:iT X (compareOp op) r)(ha:PE X a ta)(hb:PE X b tb)(hm:behindInMarks op b=false):PT X (.Compare a [op] [b] pos) (rF (jh r ta tb)):=by
 intro pins s O H Q I h;refine wpAny_isTrue_Compare1 (b9 (ha pins s O H _ I h) λv s1 zz=>el2 zz λx H1 I1 r1 q1=>b9 (hb pins s1 O H1 _ I1 q1) λu s2 zz=>el2 zz λy H2 I2 r2 q2 =>
  b9 (ho pins s2 O H2 x y v u _ I2 r1 r2 q2) λc s3 #[z,H3,I3,r3,k,e,q3]=>?_) hm
 subst e;cases r3;exact wpAny_truthy_bool #[H3,I3,q3]
def Ex(r r':R2)(ta tb tc:TE):TE:=λO H Q=>ta O H λx H1=>tb O H1 λy H2=>r x y H2 λz H3=>∃ k,z=.bl k /\
 (if k=true then tc O H3 λw' H4=>r' y w' H4 Q else Q (.bl false) H3)
theorem B6{op Jk:CmpOp}{r r':R2}(ho:iT X (compareOp op) r)(xR:iT X (compareOp Jk) r')(ha:PE X a ta)(hb:PE X b tb)(hc:PE X c tc)(hm:lastMarks [op,Jk] [b,c]=false:=by with_unfolding_all rfl):PE X (.Compare a [op,Jk] [b,c] pos) (Ex r r' ta tb tc):=by
 intro pins s O H Q I h;refine Compare_chain (b9 (ha pins s O H _ I h) λv s1 zz=>el2 zz λx H1 I1 r1 q1=>chain_link (b9 (hb pins s1 O H1 _ I1 q1) λu s2 zz=>el2 zz λy H2 I2 r2 q2 =>
  b9 (ho pins s2 O H2 x y v u _ I2 r1 r2 q2) λd s3 #[z,H3,I3,r3,k,e,q3]=>?_)) hm
 subst e;cases r3;refine wpAny_truthy_bool ?_;cases k with
 | false=>exact ite_ff #[.bl false,H3,I3,U,q3]
 | true=>exact ite_tt (chain_last (b9 (hc pins s3 O H3 _ I3 q3) λw' s4 zz=>el2 zz λz' H4 I4 r4 q4=>xR pins s4 O H4 y z' u w' Q I4 r2 r4 q4))
theorem wM{op Jk:CmpOp}{r r':R2}(ho:iT X (compareOp op) r)(xR:iT X (compareOp Jk) r')(ha:PE X a ta)(hb:PE X b tb)(hc:PE X c tc)(hm:lastMarks [op,Jk] [b,c]=false:=by with_unfolding_all rfl):PT X (.Compare a [op,Jk] [b,c] pos) (rF (Ex r r' ta tb tc)):=by
 intro pins s O H Q I h;refine isTrue_chain (b9 (ha pins s O H _ I h) λv s1 zz=>el2 zz λx H1 I1 r1 q1=>test_link (b9 (hb pins s1 O H1 _ I1 q1) λu s2 zz=>el2 zz λy H2 I2 r2 q2 =>
  b9 (ho pins s2 O H2 x y v u _ I2 r1 r2 q2) λd s3 #[z,H3,I3,r3,k,e,q3]=>?_)) hm
 subst e;cases r3;refine wpAny_truthy_bool ?_;cases k with
 | false =>
  let(k',e',q'):=q3;cases e';exact ite_ff #[H3,I3,q']
 | true =>
  refine ite_tt (test_last (b9 (hc pins s3 O H3 _ I3 q3) λw' s4 zz=>el2 zz λz' H4 I4 r4 q4=>b9 (xR pins s4 O H4 y z' u w' _ I4 r2 r4 q4) λd' s5 #[z2,H5,I5,r5,k2,e2,q5]=>?_));subst e2;cases r5;exact wpAny_truthy_bool #[H5,I5,q5]
def MF(K:Frag)(x:V)(H:Hp)(k:Bool):Prop :=
 match x with
 | .cw=>k=false
 | .bl b=>k=b
 | .int i=>k=(i != 0)
 | .str y=>y.length<=sizeLine/\k=((y.length:Int) != 0)
 | .Bj y=>y.size<=sizeLine/\k=((y.size:Int) != 0)
 | .ref p=>(∃ xs,cn K H p xs/\k=!xs.isEmpty)\/(∃ xs,gZ K H p xs/\k=!xs.isEmpty)\/∃ kvs,H p=some (.dK kvs)/\k=!kvs.isEmpty
 | _=>False
theorem yM{κ:Type}{kvs:List (κ×V)}{vs:List (κ×Value)}(r:KV kvs vs):(!vs.isEmpty)=!kvs.isEmpty:=by
 cases r<;>rfl
theorem qD{xs:List V}{its:List Value}(r:Vals xs its):(!its.toArray.isEmpty)=!xs.isEmpty:=by
 cases r<;>simp
theorem lE:(sizeLine:Nat) < 2 ^ 63:=by rw[sizeLine_eq];decide
theorem Ls:UT X (λx H Q=>∃ k,MF X.K x H k/\Q k H):=by
 intro pins s O H x v Q I rx h;let(k,e,q):=h;have hl:=lE;have hs:sizeLine=16777216:=sizeLine_eq;cases x with
 | cw =>
  cases rx;have e':k=false:=e;subst e';exact truthy_none #[H,I,q]
 | bl b =>
  cases rx;have e':k=b:=e;subst e';exact wpAny_truthy_bool #[H,I,q]
 | int i =>
  let(t,rfl):=rx;have e':k=(i != 0):=e;subst e';exact PySem.P.truthy_int #[H,I,q]
 | str y =>
  let(t,rfl):=rx;obtain⟨hy,e'⟩:y.length<=sizeLine/\k=((y.length:Int) != 0):=e;subst e';exact PySem.P.truthy_str (by cbv) #[H,I.tok _,q]
 | Bj y =>
  let(t,rfl):=rx;obtain⟨hy,e'⟩:y.size<=sizeLine/\k=((y.size:Int) != 0):=e;subst e';exact PySem.W.truthy_bytes (by cbv) #[H,I.tok _,q]
 | ref p =>
  cases rx;have e':(∃ xs,cn X.K H p xs/\k=!xs.isEmpty)\/(∃ xs,gZ X.K H p xs/\k=!xs.isEmpty)\/∃ kvs,H p=some (.dK kvs)/\k=!kvs.isEmpty:=e;rcases e' with ⟨xs,hx,e'⟩ | ⟨xs,hx,e'⟩ | ⟨kvs,hx,e'⟩
  .subst e';let(its,r,pl,hz):=I.list hx;have hlen:=r.length;exact wpAny_truthy_list pl.isList (by simp only[List.size_toArray];cbv) #[H,I.tok _,by rw[qD r];exact q]
  .subst e';let(its,r,pl,hz):=I.tuple hx;have hlen:=r.length;exact truthy_tuple pl (by simp only[List.size_toArray];cbv) #[H,I.tok _,by rw[qD r];exact q]
  .subst e';obtain⟨hz,hS,vs,r,m⟩:kvs.length<=sizeLine/\(p == sysModules)=false/\∃ vs,KV kvs vs/\s.heap.DictOf (cp X.prog X.w) p vs:=I.aN p _ hx;have hlen:kvs.length=vs.length:=Paired.length r;exact wpAny_truthy_dict hS m (by cbv) #[H,I.tok _,by rw[yM r];exact q]
 | _=>exact (show False from e).elim
theorem mC(ha:PE X a ta)(he:∀ whole,isTrue a X.env whole=(do let v <- whole;standAt a.pos;holding [v] (truthy v))) :
  PT X a (λO H Q=>ta O H λx H'=>∃ k,MF X.K x H' k/\Q k H'):=by
 intro pins s O H Q I h;exact isTrue_plain (b9 (ha pins s O H _ I h) λv s1 zz=>el2 zz λx H1 I1 r1 q1=>Ls pins s1 O H1 x v Q I1 r1 q1) (he _)
theorem aA:iT X (binaryOp .Add) (λx y H Q=>∃ i j,x=.str i/\y=.str j/\i.length+j.length<=sizeLine/\Q (.str (i++j)) H):=by
 intro pins s O H x y v u Q I rx ry h;let(i,j,rfl,rfl,hz,q):=h;let(t,rfl):=rx;let(t',rfl):=ry;exact add_str (λt' tk=>#[.str (i++j),H,I.tok _,#[_,U],q]) hz
theorem vals1{x:V}{us:List Value}(r:Vals [x] us):∃ u,us=[u]/\RelV x u:=by
 cases r with
 | cons r1 r2=>cases r2;exact#[_,U,r1]
theorem vals2{x y:V}{us:List Value}(r:Vals [x,y] us):∃ u w',us=[u,w']/\RelV x u/\RelV y w':=by
 cases r with
 | cons r1 r2 =>
  cases r2 with
  | cons r3 r4=>cases r4;exact#[_,_,U,r1,r3]
theorem uu(hc:X.calm=true):fH X (.builtin "max") (λxs H Q=>∃ i j,xs=[.int i,.int j]/\Q (.int (if j > i then j else i)) H):=by
 intro pins s O H xs us Q I r h;let(i,j,rfl,q):=h;let(u,w',rfl,(t,rfl),(t',rfl)):=vals2 r;refine max_two_ints (I.ok.hd hc) λh' tk k=>#[_,H,I.kept k,?_,q];by_cases hj:j > i
 .rw[if_pos hj,if_pos hj];exact#[_,U]
 .rw[if_neg hj,if_neg hj];exact#[_,U]
theorem Bi(hc:X.calm=true):fH X (.builtin "min") (λxs H Q=>∃ i j,xs=[.int i,.int j]/\Q (.int (if j < i then j else i)) H):=by
 intro pins s O H xs us Q I r h;let(i,j,rfl,q):=h;let(u,w',rfl,(t,rfl),(t',rfl)):=vals2 r;refine min_two_ints (I.ok.hd hc) λh' tk k=>#[_,H,I.kept k,?_,q];by_cases hj:j < i
 .rw[if_pos hj,if_pos hj];exact#[_,U]
 .rw[if_neg hj,if_neg hj];exact#[_,U]
theorem iw:fH X (.type "int") (λxs H Q=>(∃ i,xs=[.int i]/\Q (.int i) H)\/∃ k,xs=[.bl k]/\Q (.int (if k then 1 else 0)) H):=by
 intro pins s O H xs us Q I r h;rcases h with ⟨i,rfl,q⟩ | ⟨k,rfl,q⟩
 .let(u,rfl,t,rfl):=vals1 r;exact call_int_int #[.int i,H,I,#[_,U],q]
 .let(u,rfl,r1):=vals1 r;cases r1;exact call_int_bool #[.int (if k then 1 else 0),H,I.tok _,#[_,U],q]
theorem vJ:fH X (.type "str") (λxs H Q=>∃ i,xs=[.int i]/\i.natAbs.log2 < 1920/\Q (.str (toString i)) H):=by
 intro pins s O H xs us Q I r h;let(i,rfl,hz,q):=h;let(u,rfl,t,rfl):=vals1 r;exact PySem.P.str_of_int hz #[.str _,H,I.tok _,#[_,U],q]
end
section
variable{prog:Program}{w:World}{A:Around}{E:aat}{s:Shared}{K:Frag}{x dx C f:Addr}{mA:Str->Option Value}{name:Str}{v:Value}
end
theorem pz.some_of{v:V}{o:Option Value}(r:pz (some v) o):∃ u,o=some u/\RelV v u:=by
 cases o with
 | none=>exact (show False from r).elim
 | some u=>exact#[u,U,r]
section
variable{P:Program}{w:World}{H H':Hp}{h h':Heap}{a C dx:Addr}{fs Xu:List (Str×V)}
end
section
variable{X:Cx}{pins:aau}{O:St}{H:Hp}{s:Shared}{a C dx:Addr}{fs:List (Str×V)}{f:Str}{v:V}{A:Around}{E:aat}
end
section
variable{X:Cx}{o e value:Expr}{f:Str}{pos pos' nh:Pos}{ta tv:TE}
end
section
variable{X:Cx}{pins:aau}{O:St}{H:Hp}{s:Shared}{A:Around}{E:aat}{Q:aat}{c:Value}{b:Bool}
end
structure cU(k:Nat)(A:Around):Prop where
 hd:A.handled=none
 dp:A.depth+3 * k+5 < recursionLimit
 un:A.units+16 * k+200 < cLine
theorem cU.mono{j k:Nat}{A:Around}(r:cU k A)(h:j<=k):cU j A:=#[r.hd,by have:=r.dp;cbv,by have:=r.un;cbv]
theorem cU.deeper{k:Nat}{A:Around}(r:cU (k+1) A)(env:Env):cU k (A.deeper env) :=
 #[r.hd,by have:=r.dp;show A.depth+1+3 * k+5 < _;cbv,by have:=r.un;show A.units+3+16 * k+200 < _;cbv]
theorem cU.depth{k:Nat}{A:Around}(r:cU k A):A.depth < recursionLimit:=by have:=r.dp;cbv
theorem cU.units{k:Nat}{A:Around}(r:cU k A):A.units+64 < cLine:=by have:=r.un;cbv
def sI:TA:=λ_ H Q=>Q [] H
def gH(ta:TE)(tr:TA):TA:=λO H Q=>ta O H λx H1=>tr O H1 λxs H2=>Q (x::xs) H2
section
variable{X:Cx}{e:Expr}{es:List Expr}{te:TE}{t:TA}{pos:Pos}
theorem aK:PA X [] sI:=λ_ _ _ _ H Q I h=>Calls.spliced_nil #[[],H,I,.nil,h]
theorem az(ha:PE X e te)(hr:PA X es t)(hs:aaw X.env e es:=by rfl):PA X (e::es) (gH te t):=by
 intro pos pins s O H Q I h;rw[hs];show wpAny _ _ (spliced ((false,eval e X.env)::backTo pos (starEach es X.env))) _ _ s;refine Calls.spliced_cons (b9 (ha pins s O H _ I h) λu s1 zz=>el2 zz λx H1 I1 r1 q1=>?_);exact b9 (hr pos pins s1 O H1 _ I1 q1) λus s2 zz=>el2 zz λxs H2 I2 r2 q2=>#[x::xs,H2,I2,.cons r1 r2,q2]
def Td(t:TA):TE:=λO H Q=>t O H λxs H1=>xs.length<=sizeLine/\∀ p,H1 p=none->Q (.ref p) (upd H1 p (.tup xs))
def Jc(t:TA):TE:=λO H Q=>t O H λxs H1=>xs.length<=sizeLine/\∀ p,H1 p=none->Q (.ref p) (upd H1 p (.lst xs))
theorem Lk{x1}(h:PA X es t):PE X (.Tuple es x1 pos) (Td t):=by
 intro pins s O H Q I hq;refine wpAny_Tuple_spliced (b9 (h pos pins s O H _ I hq) λus s1 #[xs,H1,I1,r,z,q]=>#[by rw[<- r.length];exact z,?_]);have hf:H1 ↑s1=none:=I1.aN.fresh (Ys _);refine#[.ref ↑s1,upd H1 ↑s1 (.tup xs),I1.laid (t':=s1.toks) (λb u e=>Yq _ e) (Ys _) ?_,U,q _ hf];exact#[z,us,r,#[_,YD _ U,U,_,U]]
theorem f6(h:PA X es t):PE X (.List es pos) (Jc t):=by
 intro pins s O H Q I hq;refine wpAny_List_spliced (b9 (h pos pins s O H _ I hq) λus s1 #[xs,H1,I1,r,z,q]=>#[by rw[<- r.length];exact z,?_]);have hf:H1 ↑s1=none:=I1.aN.fresh (Ys _);refine#[.ref ↑s1,upd H1 ↑s1 (.lst xs),I1.laid (t':=s1.toks) (λb u e=>Yq _ e) (Ys _) ?_,U,q _ hf];exact#[z,us,0,r,YD _ U]
end
abbrev Sp:=List V->Hp->VK->XK->Prop
abbrev xW:=List Env->Hp->Shared->XK->aat
structure G7(P:Program)(w:World)(K:Frag)(mg:Str->Option Value)(base:Heap)(A:Around)(outer:List Env)(s:Shared)(H:Hp):Prop where
 frames:A.frames=some outer
 mod:Mod K mg base
 bs:∀ b o,base.get? b=some o->s.heap.get? b=some o/\H b=none
 HS:base.objs.size<=↑s
 qY:s.heap.FunFrames base outer
 LU:∀ b∈CQ outer,H b=none
 aN:lY P w H s.heap
 bare:AllBare s.gens
def CE(outer:List Env)(P:Program)(w:World)(H:Hp)(s:Shared)(Q:VK)(u:Value)(s':Shared):Prop :=
 ∃ v H',s'.os=s.os/\AllBare s'.gens/\Un (CQ outer) [] H H' s.heap s'.heap/\lY P w H' s'.heap/\RelV v u/\Q v H'
def CR(CX:xW)(outer:List Env)(P:Program)(w:World)(H:Hp)(s:Shared)(Q:VK)(E:XK)(r:Result)(s':Shared):Prop :=
 match r with
 | .ok (.ret u)=>CE outer P w H s Q u s'
 | .ok _=>False
 | .error e=>CX outer H s E e s'
structure bV(P:Program)(w:World)(K:Frag)(mg:Str->Option Value)(base:Heap)(CX:xW)(k:Nat)(f:Addr)(fd:FuncData)(ps:List Str)(sp:Sp):Prop where
 len:∀ vs H Q E,sp vs H Q E->vs.length=ps.length
 run:∀ (A:Around) (outer:List Env) (s:Shared) (H:Hp) (args:Args) (us:List Value) (vs:List V) (Q:VK) (E:XK),cU k A->G7 P w K mg base A outer s H->BindsTo s fd args (ps.zip us)->Vals vs us->sp vs H Q E ->
  codeAny (model P w) A (.call (.ref f) args) (CR CX outer P w H s Q E) s
theorem bV.mono{P:Program}{w:World}{K:Frag}{mg:Str->Option Value}{base:Heap}{CX:xW}{j k:Nat}{f:Addr}{fd:FuncData}{ps:List Str}{sp:Sp}(F:bV P w K mg base CX j f fd ps sp)(h:j<=k) :
  bV P w K mg base CX k f fd ps sp:=#[F.len,λA outer s H args us vs Q E hr=>F.run A outer s H args us vs Q E (hr.mono h)]
theorem bV.imp{P:Program}{w:World}{K:Frag}{mg:Str->Option Value}{base:Heap}{CX:xW}{k:Nat}{f:Addr}{fd:FuncData}{ps:List Str}{sp P6:Sp}(F:bV P w K mg base CX k f fd ps sp)(h:∀ vs H Q E,P6 vs H Q E->sp vs H Q E):bV P w K mg base CX k f fd ps P6 :=
 #[λvs H Q E q=>F.len vs H Q E (h _ _ _ _ q),λA outer s H args us vs Q E hr he hb hv hs=>F.run A outer s H args us vs Q E hr he hb hv (h _ _ _ _ hs)]
section
variable{X:Cx}{pins:aau}{O:St}{H:Hp}{s s':Shared}
theorem Inv.S7(I:Inv X pins O H s):G7 X.prog X.w X.K X.mg X.base X.A X.stack s H :=
 #[I.ok.frames,I.ok.mod,I.bs,Yw I.ok.HS I.sz,I.stack,I.AM,I.aN,I.bare]
theorem Inv.after{Q:VK}{u:Value}(I:Inv X pins O H s)(h:CE X.stack X.prog X.w H s Q u s'):EP X pins O Q u s':=by
 let(v,H',os,bare,un,aN,r,q):=h;let(hh,g,d,t,os'):=s';obtain rfl:os'=s.os:=os;exact#[v,H',I.call (h':=hh) (g':=g) (d':=d) (t':=t) (ch:=[]) un aN bare (λb z=>absurd z (by simp)),r,q]
end
def wO(sp:Sp)(Ir:List V)(E:XK)(t:TA):TE:=λO H Q=>t O H λvs H1=>sp (vs++Ir) H1 Q E
def Binds(K:Frag)(fd:FuncData)(ps:List Str)(ds:List Value):Prop :=
 ∀ (s:Shared) (us:List Value),K.In s.heap->(us++ds).length=ps.length->BindsTo s fd #[us,[]] (ps.zip (us++ds))
theorem Binds.all{K:Frag}{fd:FuncData}{ps:List Str}(h:∀ us:List Value,us.length=ps.length->bindArgs fd #[us,[]]=pure (ps.zip us)):Binds K fd ps []:=λs us _ hl=>by
 rw[YA] at hl ⊢;exact .of_eq (h us hl)
def Passes(CX:xW)(X:Cx)(E:XK):Prop:=∀ (pins:aau) (O:St) (H:Hp) (s:Shared) (e:Value) (s':Shared),Inv X pins O H s->CX X.stack H s E e s'->X.xe e s'
section
variable{X:Cx}{CX:xW}{k:Nat}{f C:Addr}{fd:FuncData}{ps:List Str}{sp:Sp}{Ir:List V}{ds:List Value}{E:XK}{x m:Str}{p pos apos:Pos}{e o:Expr}{es:List Expr}{ta:TE}{t:TA}
theorem Cu{pins:aau}{O:St}{H:Hp}{s:Shared}{Q:VK}{us:List Value}{vs:List V}(F:bV X.prog X.w X.K X.mg X.base CX k f fd ps sp)(hr:cU k X.A)(hb:Binds X.K fd ps ds)(hd:Vals Ir ds)(hx:Passes CX X E)(I:Inv X pins O H s)(r:Vals vs us)(h:sp (vs++Ir) H Q E):wpAny (model X.prog X.w) X.A (call (.ref f) us) (EP X pins O Q) X.xe s:=by
 have r2:Vals (vs++Ir) (us++ds):=r.append hd;have hl:(us++ds).length=ps.length:=by rw[<- r2.length];exact F.len _ _ _ _ h
 refine wpAny_call (codeAny_mono (F.run X.A X.stack s H #[us,[]] (us++ds) (vs++Ir) Q E hr I.S7 (hb s us I.Ig hl) r2 h) λr s' hq=>?_);cases r with
 | error e=>exact hx pins O H s e s' I hq
 | ok fl =>
  cases fl with
  | ret u=>exact I.after hq
  | next=>exact False.elim hq
  | brk=>exact False.elim hq
  | cont=>exact False.elim hq
theorem cK(F:bV X.prog X.w X.K X.mg X.base CX k f fd ps sp)(hr:cU k X.A)(hg:Gl X x)(hm:X.mg x=some (.ref f))(hk:keepIn X.K (.ref f)=true)(hb:Binds X.K fd ps ds)(hd:Vals Ir ds)(hx:Passes CX X E)(ha:PA X (e::es) t)(kP:aay x:=by decide)(he:aaw X.env e es:=by rfl)(fC:aax X.env pos es:=by rfl) :
  PE X (.Call (.Name x p) (e::es) [] pos) (wO sp Ir E t):=by
 intro pins s O H Q I h;refine wpAny_Call_Name_kw (An I hg hm ?_ kP);refine PySem.W.callWith_K (h₀:=X.base) I.ok.mod.QI hk (b9 (ha pos pins s O H _ I h) λus s1 zz=>el2 zz λvs H1 I1 r q=>#[I1.Ig,?_]) he fC;exact Cu F hr hb hd hx I1 r q
end
section
variable{X:Cx}{CX:xW}{k:Nat}{f C:Addr}{fd:FuncData}{ps ks:List Str}{sp:Sp}{E:XK}{x m:Str}{p pos apos Xe:Pos}{e o:Expr}{es:List Expr}{Yi:List Keyword}{te ta:TE}{t tk:TA}{nm:Option Str}
variable{g:List Value->List Value->List Value}{gV:List V->List V->List V}
end
structure ao(N P:List Str)(sc:Scope):Prop where
 kind:sc.kind=.function
 co:sc.isCoroutine=false
 gen:sc.isGenerator=false
 nd:N.Nodup
 pre:N.take P.length=P
 par:∀ x∈P,sc.names.lookup x=some .local\/sc.names.lookup x=some .cell
 K9:∀ y∈sc.names,y.2≠.free
theorem uo{kindOf:Str->Option NameKind}{x:Str}:∀ {binds:List (Str×Value)} {m:Str->Option Value},(∀ v,(x,v)∉binds)->bindL kindOf binds m x=m x
 | [],_,_=>rfl
 | (n,v)::r,m,h=>by
  unfold bindL;rw[uo λw hw=>h w (Yo _ hw)];split
  .have:x≠n:=by rintro rfl;exact h v Ym
   simp[this]
  .rfl
theorem uA{kindOf:Str->Option NameKind}{x:Str}:∀ {binds:List (Str×Value)} {m:Str->Option Value},(∀ v,(x,v)∉binds)->bindC kindOf binds m x=m x
 | [],_,_=>rfl
 | (n,v)::r,m,h=>by
  unfold bindC;rw[uA λw hw=>h w (Yo _ hw)];split
  .rfl
  .have:x≠n:=by rintro rfl;exact h v Ym
   simp[this]
theorem tq{kindOf:Str->Option NameKind}{x:Str}{v:Value}:∀ {P:List Str} {vs:List Value} {i:Nat} {m:Str->Option Value},P.Nodup->P[i]?=some x->vs[i]?=some v->kindOf x=some .local ->
  bindL kindOf (P.zip vs) m x=some v
 | [],_,_,_,_,h,_,_=>by simp at h
 | _::_,[],_,_,_,_,h,_=>by simp at h
 | p::P,w::vs,0,m,nd,h1,h2,hk=>by
  simp at h1 h2;subst h1;subst h2;show bindL kindOf ((p,w)::P.zip vs) m p=_;unfold bindL;rw[uo λv hv=>(Za.mp nd).1 (Zb hv).1,if_pos hk];simp
 | p::P,w::vs,i+1,m,nd,h1,h2,hk=>by
  show bindL kindOf ((p,w)::P.zip vs) m x=_;unfold bindL;exact tq (i:=i) (List.nodup_cons.mp nd).2 (by simpa using h1) (by simpa using h2) hk
theorem tj{kindOf:Str->Option NameKind}{x:Str}{v:Value}:∀ {P:List Str} {vs:List Value} {i:Nat} {m:Str->Option Value},P.Nodup->P[i]?=some x->vs[i]?=some v->kindOf x≠some .local ->
  bindC kindOf (P.zip vs) m x=some v
 | [],_,_,_,_,h,_,_=>by simp at h
 | _::_,[],_,_,_,_,h,_=>by simp at h
 | p::P,w::vs,0,m,nd,h1,h2,hk=>by
  simp at h1 h2;subst h1;subst h2;show bindC kindOf ((p,w)::P.zip vs) m p=_;unfold bindC;rw[uA λv hv=>(Za.mp nd).1 (Zb hv).1,if_neg hk];simp
 | p::P,w::vs,i+1,m,nd,h1,h2,hk=>by
  show bindC kindOf ((p,w)::P.zip vs) m x=_;unfold bindC;exact tj (i:=i) (List.nodup_cons.mp nd).2 (by simpa using h1) (by simpa using h2) hk
def start(N:List Str)(vs:List V):St:=vs.map some++List.replicate (N.length - vs.length) none
def m9(CX:xW)(P:Program)(w:World)(K:Frag)(mg:Str->Option Value)(base:Heap)(N:List Str)(qual:Str)(scope:Scope)(f:Addr)(cd:Value)(A:Around)(outer:List Env)(s:Shared)(H:Hp)(E:XK):Cx where
 prog:=P
 w:=w
 K:=K
 mg:=mg
 base:=base
 A:=A.deeper (envOfC qual scope ↑s f cd)
 N:=N
 s₀:=s
 H₀:=H
 env:=envOfC qual scope ↑s f cd
 outer:=outer
 stack:=envOfC qual scope ↑s f cd::outer
 ex:=[]
 calm:=true
 fn:=λ_=>true
 pn:=[]
 xe:=λe s'=>wpAny (model P w) (A.deeper (envOfC qual scope ↑s f cd)) (leaving (envOfC qual scope ↑s f cd) e) (λ_ FX=>CX outer H s E e FX) (λe' FX=>CX outer H s E e' FX) s'
theorem xB{sc:Scope}{n:Nat}{x:Str}(h:sc.names.lookup x=some .cell):∃ c,(cellsFrom n sc.names []).lookup x=some c:=by
 have q:=PySem.W.cellsFrom_some sc.names n [] (.inl h);exact Zm.mp q
theorem AN{CX:xW}{P:Program}{w:World}{K:Frag}{mg:Str->Option Value}{base:Heap}{N ps:List Str}{qual:Str}{scope:Scope}{f:Addr}{cd:Value}{A:Around}{outer:List Env}{s s1:Shared}{H:Hp}{E:XK}{us:List Value}{vs:List V}(S:ao N ps scope)(hd:A.handled=none)(e0:G7 P w K mg base A outer s H)(hl:vs.length=ps.length)(r:Vals vs us)(x:InCallC s ↑s (bindL (envOfC qual scope ↑s f cd).kindOf (ps.zip us) λ_=>none) (cellsFrom (↑s+1) scope.names []) (bindC (envOfC qual scope ↑s f cd).kindOf (ps.zip us) λ_=>none) s1) :
  Inv (m9 CX P w K mg base N qual scope f cd A outer s H E) [] (start N vs) H s1:=by
 have fC:ps.length<=N.length:=by have:=congrArg List.length S.pre;rw[Zn] at this;cbv
 let(h1,tk,rfl,hk):=x.done;have noA:∀ b:Addr,b∉(m9 CX P w K mg base N qual scope f cd A outer s H E).ex:=λb z=>absurd (show b∈([]:List Addr) from z) (by simp);refine#[#[e0.mod,S.kind,U,U,Ys _,λy z c h1 h2=>?_,λy hy=>?_,λy c _ h=>?_,λ_=>hd,Around.frames_deeper e0.frames,.inr #[U,U],λb z=>absurd z (noA b),e0.bs,e0.HS,λb _ _=>noA b,λb z=>absurd z (noA b),e0.qY,e0.LU],
  rfl,e0.bare,Un.kept hk,#[_,x.toInCall.ns,λi y v h1 h2 h3=>?_],λy c h=>#[_,x.cell y c h],e0.aN.fresh (Nat.le_refl _),λy c h=>?_,λp hp=>absurd (show p∈([]:aau) from hp) (by simp),e0.aN.kept hk,?_]
 .exact name_of_addr x.apart (Zg h1) (Zg h2)
 .have hy:scope.names.lookup y=some .cell\/scope.names.lookup y=some .free:=hy;rcases hy with hy | hy
  .exact xB hy
  .exact absurd U (S.K9 _ (Zg hy))
 .exact Nat.le_of_lt (x.above y c (Zg h))
 .have hi:i < vs.length:=by
   unfold start at h2;by_cases hi:i < vs.length
   .exact hi
   .rw[List.getElem?_append_right (by simpa using hi)] at h2;rw[List.getElem?_replicate] at h2;split at h2<;>cases h2
  have ha:vs[i]?=some v:=by
   unfold start at h2;rw[List.getElem?_append_left (by simpa using hi),List.getElem?_map] at h2;cases e:vs[i]? with
   | none=>rw[e] at h2;cases h2
   | some a=>rw[e] at h2;cases h2;rfl
  let(u,hu,rv):=r.get ha;have hp:ps[i]?=some y:=by
   rw[<- S.pre,List.getElem?_take_of_lt (by cbv)];exact h1
  have ndP:ps.Nodup:=by rw[<- S.pre];exact S.nd.sublist (List.take_sublist _ _)
  refine#[u,rv,?_];rcases S.par y (Y4 hp) with k | k
  .exact .inl #[k,tq ndP hp hu k]
  .let(c,e):=xB (n:=↑s+1) k;refine .inr #[.inl k,c,e,?_];have q:=x.cell y c e;rw[tj ndP hp hu (by show scope.names.lookup y≠_;rw[k];decide)] at q;exact q
 .exact e0.aN.fresh (Nat.le_of_lt (x.above y c (Zg h)))
 .unfold start;show _=N.length;rw[Yl,Yk,Zu];cbv
theorem HZ{CX:xW}{P:Program}{w:World}{K:Frag}{mg:Str->Option Value}{base:Heap}{k:Nat}{f:Addr}{name qual:Str}{params:Arguments}{body:List Stmt}{scope:Scope}{dV kV doc pm a9 ct oc:Value}{an od:Option Addr}{xU:Array (Option Value)}{N ps:List Str}{sp:Sp}(lk:K.lookup f=some #[oc,od,.func (fnOf name qual params body scope dV kV doc pm an a9 ct),xU])(qT:codeIn K a9 qual=true)(S:ao N ps scope)(len:∀ vs H Q E,sp vs H Q E->vs.length=ps.length)(xc:∀ (A:Around) (outer:List Env) (s:Shared) (H:Hp) (vs:List V) (Q:VK) (E:XK),cU k (A.deeper (envOfC qual scope ↑s f a9))->sp vs H Q E ->
   ∃ t,rg (m9 CX P w K mg base N qual scope f a9 A outer s H E) body t/\t { nx:=λ_ H'=>Q .cw H',rt:=Q } (start N vs) H) :
  bV P w K mg base CX (k+1) f (fnOf name qual params body scope dV kV doc pm an a9 ct) ps sp:=by
 refine#[len,λA outer s H args us vs Q E hr e0 hb r BG=>?_];have hl:=len _ _ _ _ BG;have KX:K.In s.heap:=e0.mod.QI.keeps λb o e=>(e0.bs b o e).1;have lim:s.heap.NoLimit:=e0.mod.nolimit.keeps λb o e=>(e0.bs b o e).1;have hkind:∀ y∈ps.zip us,scope.names.lookup y.1=some .local\/(scope.names.lookup y.1=some .cell/\((cellsFrom (↑s+1) scope.names []).lookup y.1).isSome=true):=λz2r hy=>by
  let(n,v):=z2r;rcases S.par n (Zb hy).1 with q | q
  .exact .inl q
  .exact .inr #[q,PySem.W.cellsFrom_some _ _ _ (.inl q)]
 refine codeAny_call_function hr.depth (KX _ _ lk) U S.co S.gen U (PySem.W.codeRec_of KX qT) (hb _ _ _ _ ?_);refine wpAny_newFunctionEnv_cells S.kind hkind λenv he s1 x=>?_;subst he;refine#[lim.keeps x.toInCall.keep,codeAny_func ?_];let(t,ht,hq):=xc A outer s H vs Q E (hr.deeper _) BG;have I:Inv (m9 CX P w K mg base N qual scope f a9 A outer s H E) [] (start N vs) H s1:=AN S hr.hd e0 hl r x;refine wpAny_mono (ht [] s1 (start N vs) H _ I hq) (λfl s' hs=>?_) λe s' hs=>hs;have fin:∀ {O':St} {H':Hp} {v:V} {u:Value},Inv (m9 CX P w K mg base N qual scope f a9 A outer s H E) [] O' H' s'->RelV v u->Q v H'->CE outer P w H s Q u s' :=
  λ{O' H' v u} J rv q=>#[v,H',J.os,J.bare,J.base,J.aN,rv,q]
 cases fl with
 | ret u =>
  let(v,O',H',J,rv,q):=hs;exact fin J rv q
 | next =>
  let(O',H',J,q):=hs;exact fin (v:=V.cw) (u:=Value.none) J U q
 | brk =>
  let(_,_,_,q):=hs;exact False.elim q
 | cont =>
  let(_,_,_,q):=hs;exact False.elim q
section
variable{X:Cx}{x:Str}{p pos:Pos}{e:Expr}{es:List Expr}{t:TA}{id T:String}{r:List V->Hp->VK->Prop}
def FP(r:List V->Hp->VK->Prop)(t:TA):TE:=λO H Q=>t O H λvs H1=>r vs H1 Q
theorem dm(hc:fH X (.builtin id) r)(hg:Gl X x)(hm:X.mg x=none)(hv:bootBuiltins x=some (.builtin id))(ha:PA X (e::es) t)(hn:x≠"__name__":=by decide)(kP:aay x:=by decide)(he:aaw X.env e es:=by rfl)(fC:aax X.env pos es:=by rfl):PE X (.Call (.Name x p) (e::es) [] pos) (FP r t):=by
 intro pins s O H Q I h;refine wpAny_Call_Name_kw (j6 I hg hm hv ?_ hn kP);exact PyProof.Rows.callWith_builtin1 (b9 (ha pos pins s O H _ I h) λus s1 zz=>el2 zz λvs H1 I1 r1 q1=>hc pins s1 O H1 vs us Q I1 r1 q1) he fC
theorem nH(hc:fH X (.type T) r)(hg:Gl X x)(hm:X.mg x=none)(hv:bootBuiltins x=some (.type T))(ha:PA X (e::es) t)(hn:x≠"__name__":=by decide)(kP:aay x:=by decide)(he:aaw X.env e es:=by rfl)(fC:aax X.env pos es:=by rfl):PE X (.Call (.Name x p) (e::es) [] pos) (FP r t):=by
 intro pins s O H Q I h;refine wpAny_Call_Name_kw (j6 I hg hm hv ?_ hn kP);exact PyProof.Rows.callWith_type1 (b9 (ha pos pins s O H _ I h) λus s1 zz=>el2 zz λvs H1 I1 r1 q1=>hc pins s1 O H1 vs us Q I1 r1 q1) he fC
end
end L2
namespace HT
open PySem PyProof.Rows
section
open PySem.SeqAt
open PySem.AutoSeq1 (wpAny_loadPart')
open PySem.MeetsSeq PySem.MeetsSeq2 PySem.MeetsSeq3
end
section
variable{prog:Program}{w:World}{A:Around}{E:aat}{s:Shared}
theorem Fi{t b:Addr}{vs ws:List Value}{Q:aat}(ht:IsTup s.heap t vs.toArray)(hb:IsTup s.heap b ws.toArray)(hv:vs≠[])(h1:ws=[]->Q (.ref t) s)(h2:ws≠[]->Q (.ref ↑s) { s with heap:=s.heap.push { cls:=.type "tuple",data:=.seq (vs++ws).toArray } })(hsz:vs.length+ws.length<=sizeLine):wpAny (model prog w) A (binaryOp .Add (.ref t) (.ref b)) Q E s:=by
 let((cls,dd,data,sl),ho,hc,n,hd):=id ht;let((cls2,LQ,data2,Lz),ho2,hc2,n2,hd2):=id hb;simp only at hc hd hc2 hd2;subst hc hd hc2 hd2;have e:vs.toArray++ws.toArray=(vs++ws).toArray:=by simp
 by_cases hw:ws=[]
 .exact concat_meets #[_,ho,U] #[_,ho2,U] noFill_tuple_add seq_tuple_add aac Z8 (Z0 _ _)
   (tuple_addW1 t b vs.toArray ws.toArray n n2 dd LQ sl Lz (by simpa using hv) (by simp[hw])) #[ho,ho2,h1 hw]
 .refine concat_meets #[_,ho,U] #[_,ho2,U] noFill_tuple_add seq_tuple_add aac Z8 (Z0 _ _)
   (tuple_addW2 t b vs.toArray ws.toArray n n2 dd LQ sl Lz (by simpa using hv) (by simpa using hw) (by rw[List.size_toArray,List.size_toArray];exact hsz)) #[ho,ho2,?_]
  rw[e];exact h2 hw
def cz(n d:Nat):Option Int->Nat
 | none=>d
 | some v=>if v < 0 then (v+(n:Int)).toNat else min v.toNat n
theorem mj(n d:Nat):cz n d none=d:=rfl
theorem p6(n d k:Nat):cz n d (some (k:Int))=min k n:=by
 show (if (k:Int) < 0 then ((k:Int)+(n:Int)).toNat else min (k:Int).toNat n)=min k n;rw[if_neg (by cbv),Int.toNat_natCast]
theorem J9(n d:Nat)(hd:d<=n)(o:Option Int):cz n d o<=n:=by
 cases o with
 | none=>exact hd
 | some v =>
  show (if v < 0 then (v+(n:Int)).toNat else min v.toNat n)<=n;by_cases hv:v < 0
  .rw[if_pos hv];cbv
  .rw[if_neg hv];exact Nat.min_le_right _ _
theorem zY(v:Int)(n d:Nat):(if v < 0 then max (v+(n:Int)) 0 else min v (n:Int))=((cz n d (some v):Nat):Int):=by
 show (if v < 0 then max (v+(n:Int)) 0 else min v (n:Int))=(((if v < 0 then (v+(n:Int)).toNat else min v.toNat n):Nat):Int);by_cases hv:v < 0
 .simp only[if_pos hv];cbv
 .simp only[if_neg hv];cbv
theorem yO(lo hi:Option Int)(n:Nat):Builtin.Slice.sliceAdjust lo hi 1 (n:Int)=(((cz n 0 lo:Nat):Int),((cz n n hi:Nat):Int)):=by
 have h1:¬ ((1:Int) < 0):=by cbv
 unfold Builtin.Slice.sliceAdjust;simp only[h1,if_false];refine Prod.ext ?_ ?_
 .cases lo with
  | none=>rfl
  | some v=>exact zY v n 0
 .cases hi with
  | none=>rfl
  | some v=>exact zY v n n
theorem zc(i j:Nat):Builtin.Slice.slicePlaces (i:Int) (j:Int) 1=j - i:=by
 unfold Builtin.Slice.slicePlaces;have h1:(1:Int) > 0:=by cbv
 simp only[h1,if_true,Int.ediv_one];split<;>cbv
theorem qH{v:Value}{o:Option Int}{Q:Option Int->Shared->Prop}(p:IsPart v o)(h:Q o s):wpAny (model prog w) A (Builtin.Slice.slicePartIndex v) Q E s:=by
 cases p with
 | none=>exact slicePart_none h
 | int i t=>exact slicePart_int h
theorem ip{sl:Addr}{vl vu:Value}{lo hi:Option Int}{n:Nat}{Q:Int×Int×Nat->Shared->Prop}(hs:s.heap.IsSliceOf sl vl vu .none)(pl:IsPart vl lo)(pu:IsPart vu hi)(h:Q (((cz n 0 lo:Nat):Int),1,cz n n hi - cz n 0 lo) s):wpAny (model prog w) A (Builtin.Slice.sliceApplied (.ref sl) (pure (n:Int))) Q E s:=by
 let(os,hos,hcs,mK):=id hs;unfold Builtin.Slice.sliceApplied Builtin.Slice.sliceFields;refine wpAny_bind (wpAny_bind (wpAny_field hos mK (x:=vl) U (wpAny_bind (wpAny_field hos mK (x:=vu) U (wpAny_bind (wpAny_field hos mK (x:=.none) U (wpAny_pure ?_)))))));refine wpAny_bind (slicePart_none ?_);show wpAny _ _ (if ((1:Int) == 0)=true then _ else _) _ _ s;rw[if_neg (by decide)];refine wpAny_bind (qH pl (wpAny_bind (qH pu (wpAny_bind (wpAny_pure ?_)))));show wpAny _ _ (match Builtin.Slice.sliceAdjust lo hi 1 (n:Int) with | (lo,hi)=>pure (lo,(1:Int),Builtin.Slice.slicePlaces lo hi 1)) _ _ s;rw[yO lo hi n];show wpAny _ _ (pure (((cz n 0 lo:Nat):Int),(1:Int),Builtin.Slice.slicePlaces ((cz n 0 lo:Nat):Int) ((cz n n hi:Nat):Int) 1)) _ _ s;rw[zc];exact wpAny_pure h
theorem BZ(xs:Array Value)(i k:Nat):((List.range k).filterMap λ(m:Nat)=>xs[((i:Int)+(m:Int) * 1).toNat]?).toArray=((xs.toList.drop i).take k).toArray:=by
 have e:(λ(m:Nat)=>xs[((i:Int)+(m:Int) * 1).toNat]?)=λm=>xs[i+m]?:=by
  funext m
  have:((i:Int)+(m:Int) * 1).toNat=i+m:=by cbv
  rw[this]
 rw[e];have:=pick_run xs i k;rw[Z1] at this;have e2:((λx=>xs[x]?)∘λx=>i+x)=λm=>xs[i+m]?:=rfl;rw[e2] at this;rw[this]
theorem me{t sl:Addr}{items:Array Value}{vl vu:Value}{lo hi:Option Int}{Q:aat}(ht:IsTup s.heap t items)(hs:s.heap.IsSliceOf sl vl vu .none)(pl:IsPart vl lo)(pu:IsPart vu hi)(hw:¬ (cz items.size 0 lo=0/\cz items.size items.size hi=items.size))(h:Q (.ref ↑s) { s with heap:=s.heap.push { cls:=.type "tuple",data:=.seq ((items.toList.drop (cz items.size 0 lo)).take (cz items.size items.size hi - cz items.size 0 lo)).toArray } })(hsz:items.size<=sizeLine):wpAny (model prog w) A (getItem (.ref t) (.ref sl)) Q E s:=by
 have htake:sizeOk (.seq ((items.toList.drop (cz items.size 0 lo)).take (cz items.size items.size hi - cz items.size 0 lo)).toArray):=by
  show ((items.toList.drop (cz items.size 0 lo)).take (cz items.size items.size hi - cz items.size 0 lo)).toArray.size<=sizeLine;rw[YH,Zn,ZO,ZV];cbv
 have hj:cz items.size items.size hi<=items.size:=J9 _ _ (Ys _) hi;let(os,hos,hcs,mK):=id hs;have hTs:s.TypeIs (.ref sl) "slice":=#[os,hos,hcs];unfold getItem
 try with_reducible refine wpAny_holding ?_
 first | refine wpAny_bind (wpAny_pure ?_) | skip
 refine wpAny_bind (wpAny_sequenceKey ht.typeIs (by decide) ?_);refine wpAny_bind (wpAny_callSpecial?_slot (name:=Str.ofString "__getitem__") ht.typeIs PyProof.Rows.slot_tuple_getitem
  (wpAny_call_entry PyProof.Rows.slot_tuple_getitem ht.typeIs entry_tuple_getitem ?_ (args_tuple_getitem _ _)))
 show wpAny _ _ (Builtin.Tuple.tupleItemsOf (.ref t) >>= _) _ _ s;refine wpAny_bind (tupleItemsOf_ ht ?_);refine wpAny_bind (wpAny_typeOf hTs ?_);rw[if_pos (by decide)];refine wpAny_bind (ip hs pl pu ?_);have hno:¬ ((((cz items.size 0 lo:Nat):Int) == 0&&(1:Int) == 1&&(cz items.size items.size hi - cz items.size 0 lo) == items.size)=true):=by
  intro q;rw[YG,YG] at q;have q1:((cz items.size 0 lo:Nat):Int)=0:=eq_of_beq q.1.1;have q2:cz items.size items.size hi - cz items.size 0 lo=items.size:=eq_of_beq q.2;exact hw #[by cbv,by cbv]
 show wpAny _ _ (if (((cz items.size 0 lo:Nat):Int) == 0&&(1:Int) == 1&&(cz items.size items.size hi - cz items.size 0 lo) == items.size)=true then _ else _) _ _ s;rw[if_neg hno,BZ]
 first
  | exact wpAny_bind (m:=Builtin.Tuple.tupleExact _) (wpAny_newObj_type (wpAny_pure #[_,U,wpAny_pure h]) htake)
  | exact wpAny_bind (m:=Builtin.Tuple.tupleExact _) (wpAny_newObj_type (wpAny_bind (wpAny_pure (wpAny_pure #[_,U,wpAny_pure h]))) htake)
  | exact wpAny_bind (wpAny_bind (m:=Builtin.Tuple.tupleExact _) (wpAny_newObj_type (wpAny_pure (wpAny_pure #[_,U,wpAny_pure h])) htake))
  | exact wpAny_bind (wpAny_bind (m:=Builtin.Tuple.tupleExact _) (wpAny_newObj_type (wpAny_pure #[_,U,wpAny_pure h]) htake))
end
end HT
namespace L2
open PySem PySem.Spec PyProof.Rows
abbrev TO:=St->Hp->(Option Int->Hp->Prop)->Prop
def PO(X:Cx)(e:Option Expr)(t:TO):Prop :=
 ∀ (pins:aau) (s:Shared) (O:St) (H:Hp) (Q:Option Int->Hp->Prop),Inv X pins O H s->t O H Q ->
  wpAny (model X.prog X.w) X.A (evalPart e X.env) (λu s'=>∃ o H',Inv X pins O H' s'/\IsPart u o/\Q o H') X.xe s
def GH:TO:=λ_ H Q=>Q none H
def C7(t:TE):TO:=λO H Q=>t O H λx H1=>∃ i,x=.int i/\Q (some i) H1
section
variable{X:Cx}{e:Expr}{te:TE}{lo hi:Option Expr}{tl th:TO}{pos p2:Pos}
theorem vf:PO X none GH:=by
 intro pins s O H Q I h;rw[evalPart_none];exact wpAny_pure #[none,H,I,.none,h]
theorem mB(h:PE X e te):PO X (some e) (C7 te):=by
 intro pins s O H Q I hw;rw[evalPart_some];refine b9 (h pins s O H _ I hw) λu s1 zz=>el2 zz λx H1 I1 r1 q1=>?_;let(i,rfl,q):=q1;let(t,rfl):=r1;exact#[some i,H1,I1,.int i t,q]
def MM(X:Cx)(r:V->Option Int->Option Int->Hp->VK->Prop):Prop :=
 ∀ (pins:aau) (s:Shared) (O:St) (H:Hp) (x:V) (v vl vu:Value) (lo hi:Option Int) (sl:Addr) (Q:VK),Inv X pins O H s->RelV x v->s.heap.IsSliceOf sl vl vu .none->IsPart vl lo->IsPart vu hi->r x lo hi H Q ->
  ∃ T id,typeLookup (.type T) "__getitem__"=pure (some (.builtin id))/\s.TypeIs v T/\wpAny (model X.prog X.w) X.A (getItem v (.ref sl)) (EP X pins O Q) X.xe s
def Vx(r:V->Option Int->Option Int->Hp->VK->Prop)(te:TE)(tl th:TO):TE:=λO H Q=>te O H λx H1=>tl O H1 λl H2=>th O H2 λu H3=>r x l u H3 Q
theorem iy{r:V->Option Int->Option Int->Hp->VK->Prop}(hr:MM X r)(he:PE X e te)(hl:PO X lo tl)(hu:PO X hi th):PE X (.Subscript e (.Slice lo hi none p2) pos) (Vx r te tl th):=by
 intro pins s O H Q I h;refine Subscript_ (b9 (he pins s O H _ I h) λv s1 z0q=>?_);let(x,H1,I1,r1,q1):=z0q;refine wpAny_Slice (b9 (hl pins s1 O H1 _ I1 q1) λvl s2 zz=>el2 zz λl H2 I2 pl q2=>b9 (hu pins s2 O H2 _ I2 q2) λvu s3 z1q=>?_);let(u,H3,I3,pu,q3):=z1q;rw[evalPart_none];refine wpAny_pure ?_;have I4:Inv X pins O H3 { s3 with heap:=s3.heap.push { cls:=.type "slice",data:=.fields #v[vl,vu,.none] } }:=I3.kept (t':=s3.toks) λb ob q=>Yq _ q;let(T,id,hT,ht,hg):=hr pins { s3 with heap:=s3.heap.push { cls:=.type "slice",data:=.fields #v[vl,vu,.none] } } O H3 x v vl vu l u ↑s3 Q I4 r1 (Heap.IsSliceOf.new ..) pl pu q3;show wpAny (model X.prog X.w) X.A (subscriptTail e (.Slice lo hi none p2) v (.ref ↑s3)) (EP X pins O Q) X.xe { s3 with heap:=s3.heap.push { cls:=.type "slice",data:=.fields #v[vl,vu,.none] } };exact tail_any (ops:=[.ref ↑s3,v]) ht hT hg (by with_unfolding_all rfl)
def nO(xs:List V)(lo hi:Option Int):List V:=(xs.drop (HT.cz xs.length 0 lo)).take (HT.cz xs.length xs.length hi - HT.cz xs.length 0 lo)
theorem oW(xs:List V)(lo hi:Option Int):(nO xs lo hi).length<=xs.length:=by
 unfold nO;rw[Zn,ZO];cbv
def TY(K:Frag):V->Option Int->Option Int->Hp->VK->Prop:=λx lo hi H Q=>∃ a xs,x=.ref a/\gZ K H a xs /\
 ¬ (HT.cz xs.length 0 lo=0/\HT.cz xs.length xs.length hi=xs.length)/\∀ p,H p=none->Q (.ref p) (upd H p (.tup (nO xs lo hi)))
theorem K2:MM X (TY X.K):=by
 intro pins s O H x v vl vu lo hi sl Q I rx hs pl pu h;let(a,xs,rfl,hx,hw,q):=h;cases rx;let(its,r,ht,hz):=I.tuple hx;have hlen:its.toArray.size=xs.length:=by rw[YH];exact r.length.symm
 refine#["tuple",_,PyProof.Rows.slot_tuple_getitem.lookup,ht.typeIs,?_];refine HT.me ht hs pl pu (by rw[hlen];exact hw) ?_ (by rw[hlen];exact hz);rw[hlen];refine#[.ref ↑s,_,I.laid (t':=s.toks) (o:=.tup (nO xs lo hi)) (λb ob q=>Yq _ q) (Ys _) ?_,U,q _ (I.aN.fresh (Ys _))];exact#[Yw (oW xs lo hi) hz,_,(r.drop (HT.cz xs.length 0 lo)).take (HT.cz xs.length xs.length hi - HT.cz xs.length 0 lo),IsTup.new _ _]
def Ii(K:Frag):R2:=λx y H Q=>∃ a b xs ys,x=.ref a/\y=.ref b/\gZ K H a xs/\gZ K H b ys/\xs≠[]/\xs.length+ys.length<=sizeLine /\
 (ys=[]->Q (.ref a) H)/\(ys≠[]->∀ p,H p=none->Q (.ref p) (upd H p (.tup (xs++ys))))
theorem Vals.mX{xs:List V}{us:List Value}(r:Vals xs us):us=[]↔xs=[]:=by
 cases r with
 | nil=>simp
 | cons _ _=>simp
theorem kc:iT X (binaryOp .Add) (Ii X.K):=by
 intro pins s O H x y v u Q I rx ry h;let(a,b,xs,ys,rfl,rfl,ha,hb,hx,hz,q1,q2):=h;cases rx;cases ry;let(its,r1,p1,_):=I.tuple ha;let(its2,r2,p2,_):=I.tuple hb;refine HT.Fi p1 p2 (λz=>hx (r1.mX.mp z)) (λz=>#[.ref a,H,I,U,q1 (r2.mX.mp z)]) (λz=>?_) (by rw[<- r1.length,<- r2.length];exact hz);refine#[.ref ↑s,_,I.laid (t':=s.toks) (o:=.tup (xs++ys)) (λb ob q=>Yq _ q) (Ys _) ?_,U,q2 (λw=>z (r2.mX.mpr w)) _ (I.aN.fresh (Ys _))];exact#[by rw[Yl];exact hz,_,r1.append r2,IsTup.new _ _]
end
def xZ(n:Nat)(i:Int):Option Nat:=if 0<=i then (if i < n then some i.toNat else none) else if -(n:Int)<=i then some (i+n).toNat else none
def iz{α:Type}(xs:List α)(i:Int):Option α:=(xZ xs.length i).bind λj=>xs[j]?
theorem Ao{n:Nat}{i:Int}{j:Nat}(h:xZ n i=some j):seqIndex? i n=some j/\j < n/\-(n:Int)<=i/\i < n:=by
 unfold xZ at h;by_cases h0:0<=i
 .rw[if_pos h0] at h;by_cases h1:i < n
  .rw[if_pos h1] at h;have e:i.toNat=j:=YU h;exact#[by rw[seqIndex_of h0 h1,e],by cbv,by cbv,h1]
  .rw[if_neg h1] at h;cases h
 .rw[if_neg h0] at h;by_cases h1:-(n:Int)<=i
  .rw[if_pos h1] at h;have e:(i+n).toNat=j:=YU h;exact#[by rw[seqIndex_neg (by cbv) h1,e],by cbv,h1,by cbv]
  .rw[if_neg h1] at h;cases h
theorem uH{α:Type}{xs:List α}{i:Int}{v:α}(h:iz xs i=some v):∃ j,seqIndex? i xs.length=some j/\xs[j]?=some v/\j < xs.length/\-(xs.length:Int)<=i/\i < xs.length:=by
 unfold iz at h;cases e:xZ xs.length i with
 | none=>rw[e] at h;cases h
 | some j =>
  rw[e] at h;let(h1,h2,h3,h4):=Ao e;exact#[j,h1,h,h2,h3,h4]
theorem fT{α:Type}{xs:List α}{j:Nat}{v:α}(h:xs[j]?=some v):iz xs (j:Int)=some v:=by
 have hj:j < xs.length:=(Yu.mp h).1;have e:xZ xs.length (j:Int)=some j:=by
  unfold xZ;rw[if_pos (by cbv),if_pos (by cbv)];simp
 unfold iz;rw[e];exact h
theorem ft{α:Type}(xs:List α)(v:α):iz (xs++[v]) (-1)=some v:=by
 have hl:(xs++[v]).length=xs.length+1:=by simp
 have e:xZ (xs++[v]).length (-1)=some xs.length:=by
  unfold xZ;rw[hl,if_neg (by decide),if_pos (by cbv)]
  congr 1
  cbv
 unfold iz;rw[e];show (xs++[v])[xs.length]?=some v;simp
def iS(b:Expr):Prop:=∀ o i,subscripted b false o i=operate [o,i] (getItem o i)
def F4(X:Cx)(r:R2):Prop :=
 ∀ (value slice:Expr) (pins:aau) (s:Shared) (O:St) (H:Hp) (x y:V) (v u:Value) (Q:VK),Inv X pins O H s->RelV x v->RelV y u->r x y H Q ->
  subscripted slice false v u=operate [v,u] (getItem v u)->wpAny (model X.prog X.w) X.A (subscriptTail value slice v u) (EP X pins O Q) X.xe s
def QP(X:Cx)(id:String)(r:V->List V->Hp->VK->Prop):Prop :=
 ∀ (pins:aau) (s:Shared) (O:St) (H:Hp) (x:V) (xs:List V) (v:Value) (us:List Value) (Q:VK),Inv X pins O H s->RelV x v->Vals xs us->r x xs H Q ->
  wpAny (model X.prog X.w) X.A (call (.builtin id) (v::us)) (EP X pins O Q) X.xe s
section
variable{X:Cx}{a b:Expr}{ta tb:TE}{pos:Pos}
theorem dO{r:R2}(hr:F4 X r)(ha:PE X a ta)(hb:PE X b tb)(hs:iS b):PE X (.Subscript a b pos) (jh r ta tb):=by
 intro pins s O H Q I h;exact Subscript_ (IU ha hb I h λv u s2 x y H2 I2 rx ry q=>hr a b pins s2 O H2 x y v u Q I2 rx ry q (hs _ _))
def AR(K:Frag):R2:=λx y H Q=>∃ p xs i v,x=.ref p/\y=.int i/\cn K H p xs/\iz xs i=some v/\Q v H
def La(K:Frag):R2:=λx y H Q=>∃ p xs i v,x=.ref p/\y=.int i/\gZ K H p xs/\iz xs i=some v/\Q v H
def NS:R2:=λx y H Q=>∃ z i c,x=.str z/\y=.int i/\z.length<=sizeLine/\iz z.cps.toList i=some c/\Q (.str #[#v[c]]) H
theorem bO:F4 X (AR X.K):=by
 intro value slice pins s O H x y v u Q I rx ry h hs;let(p,xs,i,z,rfl,rfl,hq,he,q):=h;cases rx;let(t,rfl):=ry;let(its,r,pl,hz):=I.list hq;let(j,h1,h2,h3,h4,h5):=uH he;let(w,ew,rw'):=r.get h2;have hl:=r.length;have hn:=lE;have fin:EP X pins O Q w s:=#[z,H,I,rw',q];by_cases h0:0<=i
 .have hj:i.toNat=j:=by
   rw[seqIndex_of h0 h5] at h1;exact YU h1
  exact item_listR pl.isList h0 (by cbv) (by rw[hj];simpa using ew) fin hs
 .have hj:(i+(its.toArray.size:Int)).toNat=j:=by
   rw[seqIndex_neg (by cbv) h4] at h1;rw[YH,<- hl];exact YU h1
  exact subscriptTail_builtinR (x:=w) pl.isList.typeIs slot_list_getitem.lookup
   (wpAny_getItem_list_neg (Q:=λr s'=>r=w/\EP X pins O Q r s') pl.isList (by cbv) (by rw[List.size_toArray]<;>cbv) (by cbv) (by rw[hj];simpa using ew) #[U,fin]) hs
theorem EW:F4 X (La X.K):=by
 intro value slice pins s O H x y v u Q I rx ry h hs;let(p,xs,i,z,rfl,rfl,hq,he,q):=h;cases rx;let(t,rfl):=ry;let(its,r,pl,hz):=I.tuple hq;let(j,h1,h2,h3,h4,h5):=uH he;let(w,ew,rw'):=r.get h2;have hl:=r.length;have hn:=lE;have fin:EP X pins O Q w s:=#[z,H,I,rw',q];exact subscriptTail_builtinR (x:=w) pl.typeIs slot_tuple_getitem.lookup
  (getItem_tuple (j:=j) (Q:=λr s'=>r=w/\EP X pins O Q r s') pl (by cbv) (by cbv) (by rw[List.size_toArray,<- hl];exact h1) (by simpa using ew) #[U,fin]) hs
theorem vy:F4 X NS:=by
 intro value slice pins s O H x y v u Q I rx ry h hs;let(z,i,c,rfl,rfl,hz,he,q):=h;let(t,rfl):=rx;let(t',rfl):=ry;let(j,h1,h2,h3,h4,h5):=uH he;have hl:z.cps.toList.length=z.length:=by simp[Str.length]
 rw[hl] at h1 h4 h5;have hn:=lE;exact tail_any (typeIs_str s z t) slot_str_getitem.lookup (getItem_str (c:=c) (by
  have e1:decide (i < -(2 ^ 63:Int))=false:=decide_eq_false (by cbv);have e2:decide (i ≥ 2 ^ 63)=false:=decide_eq_false (by cbv);rw[e1,e2,Bool.or_false]) (by rw[h1];simpa using h2) #[.str #[#v[c]],H,I.tok _,#[_,U],q]) hs
theorem yl(its:List Value)(n j:Nat)(u:Value):Obj.mapSeq (·.setIfInBounds j u) { cls:=.type "list",data:=.seq its.toArray n }={ cls:=.type "list",data:=.seq (its.set j u).toArray n }:=by
 simp[Obj.mapSeq]
theorem Inv.lst{pins:aau}{O:St}{H:Hp}{s:Shared}{p:Addr}{xs:List V}(I:Inv X pins O H s)(h:H p=some (.lst xs)) :
  ∃ (its:List Value) (n:Nat),Vals xs its/\s.heap.get? p=some { cls:=.type "list",data:=.seq its.toArray n }/\xs.length<=sizeLine:=by
 let(z,its,n,r,e):=I.aN p _ h;exact#[its,n,r,e,z]
theorem Inv.Lj{pins:aau}{O:St}{H:Hp}{s:Shared}{p:Addr}{xs ys:List V}{its its':List Value}{n n':Nat}{f:Obj->Obj}(I:Inv X pins O H s)(h:H p=some (.lst xs))(ho:s.heap.get? p=some { cls:=.type "list",data:=.seq its.toArray n })(hf:f { cls:=.type "list",data:=.seq its.toArray n }={ cls:=.type "list",data:=.seq its'.toArray n' })(r:Vals ys its')(hz:ys.length<=sizeLine)(t:Nat) :
  Inv X pins O (upd H p (.lst ys)) { s with heap:=s.heap.update p f,toks:=t }:=by
 have e:(s.heap.update p f).get? p=some { cls:=.type "list",data:=.seq its'.toArray n' }:=by
  rw[aal f ho (by rw[hf]<;>rfl),hf]
 refine I.write (x:=p) (e:=p) (by rw[h];trivial) (.inl U) (λb u hb q=>(aad _ _ (Ne.symm hb)).trans q) #[_,e] ?_;exact#[hz,its',n',r,e]
def Ip:V->V->V->Hp->(Hp->Prop)->Prop:=λo i v H Q=>∃ p xs k j,o=.ref p/\i=.int k/\H p=some (.lst xs)/\xZ xs.length k=some j/\Q (upd H p (.lst (xs.set j v)))
theorem set_list:Pf X Ip:=by
 intro pins s O H o i v ov iv u Q I ro ri rv h;let(p,xs,k,j,rfl,rfl,hp,hj,q):=h;cases ro;let(t,rfl):=ri;let(its,n,r,ho,hz):=I.lst hp;let(h1,h2,h3,h4):=Ao hj;have hl:=r.length;have hn:=lE;have I':Inv X pins O (upd H p (.lst (xs.set j v))) { s with heap:=s.heap.update p (Obj.mapSeq (·.setIfInBounds j u)) } :=
  I.Lj hp ho (yl its n j u) (r.set rv j) (by rw[Y7];exact hz) s.toks
 by_cases h0:0<=k
 .have hk:k.toNat=j:=by
   rw[seqIndex_of h0 h4] at h1;exact YU h1
  exact PySem.W.ki_setAt ho h0 (by cbv) (by rw[YH,<- hl];exact h4) (by rw[hk];exact#[_,I',q])
 .have hk:(k+(its.toArray.size:Int)).toNat=j:=by
   rw[seqIndex_neg (by cbv) h3] at h1;rw[YH,<- hl];exact YU h1
  exact PySem.W.ki_setBack ho (by cbv) (by rw[YH,<- hl];exact h3) (by cbv) (by rw[hk];exact#[_,I',q])
theorem vz(lo hi:Option Int)(n:Nat):(sliceBounds lo hi none n).1=((HT.cz n 0 lo:Nat):Int)/\(sliceBounds lo hi none n).2.1=((HT.cz n n hi:Nat):Int)/\(sliceBounds lo hi none n).2.2=1:=by
 refine#[?_,?_,U]
 .cases lo with
  | none=>simp[sliceBounds,HT.cz]
  | some i =>
   simp only[sliceBounds,HT.cz,Option.getD_none,show (1:Int) > 0 by decide,if_true];by_cases h:i < 0
   .simp only[h,if_true]<;>cbv
   .simp only[h,if_false]<;>cbv
 .cases hi with
  | none=>simp[sliceBounds,HT.cz]
  | some i =>
   simp only[sliceBounds,HT.cz,Option.getD_none,show (1:Int) > 0 by decide,if_true];by_cases h:i < 0
   .simp only[h,if_true]<;>cbv
   .simp only[h,if_false]<;>cbv
theorem sM(its:List Value)(lo hi:Option Int):slicePick its.toArray lo hi none=((its.drop (HT.cz its.length 0 lo)).take (HT.cz its.length its.length hi - HT.cz its.length 0 lo)).toArray:=by
 let(h1,h2,h3):=vz lo hi its.toArray.size;unfold slicePick;rw[h1,h2,h3];simp only[sliceRange_one,pick_run,List.size_toArray]<;>rfl
def NP(K:Frag):V->Option Int->Option Int->Hp->VK->Prop:=λx lo hi H Q=>∃ a xs,x=.ref a/\cn K H a xs/\∀ p,H p=none->Q (.ref p) (upd H p (.lst (nO xs lo hi)))
theorem vj:MM X (NP X.K):=by
 intro pins s O H x v vl vu lo hi sl Q I rx hs pl pu h;let(a,xs,rfl,hx,q):=h;cases rx;let(its,r,ht,hz):=I.list hx;have hlen:=r.length;refine#["list",_,slot_list_getitem.lookup,ht.isList.typeIs,?_];refine wpAny_getItem_list_slice ht.isList hs pl pu .none (by simp) ?_ (by rw[List.size_toArray]<;>cbv);rw[sM,<- hlen];refine#[.ref ↑s,_,I.laid (t':=s.toks) (o:=.lst (nO xs lo hi)) (λb ob q=>Yq _ q) (Ys _) ?_,U,q _ (I.aN.fresh (Ys _))];exact#[Yw (oW xs lo hi) hz,_,0,(r.drop (HT.cz xs.length 0 lo)).take (HT.cz xs.length xs.length hi - HT.cz xs.length 0 lo),YD _ U]
def lj:V->Bool
 | .cw=>true
 | .bl _=>true
 | .int _=>true
 | .str _=>true
 | _=>false
def GD:V->V->Bool
 | .cw,.cw=>true
 | .bl a,.bl b=>a == b
 | .bl a,.int b=>(if a then 1 else 0) == b
 | .int a,.bl b=>a == (if b then 1 else 0)
 | .int a,.int b=>a == b
 | .str a,.str b=>a == b
 | _,_=>false
theorem K6{A:Around}{s:Shared}{y x:V}{u v:Value}(ry:RelV y u)(rx:RelV x v)(fy:lj y=true)(fx:lj x=true):SeqAt.EqAt A s u v (GD y x):=by
 cases y with
 | cw =>
  cases ry;cases x with
  | cw=>cases rx;exact SeqAt.EqAt.same _
  | bl b=>cases rx;exact SeqAt.EqAt.none_bool b
  | int b=>let(t,rfl):=rx;exact SeqAt.EqAt.none_int b t
  | str b=>let(t,rfl):=rx;exact SeqAt.EqAt.none_str b t
  | _=>exact absurd (show false=true from fx) Yy
 | bl a =>
  cases ry;cases x with
  | cw=>cases rx;exact SeqAt.EqAt.bool_none a
  | bl b=>cases rx;exact SeqAt.EqAt.bool_bool a b
  | int b=>let(t,rfl):=rx;exact SeqAt.EqAt.bool_int a b t
  | str b=>let(t,rfl):=rx;exact SeqAt.EqAt.bool_str a b t
  | _=>exact absurd (show false=true from fx) Yy
 | int a =>
  let(t',rfl):=ry;cases x with
  | cw=>cases rx;exact SeqAt.EqAt.int_none a t'
  | bl b=>cases rx;exact SeqAt.EqAt.int_bool a t' b
  | int b=>let(t,rfl):=rx;exact SeqAt.EqAt.int_int a t' b t
  | str b=>let(t,rfl):=rx;exact SeqAt.EqAt.int_str a t' b t
  | _=>exact absurd (show false=true from fx) Yy
 | str a =>
  let(t',rfl):=ry;cases x with
  | cw=>cases rx;exact SeqAt.EqAt.str_none a t'
  | bl b=>cases rx;exact SeqAt.EqAt.str_bool a t' b
  | int b=>let(t,rfl):=rx;exact SeqAt.EqAt.str_int a t' b t
  | str b=>let(t,rfl):=rx;exact SeqAt.EqAt.str_str a t' b t
  | _=>exact absurd (show false=true from fx) Yy
 | _=>exact absurd (show false=true from fy) Yy
def yj(x:V)(u:Value):Bool:=match u with
 | .none=>GD .cw x
 | .bool b=>GD (.bl b) x
 | .int i _=>GD (.int i) x
 | .str z _=>GD (.str z) x
 | _=>false
theorem Dv{x y:V}{u:Value}(r:RelV y u)(f:lj y=true):yj x u=GD y x:=by
 cases y with
 | cw=>cases r;rfl
 | bl b=>cases r;rfl
 | int i=>let(t,rfl):=r;rfl
 | str z=>let(t,rfl):=r;rfl
 | _=>exact absurd (show false=true from f) Yy
theorem lX{x:V}:∀ {xs:List V} {us:List Value},Vals xs us->xs.all lj=true->us.any (yj x)=xs.any λy=>GD y x
 | _,_,.nil,_=>rfl
 | y::xs,u::us,.cons r t,f=>by
  rw[ZS,YG] at f;rw[Zh,Zh,Dv r f.1,lX t f.2]
theorem jS{A:Around}{s:Shared}{x:V}{v:Value}(rx:RelV x v)(fx:lj x=true):∀ {xs:List V} {us:List Value},Vals xs us->xs.all lj=true->∀ u∈us,SeqAt.EqAt A s u v (yj x u)
 | _,_,.nil,_=>λu hu=>by cases hu
 | y::xs,u::us,.cons r t,f=>λu' hu=>by
  rw[ZS,YG] at f;rcases Yn.mp hu with rfl | hu
  .rw[Dv r f.1];exact K6 r rx f.1 fx
  .exact jS rx fx t f.2 u' hu
def lz(x:V)(xs:List V):Bool:=xs.any λy=>GD y x
def LS(K:Frag)(neg:Bool):R2:=λx y H Q=>∃ p xs,y=.ref p/\(cn K H p xs\/gZ K H p xs)/\lj x=true/\xs.all lj=true/\Q (.bl (if neg then !lz x xs else lz x xs)) H
theorem dq:iT X (compareOp .In) (LS X.K false):=by
 intro pins s O H x y v u Q I rx ry h;let(p,xs,rfl,hq,fx,fs,q):=h;cases ry;rcases hq with hq | hq
 .let(its,r,pl,hz):=I.list hq;refine SeqAt.in_listAt (yj x) pl.isList (λw hw=>jS rx fx r fs w (by simpa using hw)) #[.bl _,H,I,U,?_];rw[show its.toArray.any (yj x)=its.any (yj x) by simp,lX r fs];exact q
 .let(its,r,pl,hz):=I.tuple hq;refine SeqAt.in_tupleAt (yj x) pl (λw hw=>jS rx fx r fs w (by simpa using hw)) #[.bl _,H,I,U,?_];rw[show its.toArray.any (yj x)=its.any (yj x) by simp,lX r fs];exact q
theorem m7:iT X (compareOp .NotIn) (LS X.K true):=by
 intro pins s O H x y v u Q I rx ry h;let(p,xs,rfl,hq,fx,fs,q):=h;cases ry;rcases hq with hq | hq
 .let(its,r,pl,hz):=I.list hq;refine SeqAt.notIn_listAt (yj x) pl.isList (λw hw=>jS rx fx r fs w (by simpa using hw)) #[.bl _,H,I,U,?_];rw[show its.toArray.any (yj x)=its.any (yj x) by simp,lX r fs];exact q
 .let(its,r,pl,hz):=I.tuple hq;refine SeqAt.notIn_tupleAt (yj x) pl (λw hw=>jS rx fx r fs w (by simpa using hw)) #[.bl _,H,I,U,?_];rw[show its.toArray.any (yj x)=its.any (yj x) by simp,lX r fs];exact q
theorem ff:fH X (.builtin "len") (λxs H Q=>∃ p ys,xs=[.ref p]/\(cn X.K H p ys\/gZ X.K H p ys)/\Q (.int ys.length) H):=by
 intro pins s O H xs us Q I r h;let(p,ys,rfl,hq,q):=h;let(u,rfl,rx):=vals1 r;cases rx;have hn:=lE;rcases hq with hq | hq
 .let(its,r',pl,hz):=I.list hq;have hlen:=r'.length;exact Calls.call_len_list pl.isList (by simp only[List.size_toArray]<;>cbv) #[.int ys.length,H,I.tok _,#[s.toks+1,by rw[List.size_toArray,hlen]],q]
 .let(its,r',pl,hz):=I.tuple hq;have hlen:=r'.length;exact len_tuple pl (by simp only[List.size_toArray]<;>cbv) #[.int ys.length,H,I.tok _,#[s.toks+1,by rw[List.size_toArray,hlen]],q]
theorem fB:fH X (.builtin "len") (λxs H Q=>∃ z,xs=[.str z]/\z.length<=sizeLine/\Q (.int z.length) H):=by
 intro pins s O H xs us Q I r h;let(z,rfl,hz,q):=h;let(u,rfl,t,rfl):=vals1 r;have hn:=lE;exact len_str (by cbv) #[.int z.length,H,I.tok _,#[_,U],q]
theorem d5:fH X (.type "list") (λxs H Q=>∃ p ys,xs=[.ref p]/\(cn X.K H p ys\/gZ X.K H p ys)/\∀ l,H l=none->Q (.ref l) (upd H l (.lst ys))):=by
 intro pins s O H xs us Q I r h;let(p,ys,rfl,hq,q):=h;let(u,rfl,rx):=vals1 r;cases rx;have fin:∀ (its:List Value),Vals ys its->ys.length<=sizeLine->∀ (h':Heap) (c':Nat),(∀ b o',s.heap.get? b=some o'->h'.get? b=some o') ->
   h'.get? ↑s=some { cls:=.type "list",dict:=none,data:=.seq its.toArray c',slots:=#v[] }->EP X pins O Q (.ref ↑s) { s with heap:=h' }:=λits r' hz h' c' kp e =>
  #[.ref ↑s,_,I.laid (t':=s.toks) kp (Ys _) (show c8 X.prog X.w _ h' _ (.lst ys) from #[hz,its,c',r',e]),U,q _ (I.aN.fresh (Ys _))]
 rcases hq with hq | hq
 .let(its,r',pl,hz):=I.list hq;have hlen:=r'.length;let(o,ho,hc,n,hd):=pl.isList;exact call_list_seq p (.inl U) ho hc hd (λh' c' kp e=>fin its r' hz h' c' kp e) (by simp only[List.size_toArray]<;>cbv)
 .let(its,r',pl,hz):=I.tuple hq;have hlen:=r'.length;let(o,ho,hc,n,hd):=pl;exact call_list_seq p (.inr U) ho hc hd (λh' c' kp e=>fin its r' hz h' c' kp e) (by simp only[List.size_toArray]<;>cbv)
theorem la:fH X (.type "tuple") (λxs H Q=>∃ p ys,xs=[.ref p]/\((cn X.K H p ys/\∀ l,H l=none->Q (.ref l) (upd H l (.tup ys)))\/(gZ X.K H p ys/\Q (.ref p) H))):=by
 intro pins s O H xs us Q I r h;let(p,ys,rfl,h):=h;let(u,rfl,rx):=vals1 r;cases rx;rcases h with ⟨hq,q⟩ | ⟨hq,q⟩
 .let(its,r',pl,hz):=I.list hq;have hlen:=r'.length;refine call_tuple_list pl.isList (λh' kp=>?_) (by simp only[List.size_toArray]<;>cbv);have I1:Inv X pins O H { s with heap:=h' }:=I.kept (t':=s.toks) kp;have I2:Inv X pins O (upd H h'.objs.size (.tup ys)) { s with heap:=h'.push { cls:=.type "tuple",data:=.seq its.toArray } } :=
   I1.laid (t':=s.toks) (λb o e=>Yq _ e) (Ys _) (show c8 X.prog X.w _ _ _ (.tup ys) from #[hz,its,r',IsTup.new _ _])
  exact#[.ref h'.objs.size,_,I2,U,q _ (I1.aN.fresh (Ys _))]
 .let(its,r',pl,hz):=I.tuple hq;exact call_tuple_same pl #[.ref p,H,I,U,q]
def Ui(K:Frag)(T:String)(x:V)(H:Hp):Prop:=match x with
 | .str _=>T="str"
 | .int _=>T="int"
 | .ref p=>(T="list"/\∃ xs,cn K H p xs)\/(T="tuple"/\∃ o,K.lookup p=some o/\o.cls=.type "tuple"/\o.dict=none) \/
   (T="dict"/\((∃ kvs,H p=some (.dK kvs))\/∃ kvs,H p=some (.dT kvs)))\/(T="set"/\∃ S n,H p=some (.set S n))
 | _=>False
theorem EU{pins:aau}{O:St}{H:Hp}{s:Shared}{T:String}{x:V}{v:Value}(I:Inv X pins O H s)(r:RelV x v)(ty:Ui X.K T x H) :
  s.TypeIs v T/\∀ a,v=.ref a->∃ ob,s.heap.get? a=some ob/\ob.dict=none:=by
 cases x with
 | str z =>
  let(t,rfl):=r;cases (show T="str" from ty);exact#[typeIs_str s z t,λ_ e=>nomatch e]
 | int i =>
  let(t,rfl):=r;cases (show T="int" from ty);exact#[typeIs_int s i t,λ_ e=>nomatch e]
 | ref p =>
  cases r;rcases ty with ⟨rfl,xs,hq⟩ | ⟨rfl,o,hk,hc,hd⟩ | ⟨rfl,hk⟩ | ⟨rfl,S,n,hk⟩
  .let(its,_,pl,_):=I.list hq;refine#[pl.isList.typeIs,λa e=>?_];cases e;let(o,n,e,c,hd,_):=pl;exact#[o,e,hd]
  .refine#[#[o,I.Ig p o hk,hc],λa e=>?_];cases e;exact#[o,I.Ig _ o hk,hd]
  .have z:∃ o,s.heap.get? p=some o/\o.ExactDict:=by
    rcases hk with ⟨kvs,hk⟩ | ⟨kvs,hk⟩
    .let(_,_,_,_,o,_,_,e,ex,_):=I.aN p _ hk;exact#[o,e,ex]
    .let(_,_,_,_,o,_,_,e,ex,_):=I.aN p _ hk;exact#[o,e,ex]
   let(o,e,ex):=z;refine#[#[o,e,ex.1],λa e2=>?_];cases e2;exact#[o,e,ex.2.1]
  .let(o,_,_,_,e,ex,_):=I.aN p _ hk;refine#[#[o,e,ex.1],λa e2=>?_];cases e2;exact#[o,e,ex.2.1]
 | _=>exact False.elim ty
def IZ(K:Frag)(T:String)(r:V->List V->Hp->VK->Prop)(to:TE):TE:=λO H Q=>to O H λx H1=>Ui K T x H1/\r x [] H1 Q
def Qx(K:Frag)(T:String)(r:V->List V->Hp->VK->Prop)(to:TE)(t:TA):TE:=λO H Q=>to O H λx H1=>Ui K T x H1/\t O H1 λxs H2=>r x xs H2 Q
variable{o e:Expr}{es:List Expr}{to:TE}{t:TA}{name:Str}{apos cB:Pos}{T id:String}{r:V->List V->Hp->VK->Prop}
theorem yh(pa:PlainAttrs T)(slot:Slot T name id)(Je:typeOf (.builtin id)=pure (.type "method_descriptor"))(hm:QP X id r)(ho:PE X o to)(iu:attributeBase o name X.env (eval o X.env)=eval o X.env:=by rfl)(gW:(apos.endLine == cB.line)=true:=by rfl):PE X (.Call (.Attribute o name apos) [] [] cB) (IZ X.K T r to):=by
 intro pins s O H Q I h;refine wpAny_Call_method0_late iu gW (b9 (ho pins s O H _ I h) λv s1 z2q=>?_);let(x,H1,I1,r1,ty,q1):=z2q;let(h1,h2):=EU I1 r1 ty;exact#[T,id,pa,slot,Je,h1,h2,Calls.callWith_builtin U (PySem.evalArgs_none (hm pins s1 O H1 x [] v [] Q I1 r1 .nil q1))]
theorem gx(pa:PlainAttrs T)(slot:Slot T name id)(Je:typeOf (.builtin id)=pure (.type "method_descriptor"))(hm:QP X id r)(ho:PE X o to)(ha:PA X (e::es) t)(iu:attributeBase o name X.env (eval o X.env)=eval o X.env:=by rfl)(u6:((backTo cB (starEach (e::es) X.env)).all (λx=>!x.1)&&(backToKw cB (keywordEach [] X.env)).all (λx=>x.1.isSome)
   && decide ((e::es).length+([]:List Keyword).length+(if ([]:List Keyword).isEmpty then 0 else 1) < 30))=true:=by rfl)(gW:(apos.endLine == cB.line)=true:=by rfl)(hs:aaw X.env e es:=by rfl)(iK:(backTo cB (starEach es X.env)).any (·.1)=false:=by rfl) :
  PE X (.Call (.Attribute o name apos) (e::es) [] cB) (Qx X.K T r to t):=by
 intro pins s O H Q I h;refine wpAny_Call_method_late iu u6 gW U (b9 (ho pins s O H _ I h) λv s1 z3q=>?_);let(x,H1,I1,r1,ty,q1):=z3q;let(h1,h2):=EU I1 r1 ty;refine#[T,id,pa,slot,Je,h1,h2,?_];have hA:=ha cB pins s1 O H1 _ I1 q1;rw[hs] at hA ⊢;refine Calls.callWith_builtin (by show (false||(backTo cB (starEach es X.env)).any (·.1))=false;rw[iK]<;>rfl) (Calls.evalArgs_plain ?_);exact b9 hA λus s2 #[vs,H2,I2,r2,q2]=>hm pins s2 O H2 x vs v us Q I2 r1 r2 q2
end
def JZ(X:Cx)(id:String)(r:V->List V->Hp->VK->Prop):Prop :=
 ∀ (pins:aau) (s:Shared) (O:St) (H:Hp) (x:V) (xs:List V) (v:Value) (us:List Value) (Q:VK),Inv X pins O H s->RelV x v->Vals xs us->r x xs H Q ->
  wpAny (model X.prog X.w) X.A (call (.builtin id) (v::us)) (EP X pins O Q) X.xe s
theorem Vals.one{x:V}{us:List Value}(h:Vals [x] us):∃ u,us=[u]/\RelV x u:=by
 cases h with
 | cons r t=>cases t with
  | nil=>exact#[_,U,r]
theorem Vals.two{x y:V}{us:List Value}(h:Vals [x,y] us):∃ u v,us=[u,v]/\RelV x u/\RelV y v:=by
 cases h with
 | cons r t=>cases t with
  | cons q t=>cases t with
   | nil=>exact#[_,_,U,r,q]
theorem Vals.zero:∀ {us:List Value},Vals [] us->us=[]
 | _,.nil=>rfl
theorem Vals.dropLast{xs:List V}{us:List Value}(h:Vals xs us):Vals xs.dropLast us.dropLast:=by
 induction h with
 | nil=>exact .nil
 | cons r t ih =>
  cases t with
  | nil=>exact .nil
  | cons q t'=>exact .cons r ih
theorem Vals.reverse{xs:List V}{us:List Value}(h:Vals xs us):Vals xs.reverse us.reverse:=by
 induction h with
 | nil=>exact .nil
 | cons r t ih=>rw[ZI,ZI];exact Vals.append ih (.cons r .nil)
theorem yG{α:Type}(l:List α):l.eraseIdx (l.length - 1)=l.dropLast:=by
 induction l with
 | nil=>rfl
 | cons a r ih =>
  cases r with
  | nil=>rfl
  | cons b r =>
   have e:(a::b::r).length - 1=((b::r).length - 1)+1:=by
    have h1:(a::b::r).length=r.length+2:=rfl;have h2:(b::r).length=r.length+1:=rfl;cbv
   rw[e,List.eraseIdx_cons_succ,ih]
   all_goals rfl
section
variable{X:Cx}{pins:aau}{O:St}{H:Hp}{s:Shared}{l b:Addr}{xs ys zs:List V}
theorem Inv.KJ{its its':List Value}{n:Nat}{f:Array Value->Array Value}{t':Nat}(I:Inv X pins O H s)(hH:H l=some (.lst xs))(e:s.heap.get? l=some { cls:=.type "list",data:=.seq its.toArray n })(hf:f its.toArray=its'.toArray)(hv:Vals ys its')(hz:ys.length<=sizeLine) :
  Inv X pins O (upd H l (.lst ys)) { s with heap:=s.heap.update l (Obj.mapSeq f),toks:=t' }:=by
 have q:=PySem.IsL.update e f;rw[hf] at q;refine I.write (x:=l) (e:=l) (by rw[hH];exact trivial) (.inl U) (λb' u hb hu=>(aad s.heap (Obj.mapSeq f) (Ne.symm hb)).trans hu) #[_,q] ?_;exact#[hz,its',_,hv,q]
theorem Inv.NZ{its:List Value}{t':Nat}(I:Inv X pins O H s)(hv:Vals ys its)(hz:ys.length<=sizeLine) :
  Inv X pins O (upd H ↑s (.lst ys)) { s with heap:=s.heap.push { cls:=.type "list",data:=.seq its.toArray },toks:=t' } :=
 I.laid (λ_ _ q=>Yq _ q) (Ys _) #[hz,its,0,hv,YD _ U]
theorem Inv.fresh(I:Inv X pins O H s):H ↑s=none:=I.aN.fresh (Ys _)
theorem Inv.Be(I:Inv X pins O H s)(hH:H l=some (.lst xs)):xs.length<=sizeLine/\∃ (its:List Value) (n:Nat),Vals xs its/\xs.length=its.length/\s.heap.get? l=some { cls:=.type "list",data:=.seq its.toArray n }:=by
 let(z,its,n,r,e):=I.aN l _ hH;exact#[z,its,n,r,r.length,e]
theorem B7{n:Nat}(h:n<=sizeLine):Builtin.List.listTooLong n=false:=by
 unfold Builtin.List.listTooLong;exact decide_eq_false (by cbv)
end
section
variable{X:Cx}
def pW:V->List V->Hp->VK->Prop:=λx vs H Q=>∃ l xs y,x=.ref l/\vs=[y]/\H l=some (.lst xs)/\xs.length < sizeLine/\Q .cw (upd H l (.lst (xs++[y])))
theorem cM:JZ X "list.append" pW:=by
 intro pins s O H x vs v us Q I rx rv h;let(l,xs,y,rfl,rfl,hH,hz,q):=h;cases rx;let(u,rfl,ru):=rv.one;let(z,its,n,r,hl,e):=I.Be hH;refine call_meets F.slot_list_append #[_,e,U] F.entry_list_append (F.args_list_append_2 _ _) (PySem.list_append l its.toArray n u (by rw[YH];cbv)) #[e,?_];refine#[.cw,_,I.KJ (its':=its++[u]) hH e (by simp) (r.append (.cons ru .nil)) ?_,U,q];rw[Yl,ZL];cbv
def Ap:V->List V->Hp->VK->Prop:=λx vs H Q=>∃ l b xs zs,x=.ref l/\vs=[.ref b]/\H l=some (.lst xs)/\H b=some (.lst zs)/\xs.length+zs.length<=sizeLine/\Q .cw (upd H l (.lst (xs++zs)))
theorem cP:JZ X "list.extend" Ap:=by
 intro pins s O H x vs v us Q I rx rv h;let(l,b,xs,zs,rfl,rfl,hH,hB,hz,q):=h;cases rx;let(u,rfl,ru):=rv.one;cases ru;let(z,its,n,r,hl,e):=I.Be hH;let(z2,its2,n2,r2,HK,e2):=I.Be hB;have hsz:its.toArray.size+its2.toArray.size<=sizeLine:=by rw[YH,YH];cbv
 have hlong:¬ (!its.toArray.isEmpty&&Builtin.List.listTooLong (its.toArray.size+its2.toArray.size))=true:=by
  rw[B7 hsz,Bool.and_false];exact Yy
 refine call_meets F.slot_list_extend #[_,e,U] F.entry_list_extend (F.args_list_extend_2 _ _)
  (AutoSeq1.list_extend_list_list_0 l its.toArray n b its2.toArray n2 hlong (by rw[YH];cbv) (by cbv)) #[e,e2,?_]
 refine#[.cw,_,I.KJ (its':=its++its2) hH e (by simp) (r.append r2) ?_,U,q];rw[Yl];cbv
def JU:V->List V->Hp->VK->Prop:=λx vs H Q=>∃ l xs y,x=.ref l/\vs=[]/\H l=some (.lst xs)/\xs[xs.length - 1]?=some y/\Q y (upd H l (.lst xs.dropLast))
theorem qx:JZ X "list.pop" JU:=by
 intro pins s O H x vs v us Q I rx rv h;let(l,xs,y,rfl,rfl,hH,hy,q):=h;cases rx;have hus:=rv.zero;subst hus;let(z,its,n,r,hl,e):=I.Be hH;let(u,hu,ru):=r.get hy;have hy':its.toArray[its.toArray.size - 1]?=some u:=by
  show its.toArray[its.length - 1]?=some u;rw[<- ZM,<- hl];exact hu
 refine call_meets F.slot_list_pop #[_,e,U] F.entry_list_pop (F.args_list_pop_1 _) (MeetsSeq.list_pop_last l its.toArray n u hy' (by rw[YH];cbv)) #[e,?_];refine#[y,_,I.KJ (its':=its.dropLast) hH e ?_ r.dropLast ?_,ru,q]
 .show its.toArray.eraseIdxIfInBounds (its.toArray.size - 1)=its.dropLast.toArray;rw[YH,List.eraseIdxIfInBounds_toArray,yG]
 .rw[List.length_dropLast];cbv
def Nt:R2:=λx y H Q=>∃ l b xs zs,x=.ref l/\y=.ref b/\H l=some (.lst xs)/\H b=some (.lst zs)/\xs.length+zs.length<=sizeLine/\∀ p,H p=none->Q (.ref p) (upd H p (.lst (xs++zs)))
theorem bu:iT X (binaryOp .Add) Nt:=by
 intro pins s O H x y v u Q I rx ry h;let(l,b,xs,zs,rfl,rfl,hH,hB,hz,q):=h;cases rx;cases ry;let(z,its,n,r,hl,e):=I.Be hH;let(z2,its2,n2,r2,HK,e2):=I.Be hB;refine PySem.P.add_list e e2 ?_ (by rw[YH,YH];cbv);have ea:its.toArray++its2.toArray=(its++its2).toArray:=by simp
 rw[ea];exact#[.ref _,_,I.NZ (t':=s.toks) (r.append r2) (by rw[Yl];cbv),U,q _ I.fresh]
end
section
variable{prog:Program}{w:World}{A:Around}{E:aat}{s:Shared}
end
section
variable{X:Cx}
end
section
variable{κ:Type}[DecidableEq κ]
def iN(kvs:List (κ×V))(k:κ):Option V:=(kvs.find? λkv=>decide (kv.1=k)).map (·.2)
def putK(kvs:List (κ×V))(k:κ)(v:V):List (κ×V) :=
 if (kvs.any λkv=>decide (kv.1=k))=true then kvs.map (λkv=>if kv.1=k then (kv.1,v) else kv) else kvs++[(k,v)]
theorem qv{k:κ}:iN ([]:List (κ×V)) k=none:=rfl
theorem gC{p:κ×V}{r:List (κ×V)}{k:κ}(e:p.1=k):iN (p::r) k=some p.2:=by simp[iN,List.find?_cons,e]
theorem eD{p:κ×V}{r:List (κ×V)}{k:κ}(e:¬ p.1=k):iN (p::r) k=iN r k:=by simp[iN,List.find?_cons,e]
theorem r8(k:κ):∀ kvs:List (κ×V),(kvs.any λkv=>decide (kv.1=k))=(iN kvs k).isSome
 | []=>rfl
 | p::r=>by
  rw[Zh];by_cases e:p.1=k
  .simp only[gC e,decide_eq_true e,Bool.true_or,Option.isSome_some]
  .rw[eD e,decide_eq_false e,Bool.false_or];exact r8 k r
theorem jT(kvs:List (κ×V))(k:κ)(v:V):(putK kvs k v).length<=kvs.length+1:=by
 unfold putK;split
 .rw[Yk];cbv
 .rw[Yl,Yv,ZX];cbv
theorem rK{kvs:List (κ×V)}{k:κ}(v:V)(h:iN kvs k=none):putK kvs k v=kvs++[(k,v)]:=by
 unfold putK;rw[r8,h];exact if_neg (by decide)
theorem pz.Bx{o:Option V}{u:Option Value}(r:pz o u):o.isSome=u.isSome:=by
 cases o with
 | none=>cases u with
  | none=>rfl
  | some _=>exact (show False from r).elim
 | some _=>cases u with
  | none=>exact (show False from r).elim
  | some _=>rfl
theorem pz.getD{o:Option V}{u:Option Value}{d:V}{d':Value}(r:pz o u)(rd:RelV d d'):RelV (o.getD d) (u.getD d'):=by
 cases o with
 | none=>cases u with
  | none=>exact rd
  | some _=>exact (show False from r).elim
 | some _=>cases u with
  | none=>exact (show False from r).elim
  | some _=>exact r
theorem KV.val{kvs:List (κ×V)}{vs:List (κ×Value)}(r:KV kvs vs)(k:κ):pz (iN kvs k) (valueAt vs k):=by
 unfold KV at r
 induction r with
 | nil=>exact True.intro
 | @cons p q ps qs h t ih =>
  let(h1,h2):=h;by_cases e:p.1=k
  .have e':q.1=k:=h1.symm.trans e;have b:valueAt (q::qs) k=some q.2:=by simp[valueAt,List.find?_cons,e']
   rw[gC e,b];exact h2
  .have e':¬ q.1=k:=λz=>e (h1.trans z);have b:valueAt (q::qs) k=valueAt qs k:=by simp[valueAt,List.find?_cons,e']
   rw[eD e,b];exact ih
theorem KV.any{kvs:List (κ×V)}{vs:List (κ×Value)}(r:KV kvs vs)(k:κ):(kvs.any λkv=>decide (kv.1=k))=vs.any λkv=>decide (kv.1=k):=by
 unfold KV at r
 induction r with
 | nil=>rfl
 | cons h t ih=>rw[Zh,Zh,ih,h.1]
theorem KV.K8{kvs:List (κ×V)}{vs:List (κ×Value)}(r:KV kvs vs)(k:κ){y:V}{u:Value}(ry:RelV y u) :
  KV (kvs.map λkv=>if kv.1=k then (kv.1,y) else kv) (vs.map λkv=>if kv.1=k then (kv.1,u) else kv):=by
 unfold KV at r ⊢
 induction r with
 | nil=>exact .nil
 | @cons p q ps qs h t ih =>
  rw[Yp,Yp];refine .cons ?_ ih;let(h1,h2):=h;by_cases e:p.1=k
  .rw[if_pos e,if_pos (h1.symm.trans e)];exact#[h1,ry]
  .rw[if_neg e,if_neg (λz=>e (h1.trans z))];exact#[h1,h2]
theorem KV.put{kvs:List (κ×V)}{vs:List (κ×Value)}(r:KV kvs vs)(k:κ){y:V}{u:Value}(ry:RelV y u):KV (putK kvs k y) (stored vs k u):=by
 unfold putK stored;rw[r.any k];by_cases e:(vs.any λkv=>decide (kv.1=k))=true
 .rw[if_pos e,if_pos e];exact r.K8 k ry
 .rw[if_neg e,if_neg e];exact Paired.snoc r #[U,ry]
theorem KV.length{kvs:List (κ×V)}{vs:List (κ×Value)}(r:KV kvs vs):kvs.length=vs.length:=Paired.length r
end
theorem xa{P:Program}{w:World}{k:Key}{u:Value}(r:RelV (kV k) u):(cp P w).is k u=true:=by
 cases k with
 | inl i=>let(t,e):=(show ∃ t,u=Value.int i t from r);subst e;exact wI P w i t
 | inr x=>let(t,e):=(show ∃ t,u=Value.str x t from r);subst e;exact xm P w x t
theorem ue{P:Program}{w:World}:∀ {ks:List Key} {us:List Value},Vals (ks.map kV) us->ItemsAre (cp P w) ks us
 | [],_,r=>by rw[Y9] at r;cases r;exact .nil
 | k::ks,_,r=>by
  rw[Yp] at r;cases r with
  | cons h t=>exact .cons (xa h) (ue t)
abbrev KT(H:Hp):List (List Key×V)->List (List Key×Addr×Value)->Prop:=Paired λp q=>p.1=q.1/\H q.2.1=some (.tup (p.1.map kV))/\RelV p.2 q.2.2
theorem KT.val{H:Hp}{kvs:List (List Key×V)}{xs:List (List Key×Addr×Value)}(r:KT H kvs xs)(k:List Key):pz (iN kvs k) ((atKey xs k).map (·.2)):=by
 induction r with
 | nil=>exact True.intro
 | @cons p q ps qs h t ih =>
  let(h1,_,h2):=h;by_cases e:p.1=k
  .have e':q.1=k:=h1.symm.trans e;have b:atKey (q::qs) k=some q.2:=by simp[atKey,List.find?_cons,e']
   rw[gC e,b];exact h2
  .have e':¬ q.1=k:=λz=>e (h1.trans z);have b:atKey (q::qs) k=atKey qs k:=by simp[atKey,List.find?_cons,e']
   rw[eD e,b];exact ih
theorem KT.K8{H:Hp}{kvs:List (List Key×V)}{xs:List (List Key×Addr×Value)}(r:KT H kvs xs)(k:List Key){y:V}{u:Value}(ry:RelV y u) :
  KT H (kvs.map λkv=>if kv.1=k then (kv.1,y) else kv) (xs.map (putAt k u)):=by
 induction r with
 | nil=>exact .nil
 | @cons p q ps qs h t ih =>
  rw[Yp,Yp];refine .cons ?_ ih;let(h1,h2,h3):=h;unfold putAt;by_cases e:p.1=k
  .rw[if_pos e,if_pos (h1.symm.trans e)];exact#[h1,h2,ry]
  .rw[if_neg e,if_neg (λz=>e (h1.trans z))];exact#[h1,h2,h3]
theorem KT.put{H:Hp}{kvs:List (List Key×V)}{xs:List (List Key×Addr×Value)}(r:KT H kvs xs)(k:List Key){b:Addr}{y:V}{u:Value}(hb:H b=some (.tup (k.map kV)))(ry:RelV y u) :
  KT H (putK kvs k y) (storedH xs k b u):=by
 have e:(kvs.any λkv=>decide (kv.1=k))=(atKey xs k).isSome:=by
  rw[r8,(r.val k).Bx,Option.isSome_map]
 unfold putK storedH;rw[e];by_cases q:(atKey xs k).isSome=true
 .rw[if_pos q,if_pos q];exact r.K8 k ry
 .rw[if_neg q,if_neg q];exact Paired.snoc r #[U,hb,ry]
theorem KT.keeps{H H':Hp}{kvs:List (List Key×V)}{xs:List (List Key×Addr×Value)}(r:KT H kvs xs)(ht:∀ b ys,H b=some (.tup ys)->H' b=some (.tup ys)):KT H' kvs xs :=
 Paired.EI r λ_ _ z=>#[z.1,ht _ _ z.2.1,z.2.2]
section
variable{P:Program}{w:World}{H:Hp}{h:Heap}{a:Addr}
theorem Iq{u:HO}(ok:lY P w H h)(e:Rd H a u):c8 P w H h a u:=e.ok ok
theorem wG{kvs:List (Key×V)}(ok:lY P w H h)(e:Rd H a (.dK kvs)):kvs.length<=sizeLine/\(a == sysModules)=false/\∃ vs,KV kvs vs/\h.DictOf (cp P w) a vs :=
 show c8 P w H h a (.dK kvs) from Iq ok e
theorem Iu{kvs:List (Key×V)}(ok:lY P w H h)(e:H a=some (.dK kvs)):kvs.length<=sizeLine/\(a == sysModules)=false/\∃ vs,KV kvs vs/\h.DictOf (cp P w) a vs:=wG ok (.inl e)
theorem uM{ks:List Key}(ok:lY P w H h)(e:H a=some (.tup (ks.map kV))):(tupleKind (cp P w)).is h ks a:=by
 let(_,its,r,o,h1,h2,n,h3):=(show c8 P w H h a (.tup (ks.map kV)) from ok a _ e);exact#[o,its.toArray,n,h1,h2,h3,by simpa using ue r]
theorem xE{kvs:List (List Key×V)}(ok:lY P w H h)(e:Rd H a (.dT kvs)):kvs.length<=sizeLine/\(a == sysModules)=false /\
  ∃ xs,KT H kvs xs/\h.DictOfH (tupleKind (cp P w)) a xs:=by
 let(z,y,xs,r,o,es,ep,h1,h2,h3,h4,h5):=(show c8 P w H h a (.dT kvs) from Iq ok e);refine#[z,y,xs,r,o,es,ep,h1,h2,h3,h4,λx hx=>?_,h5];have all:∀ {l:List (List Key×V)} {m:List (List Key×Addr×Value)},KT H l m->∀ x∈m,(tupleKind (cp P w)).is h x.1 x.2.1:=by
  intro l m q
  induction q with
  | nil=>intro x hx;exact nomatch hx
  | @cons p q ps qs hq t ih =>
   intro x hx;rcases Yn.mp hx with e | hx
   .subst e;exact uM ok (by rw[<- hq.1];exact hq.2.1)
   .exact ih x hx
 exact all r x hx
theorem Ql{kvs:List (List Key×V)}(ok:lY P w H h)(e:H a=some (.dT kvs)):kvs.length<=sizeLine/\(a == sysModules)=false /\
  ∃ xs,KT H kvs xs/\h.DictOfH (tupleKind (cp P w)) a xs:=xE ok (.inl e)
end
def jd(H:Hp)(a:Addr)(y:V)(r:Option V):Prop :=
 (∃ kvs k,Rd H a (.dK kvs)/\y=kV k/\r=iN kvs k)\/∃ kvs k b,Rd H a (.dT kvs)/\y=.ref b/\H b=some (.tup (k.map kV))/\r=iN kvs k
def nV(H:Hp)(a:Addr)(y v:V)(H':Hp):Prop :=
 (∃ kvs k,H a=some (.dK kvs)/\y=kV k/\kvs.length < sizeLine/\H'=upd H a (.dK (putK kvs k v))) \/
 ∃ kvs k b,H a=some (.dT kvs)/\y=.ref b/\H b=some (.tup (k.map kV))/\kvs.length < sizeLine/\H'=upd H a (.dT (putK kvs k v))
theorem jd.k{H:Hp}{a:Addr}{kvs:List (Key×V)}{k:Key}(e:H a=some (.dK kvs)):jd H a (kV k) (iN kvs k):=.inl #[kvs,k,.inl e,U,U]
theorem jd.t{H:Hp}{a b:Addr}{kvs:List (List Key×V)}{k:List Key}(e:H a=some (.dT kvs))(eb:H b=some (.tup (k.map kV))):jd H a (.ref b) (iN kvs k):=.inr #[kvs,k,b,.inl e,U,eb,U]
theorem nV.k{H:Hp}{a:Addr}{kvs:List (Key×V)}{k:Key}{v:V}(e:H a=some (.dK kvs))(hl:kvs.length < sizeLine):nV H a (kV k) v (upd H a (.dK (putK kvs k v))):=.inl #[kvs,k,e,U,hl,U]
theorem nV.t{H:Hp}{a b:Addr}{kvs:List (List Key×V)}{k:List Key}{v:V}(e:H a=some (.dT kvs))(eb:H b=some (.tup (k.map kV)))(hl:kvs.length < sizeLine) :
  nV H a (.ref b) v (upd H a (.dT (putK kvs k v))):=.inr #[kvs,k,b,e,U,eb,hl,U]
section
variable{X:Cx}{pins:aau}{O:St}{H:Hp}{s:Shared}{a:Addr}{y v:V}{u r:Value}{o:Option V}{A:Around}{E:aat}
theorem Inv.big(I:Inv X pins O H s):sysModules < ↑s:=by
 have h:mainGlobals < ↑s:=(I.mod.glob.keeps I.bk).lt;exact Nat.lt_trans (by decide) h
theorem Bf{Q:aat}(hu:A.units+1 < cLine)(I:Inv X pins O H s)(g:jd H a y (some v))(ry:RelV y u)(h:∀ w' s',Inv X pins O H s'->RelV v w'->Q w' s') :
  wpAny (model X.prog X.w) A (getItem (.ref a) u) Q E s:=by
 rcases g with ⟨kvs,k,e,ey,l⟩ | ⟨kvs,k,b,e,ey,eb,l⟩
 .subst ey;let(z,hd,vs,rel,dd):=wG I.aN e;let(w',hw,rw'):=pz.some_of (v:=v) (o:=valueAt vs k) (by rw[l];exact rel.val k);exact wpAny_getItem_of (xa ry) dd.mapOf hw (h w' _ (I.tok _) rw')
 .subst ey;cases (show u=Value.ref b from ry);let(z,hd,xs,rel,dd):=xE I.aN e;let(w',hw,rw'):=pz.some_of (v:=v) (o:=(atKey xs k).map (·.2)) (by rw[l];exact rel.val k);let(p,hp,hp2):=YK.mp hw;refine wpAny_getItem_heap (tupleKind_room_in1 hu) (uM I.aN eb) dd hp ?_;rw[hp2];exact h w' _ (I.tok _) rw'
theorem vD{h':Heap}{t':Nat}{ob:HO}(I:Inv X pins O H s)(mu:My (H a))(hs:Heap.SameBut a s.heap h')(he:∃ q,h'.get? a=some q)(new:c8 X.prog X.w (upd H a ob) h' a ob) :
  Inv X pins O (upd H a ob) { s with heap:=h',toks:=t' } :=
 I.write (x:=a) (e:=a) mu (.inl U) (λb q hb z=>(hs.2 b hb).trans z) he new
theorem EN{P:Program}{w:World}{H':Hp}{h':Heap}{kvs:List (Key×V)}{vs:List (Key×Value)}(z:kvs.length<=sizeLine)(hd:(a == sysModules)=false)(rel:KV kvs vs)(dd:h'.DictOf (cp P w) a vs) :
  c8 P w H' h' a (.dK kvs):=#[z,hd,vs,rel,dd]
theorem A5{H':Hp}{Q:Unit->Shared->Prop}(hu:A.units+1 < cLine)(I:Inv X pins O H s)(g:nV H a y v H')(ry:RelV y u)(rv:RelV v r)(h:∀ s',Inv X pins O H' s'->Q () s') :
  wpAny (model X.prog X.w) A (setItem (.ref a) u r) Q E s:=by
 rcases g with ⟨kvs,k,e,ey,l,eH⟩ | ⟨kvs,k,b,e,ey,eb,l,eH⟩
 .subst ey eH;let(z,hd,vs,rel,dd):=Iu I.aN e;have hz:vs.length<=sizeLine:=by rw[<- rel.length];exact z
  have hl:(putK kvs k v).length<=sizeLine:=by have:=jT kvs k v;cbv
  refine wpAny_setItem_pairs (hsz:=hz) (xa ry) dd λh' dd' hs=>h _ ?_;have he:∃ q,h'.get? a=some q:=let #[q,_,_,hq,_]:=dd';#[q,hq];exact vD I (by rw[e];exact True.intro) hs he (EN hl hd (rel.put k rv) dd')
 .subst ey eH;cases (show u=Value.ref b from ry);let(z,hd,xs,rel,dd):=Ql I.aN e;have hz:xs.length<=sizeLine:=by rw[<- Paired.length rel];exact z
  have hl:(putK kvs k v).length<=sizeLine:=by have:=jT kvs k v;cbv
  refine wpAny_setItem_heap (hsz:=hz) (tupleKind_room_in1 hu) (uM I.aN eb) dd λh' dd' hs=>h _ ?_;let(q,es,ep,hq,h2,h3,h4,_,h5):=dd';refine vD I (by rw[e];exact True.intro) hs #[q,hq] #[hl,hd,_,(rel.put k eb rv).keeps λc ys ec=>?_,q,es,ep,hq,h2,h3,h4,h5];rw[aq (Ie ec e (λz=>nomatch z))];exact ec
end
section
variable{X:Cx}{pins:aau}{O:St}{H:Hp}{s:Shared}{a:Addr}{kvs:List (Key×V)}{k:Key}{u:Value}{A:Around}{E:aat}
end
def Ou(i:Expr):Prop:=∀ ov iv,subscripted i false ov iv=operate [ov,iv] (getItem ov iv)
theorem FI{prog:Program}{w:World}{A:Around}{E:aat}{s:Shared}{env:Env}{value slice:Expr}{pos:Pos}{T id:String}{Q:aat}(hl:typeLookup (.type T) "__getitem__"=pure (some (.builtin id)))(hs:Ou slice)(h:wpAny (model prog w) A (eval value env) (λo s₁=>wpAny (model prog w) A (eval slice env) (λi s₂=>s₂.TypeIs o T/\wpAny (model prog w) A (getItem o i) Q E s₂) E s₁) E s) :
  wpAny (model prog w) A (eval (.Subscript value slice pos) env) Q E s:=by
 refine Subscript_ (wpAny_mono h (λo s₁ h₁=>wpAny_mono h₁ (λi s₂ h₂=>?_) λ_ _ x=>x) λ_ _ x=>x);let(hT,h₂):=h₂;unfold subscriptTail;refine wpAny_bind ?_;rw[getitemInPython_of_ne hT.not_modules];refine wpAny_bind (wpAny_specialOf hT hl ?_);have fin:wpAny (model prog w) A (subscripted slice false o i) (λr s₃=>wpAny (model prog w) A (letTemporaryGo value o r >>= λ_=>pure r) Q E s₃) E s₂:=by
  rw[hs o i];exact wpAny_operating (wpAny_mono h₂ (λr s₃ h₃=>wpAny_bind (wpAny_letTemporaryGo (wpAny_pure h₃))) λ_ _ x=>x)
 first
  | exact wpAny_pure (wpAny_bind fin)
  | exact wpAny_bind (wpAny_pure (wpAny_bind fin))
  | exact wpAny_bind fin
theorem wc{X:Cx}{pins:aau}{O:St}{H:Hp}{s:Shared}{a:Addr}{y:V}{o:Option V}(I:Inv X pins O H s)(g:jd H a y o):s.TypeIs (.ref a) "dict":=by
 rcases g with ⟨kvs,k,e,_,_⟩ | ⟨kvs,k,b,e,_,_,_⟩
 .let(_,_,vs,_,dd):=wG I.aN e;exact dd.typeIs
 .let(_,_,xs,_,dd):=xE I.aN e;exact dd.typeIs
def oK(td ty:TE):TE:=λO H Q=>td O H λx H1=>ty O H1 λy H2=>∃ a v,x=.ref a/\jd H2 a y (some v)/\Q v H2
def wm(td ty tv:TE):TS:=λD O H=>tv O H λv H1=>td O H1 λx H2=>ty O H2 λy H3=>∃ a H4,x=.ref a/\nV H3 a y v H4/\D.nx O H4
section
variable{X:Cx}{o i e value:Expr}{pos pos' nh:Pos}{td ty tv:TE}
theorem iI(hu:X.A.units+1 < cLine)(ho:PE X o td)(hi:PE X i ty)(hs:Ou i):PE X (.Subscript o i pos) (oK td ty):=by
 intro pins s O H Q I h;refine FI PySem.F.slot_dict_getitem.lookup hs (b9 (ho pins s O H _ I h) λu s1 zz=>el2 zz λx H1 I1 rx q1=>b9 (hi pins s1 O H1 _ I1 q1) λiv s2 z4q=>?_);let(y,H2,I2,ry,a,v,ex,g,q2):=z4q;subst ex;obtain rfl:u=Value.ref a:=rx;exact#[wc I2 g,Bf hu I2 g ry λw' s3 I3 rw'=>#[v,H2,I3,rw',q2]]
theorem kF(hu:X.A.units+1 < cLine)(ho:PE X o td)(hi:PE X i ty)(hv:PE X value tv)(hs:swapsWith value (some (.Subscript o i pos')) pos.line X.env=pure false) :
  PS X (.Assign [.Subscript o i pos'] value pos) (wm td ty tv):=by
 intro pins s O H D I h;refine wpAny_Assign_Subscript (b9 (hv pins s O H _ I h) λr s1 zz=>el2 zz λv H1 I1 rv q1=>b9 (ho pins s1 O H1 _ I1 q1) λu s2 zz=>el2 zz λx H2 I2 rx q2=>b9 (hi pins s2 O H2 _ I2 q2) λiv s3 #[y,H3,I3,ry,a,H4,ex,g,q3]=>?_) hs;subst ex;obtain rfl:u=Value.ref a:=rx;exact A5 hu I3 g ry rv λs4 I4=>#[O,H4,I4,q3]
end
theorem Cb{P:Program}{w:World}{H:Hp}(h:Heap)(hb:sysModules < h.objs.size):c8 P w H (h.push { cls:=.type "dict",data:=.dict #v[] }) h.objs.size (.dK []) :=
 #[YO _,beq_eq_false_iff_ne.mpr (Ne.symm (YJ hb)),[],.nil,Heap.DictOf.new h]
theorem Eu{P:Program}{w:World}{H:Hp}(h:Heap)(hb:sysModules < h.objs.size):c8 P w H (h.push { cls:=.type "dict",data:=.dict #v[] }) h.objs.size (.dT []) :=
 #[YO _,beq_eq_false_iff_ne.mpr (Ne.symm (YJ hb)),[],.nil,_,#v[],0,YD _ U,#[U,U,U],U,U,List.nodup_nil]
def Km:TE:=λ_ H Q=>∀ p,H p=none->Q (.ref p) (upd H p (.dT []))
section
variable{X:Cx}{pos:Pos}
theorem Ec:PE X (.Dict [] [] pos) Km:=λpins s O H Q I h =>
 wpAny_Dict_empty #[.ref ↑s,_,I.laid (a:=↑s) (o:=.dT []) (t':=s.toks) (λ_ _ q=>Yq _ q) (Ys _) (Eu s.heap I.big),U,h _ (I.aN.fresh (Ys _))]
end
def y6:List (TE×TE)->St->Hp->(List (V×V)->Hp->Prop)->Prop
 | [],_,H,Q=>Q [] H
 | (tk,tv)::r,O,H,Q=>tk O H λx H1=>tv O H1 λy H2=>y6 r O H2 λps H3=>Q ((x,y)::ps) H3
abbrev VV:List (V×V)->List (Value×Value)->Prop:=Paired λp q=>RelV p.1 q.1/\RelV p.2 q.2
def QB(X:Cx)(pos:Pos)(keys:List (Option Expr))(values:List Expr)(Fz:List (TE×TE)):Prop :=
 ∀ (pins:aau) (s:Shared) (O:St) (H:Hp) (Q:List (V×V)->Hp->Prop),Inv X pins O H s->y6 Fz O H Q ->
  wpAny (model X.prog X.w) X.A (evalPairs (pairTrees keys values X.env pos)) (λvs s'=>∃ ps H',Inv X pins O H' s'/\VV ps vs/\Q ps H') X.xe s
theorem Fn{X:Cx}{pos:Pos}:QB X pos [] [] []:=λpins s O H Q I h=>pairTrees_nil_walk #[[],H,I,.nil,h]
theorem qB{X:Cx}{pos:Pos}{k v:Expr}{ks:List (Option Expr)}{vs:List Expr}{tk tv:TE}{Fz:List (TE×TE)}(hk:PE X k tk)(hv:PE X v tv)(hr:QB X pos ks vs Fz) :
  QB X pos (some k::ks) (v::vs) ((tk,tv)::Fz):=λpins s O H Q I h =>
 pairTrees_cons_walk (b9 (hk pins s O H _ I h) λu s1 zz=>el2 zz λx H1 I1 rx q1=>b9 (hv pins s1 O H1 _ I1 q1) λw2 s2 zz=>el2 zz λy H2 I2 ry q2 =>
  b9 (hr pins s2 O H2 _ I2 q2) λws s3 zz=>el2 zz λps H3 I3 rel q3=>#[(x,y)::ps,H3,I3,.cons #[rx,ry] rel,q3])
def lA(kvs more:List (Key×V)):List (Key×V):=more.foldl (λacc kv=>putK acc kv.1 kv.2) kvs
theorem KV.merge:∀ {more:List (Key×V)} {rs:List (Key×Value)} {kvs:List (Key×V)} {vs:List (Key×Value)},KV more rs->KV kvs vs->KV (lA kvs more) (merged vs rs):=by
 intro more rs kvs vs r;unfold KV at r
 induction r generalizing kvs vs with
 | nil=>intro q;exact q
 | @cons p q ps qs h t ih =>
  intro r0;have e:KV (putK kvs p.1 p.2) (stored vs q.1 q.2):=by
   have:=r0.put p.1 h.2;rw[<- h.1];exact this
  exact ih e
theorem kZ:∀ (more kvs:List (Key×V)),(lA kvs more).length<=kvs.length+more.length
 | [],kvs=>by show kvs.length<=kvs.length+0;cbv
 | p::r,kvs=>by
  have h1:=kZ r (putK kvs p.1 p.2);have h2:=jT kvs p.1 p.2;show (lA (putK kvs p.1 p.2) r).length<=_;rw[Yv];cbv
theorem rZ{P:Program}{w:World}:∀ {kvs:List (Key×V)} {ws:List (Value×Value)},VV (kvs.map λkv=>(kV kv.1,kv.2)) ws->∃ rs,Carries (cp P w) ws rs/\KV kvs rs
 | [],_,r=>by rw[Y9] at r;cases r;exact#[[],True.intro,.nil]
 | p::kvs,_,r=>by
  rw[Yp] at r;cases r with
  | @cons a b as bs h t =>
   let(rs,c,q):=rZ (P:=P) (w:=w) t;let(b1,b2):=b;exact#[(p.1,b2)::rs,#[xa h.1,U,c],.cons #[U,h.2] q]
def Hy(Fz:List (TE×TE)):TE:=λO H Q=>∀ p,H p=none->y6 Fz O (upd H p (.dK [])) λps H2=>H2 p=some (.dK [])/\∃ kvs:List (Key×V),ps=kvs.map (λkv=>(kV kv.1,kv.2))/\kvs.length<=15/\Q (.ref p) (upd H2 p (.dK (lA [] kvs)))
theorem Hs{X:Cx}{pos:Pos}{keys:List (Option Expr)}{values:List Expr}{Fz:List (TE×TE)}(h:QB X pos keys values Fz)(JO:keys.all (·.isSome)=true)(hl:keys.length=values.length)(h0:keys≠[])(Xw:keys.length<=15):PE X (.Dict keys values pos) (Hy Fz):=by
 intro pins s O H Q I q;have hn:=I.aN.fresh (Ys ↑s);have I1:=I.laid (a:=↑s) (o:=.dK []) (h':=s.heap.push { cls:=.type "dict",data:=.dict #v[] }) (t':=s.toks) (λ_ _ q=>Yq _ q) (Ys _) (Cb s.heap I.big);refine wpAny_Dict_walk (knd:=cp X.prog X.w) JO hl h0 Xw (b9 (h pins _ O _ _ I1 (q _ hn)) λws s2 z6q=>?_);let(ps,H2,I2,rel,e,kvs,ep,lk,q2):=z6q;subst ep;let(rs,c,rk):=rZ (P:=X.prog) (w:=X.w) rel;let(z,hd,vs0,r0,dd):=Iu I2.aN e;cases r0;refine#[rs,c,dd,λh' dd' hs=>#[.ref ↑s,_,?_,U,q2]];have hz:(lA [] kvs).length<=sizeLine:=by
  have h1:=kZ kvs [];rw[ZX] at h1;rw[sizeLine_eq];cbv
 have he:∃ q,h'.get? ↑s=some q:=let #[q,_,_,hq,_]:=dd';#[q,hq];exact vD I2 (by rw[e];exact True.intro) hs he (EN hz hd (rk.merge .nil) dd')
structure M2(X:Cx)(o:Expr)(m:Str)(apos:Pos)(e f:Expr)(cB:Pos):Prop where
 base:attributeBase o m X.env (eval o X.env)=eval o X.env
 Ff:((backTo cB (starEach [e,f] X.env)).all (λx=>!x.1)&&(backToKw cB (keywordEach [] X.env)).all (λx=>x.1.isSome)
  && decide (([e,f]:List Expr).length+([]:List Keyword).length+(if ([]:List Keyword).isEmpty then 0 else 1) < 30))=true
 line:(apos.endLine == cB.line)=true
 trees:backTo cB (starEach [e,f] X.env)=[(false,eval e X.env),(false,eval f X.env)]
def Sw(H:Hp)(a:Addr):Prop:=(∃ kvs,Rd H a (.dK kvs))\/∃ kvs,Rd H a (.dT kvs)
theorem JX{X:Cx}{pins:aau}{O:St}{H:Hp}{s:Shared}{a:Addr}(I:Inv X pins O H s)(d:Sw H a) :
  s.TypeIs (.ref a) "dict"/\(∀ b,Value.ref a=.ref b->∃ ob,s.heap.get? b=some ob/\ob.dict=none)/\(a == sysModules)=false:=by
 rcases d with ⟨kvs,e⟩ | ⟨kvs,e⟩
 .let(_,hd,vs,_,dd):=wG I.aN e;refine#[dd.typeIs,λb q=>?_,hd];cases q;let(ob,_,_,h1,h2,_):=dd;exact#[ob,h1,h2.2.1]
 .let(_,hd,xs,_,dd):=xE I.aN e;refine#[dd.typeIs,λb q=>?_,hd];cases q;let(ob,_,_,h1,h2,_):=dd;exact#[ob,h1,h2.2.1]
section
variable{X:Cx}{pins:aau}{O:St}{H:Hp}{s:Shared}{a:Addr}{y d:V}{u r:Value}{o:Option V}{A:Around}{E:aat}
theorem KA{Q:aat}(hu:A.units+1 < cLine)(I:Inv X pins O H s)(g:jd H a y o)(ry:RelV y u)(rd:RelV d r)(h:∀ w' s',Inv X pins O H s'->RelV (o.getD d) w'->Q w' s') :
  wpAny (model X.prog X.w) A (call (.builtin "dict.get") [.ref a,u,r]) Q E s:=by
 rcases g with ⟨kvs,k,e,ey,l⟩ | ⟨kvs,k,b,e,ey,eb,l⟩
 .subst ey;let(z,hd,vs,rel,dd):=wG I.aN e;refine call_meetsIn aam dd.typeIs PySem.F.entry_dict_get (PySem.F.args_dict_get_3 _ _ _) (meets_dict_get_default (cp X.prog X.w) a (xa ry) hd r) #[_,dd.mapOf,h _ _ (I.tok _) ?_];rw[l];exact (rel.val k).getD rd
 .subst ey;cases (show u=Value.ref b from ry);let(z,hd,xs,rel,dd):=xE I.aN e;refine call_meetsIn aam dd.typeIs PySem.F.entry_dict_get (PySem.F.args_dict_get_3 _ _ _) (meetsH_dict_get_default (tupleKind (cp X.prog X.w)) a b hd r) #[tupleKind_room_in1 hu,k,xs,uM I.aN eb,dd,h _ _ (I.tok _) ?_];rw[l];exact (rel.val k).getD rd
end
def yb(td ty tx:TE):TE:=λO H Q=>td O H λx H1=>∃ a,x=.ref a/\Sw H1 a/\ty O H1 λy H2=>tx O H2 λz H3=>∃ o,jd H3 a y o/\Q (o.getD z) H3
section
variable{X:Cx}{o e f:Expr}{apos cB:Pos}{td ty tx:TE}
theorem wL(hu:X.A.units+1 < cLine)(ho:PE X o td)(he:PE X e ty)(hf:PE X f tx)(m:M2 X o "get" apos e f cB):PE X (.Call (.Attribute o "get" apos) [e,f] [] cB) (yb td ty tx):=by
 intro pins s O H Q I h;refine wpAny_Call_method m.base m.Ff m.line PySem.F.plainAttrs_dict aam PySem.F.type_dict_get (b9 (ho pins s O H _ I h) λu s1 #[x,H1,I1,rx,a,ex,d,q1]=>?_);subst ex;obtain rfl:u=Value.ref a:=rx;let(t1,t2,_):=JX I1 d;refine#[t1,t2,?_];rw[m.trees];refine Calls.callWith_builtin U (Calls.evalArgs_plain (Calls.spliced_cons (b9 (he pins s1 O H1 _ I1 q1) λiv s2 zz=>el2 zz λy H2 I2 ry q2 =>
  Calls.spliced_cons (b9 (hf pins s2 O H2 _ I2 q2) λfv s3 #[z,H3,I3,rz,ov,g,q3]=>Calls.spliced_nil ?_))))
 exact KA hu I3 g ry rz λw' s4 I4 rw'=>#[_,H3,I4,rw',q3]
end
section
variable{X:Cx}{pins:aau}{O:St}{H:Hp}{s:Shared}{a:Addr}{kvs:List (Key×V)}{A:Around}{E:aat}
end
section
variable{X:Cx}{pins:aau}{O:St}{H:Hp}{s:Shared}{a:Addr}{y:V}{u:Value}{A:Around}{E:aat}
end
end L2
namespace WB
open PySem PySem.W PySem.Calls PyProof.Rows
theorem pE{P:Params}{h:Heap}:∀ (ns:List Int) (vs:List Value),WellAll P h vs (ns.map WData.int)->IntsAre vs ns:=by
 intro ns
 induction ns with
 | nil =>
  intro vs w;rw[Y9] at w;cases w;exact .nil
 | cons n ns ih =>
  intro vs w;rw[Yp] at w;cases w with
  | cons a b =>
   cases a;exact .cons _ _ (ih _ b)
theorem Bp{l:OpenLaw}{n:Nat}(hn:l.most=some n){P:Params}{h:Heap}{args:List WData}{vals:List Value}(Bu:l.row.toRowW.claim.pre args=true)(nk:WellAll P h vals args) :
  ∃ a vs ns,vals=[Value.ref a]/\args=[WData.list (ns.map WData.int)]/\h.get? a=some { cls:=.type "list",data:=.seq vs.toArray }/\IntsAre vs ns/\ns.length<=n:=by
 have hsh:WShape.hasAll [] args [.list .int]=true:=(pre_splitW Bu).1;have hc:l.pre.holds [] { args:=args }=true:=(pre_splitW Bu).2;let(d,r,rfl,h1,h2):=hasAllW_cons hsh;obtain rfl:=hasAllW_nil h2;let(xs,rfl,h3):=hasW_list h1;let(ns,rfl):=items_int h3;have hlen:ns.length<=n:=by
  unfold OpenLaw.pre at hc;have h4:(WTm.not (.lt (.lit (.int (n:Int))) (.len (.arg 0)))).holds [] { args:=[.list (ns.map .int)] }=true:=by
   have h4:=(holds_andW hc).1;rw[hn] at h4;exact h4
  have h5:=condW_of h4 (w_not (w_lt w_lit (w_len_list (w_arg U))));rw[Yk] at h5;refine Nat.le_of_not_lt λq=>?_;have q':(n:Int) < ((ns.length:Nat):Int):=by cbv
  first
   | (rw[decide_eq_true q'] at h5;exact absurd h5 (by decide))
   | (simp at h5;cbv)
 cases nk with
 | cons w1 w2 =>
  cases w2;cases w1 with
  | list ho JO=>exact#[_,_,ns,U,U,ho,pE ns _ JO,hlen]
theorem Bs(l:OpenLaw)(args:List WData):l.row.toRowW.claim.post args (.bool true) args=true :=
 postW_of (r:=l.row.toRowW) (X:=(true == true))
  (show WShape.has [] (.bool true) .bool=true by first | rfl | decide | simp[WShape.has,WShape.arms,WShape.armsAll])
  (show (WTm.eq .res (.lit (.bool true))).value [] { args:=args,res:=some (.bool true),after:=args }=some (.bool (true == true)) from w_eq_bool (w_res U) w_lit) U
theorem xG{l:OpenLaw}{n:Nat}{q:Program}{loose:List Str}{XP:(Str->Option Value)->Heap->Prop}{YP:World->Heap->Prop}{d:DefRec}(hn:l.most=some n)(NO:d.params.defaults=[])(call:∀ (w:World) (s₀ s₁:Shared) (mg mb:Str->Option Value) (fa:Addr) (o:Obj) (pm cd doc:Value) (a:Addr) (vs:List Value) (ns:List Int),
   Ground q loose [] XP w s₀ mg mb s₁.heap->YP w s₁.heap ->
   s₁.heap.get? fa=some o->o.data=.func (docDef d.name d.params d.body d.scope pm cd doc)->s₁.heap.CodeRec cd d.name->mg d.name=some (.ref fa) ->
   s₁.heap.get? a=some { cls:=.type "list",data:=.seq vs.toArray }->IntsAre vs ns->ns.length<=n->s₁.gens=#v[] ->
   codeAny (model l.prog w) callerA (.call (.ref fa) #[[.ref a],[]]) (λr s'=>r=.ok (.ret (.bool true))/\OldK s₁.heap s'.heap/\s'.os=s₁.os/\AllBare s'.gens) s₁) :
  WalkO q loose XP YP l.row.toRowW d [] (λf vs=>PySem.call f vs):=by
 intro w s₀ s₁ mg mb G Y fa o pm cd doc dV kV ho hd qT hD hmg hg args vals as Bu hlay hrd nk QK;obtain rfl:dV=.none:=Dflts.none hD NO;obtain rfl:kV=.none:=Dflts.noKw hD;let(a,vs,ns,rfl,rfl,hobj,hints,hlen):=Bp hn Bu nk;refine enter_call (codeAny_mono (call w s₀ s₁ mg mb fa o pm cd doc a vs ns G Y ho (fd_plain hd) qT hmg hobj hints hlen hg) λr s' hq=>?_);let(rfl,h2,h3,h4):=hq;exact#[.inl #[.bool true,.bool true,[],U,λ_=>rfl,.bool true,Bs l _,λ_=>#[List.Pairwise.nil,λ_ hm=>(nomatch hm)]],h2,h3,h4]
section
variable{prog:Program}{w:World}{A:Around}{E:aat}{s:Shared}{K:Frag}
end
end WB
namespace L2
open PySem PySem.Spec PyProof.Rows
theorem uw:∀ {vs:List Value} {ns:List Int},IntsAre vs ns->Vals (ns.map V.int) vs
 | _,_,.nil=>.nil
 | _,_,.cons n t h=>.cons #[t,U] (uw h)
def J4(H:Hp):Prop:=∀ b,H b=none\/∃ o xs,H b=some (.iX o (.lst xs))
theorem CT{P:Program}{w:World}{K:Frag}{mg mb:Str->Option Value}{CX:xW}{k:Nat}{fa a:Addr}{fd:FuncData}{x:Str}{sp:Sp}{s₁:Shared}{vs:List Value}{ns:List Int}(KX:K.In s₁.heap)(Cd:s₁.heap.Ns mainGlobals mg)(hb:s₁.heap.Ns builtinsNs mb)(Xo:∀ x:Str,x≠"__name__"->mb x=bootBuiltins x)(TN:s₁.heap.NoLimit)(hg:s₁.gens=#v[])(ha:s₁.heap.get? a=some { cls:=.type "list",data:=.seq vs.toArray })(hi:IntsAre vs ns)(hl:ns.length<=sizeLine)(hr:cU k callerA)(F:∀ base:Heap,K.In base->base.Ns mainGlobals mg->bV P w K mg base CX k fa fd [x] sp)(Pm:∀ (s:Shared) (u:Value),BindsTo s fd #[[u],[]] [(x,u)])(BG:∀ H:Hp,J4 H->cn K H a (ns.map V.int)->sp [.ref a] H (λv _=>v=.bl true) λ_ _ _=>False)(UK:∀ H e s',CX [] H s₁ (λ_ _ _=>False) e s'->False) :
  codeAny (model P w) callerA (.call (.ref fa) #[[.ref a],[]]) (λr s'=>r=.ok (.ret (.bool true))/\OldK s₁.heap s'.heap/\s'.os=s₁.os/\AllBare s'.gens) s₁:=by
 have rv:=uw hi;have lenV:=hi.length
 -- from an abstract heap in which nothing but the script may be tracked
 have core:∀ H:Hp,J4 H->cn K H a (ns.map V.int)->lY P w H s₁.heap->(∀ b,H b≠none->b=a)->(H a≠none->K.lookup a=none) ->
   codeAny (model P w) callerA (.call (.ref fa) #[[.ref a],[]]) (λr s'=>r=.ok (.ret (.bool true))/\OldK s₁.heap s'.heap/\s'.os=s₁.os/\AllBare s'.gens) s₁:=by
  intro H hO hS aN hA hK;have base_of:∀ {b:Addr} {o:Obj},s₁.heap.get? b=some o->H b=none->(vH s₁.heap H).get? b=some o:=λe n=>Dx e n;have noA:∀ {b:Addr} {o:Obj} {es:Array DictEntry} {ep:Nat},s₁.heap.get? b=some o->o.data=.dict es ep->H b=none:=λ{b o es ep} e d=>by
   cases q:H b with
   | none=>rfl
   | some u =>
    have e':b=a:=hA b (by rw[q];simp);subst e';rw[ha] at e;cases e;have d':Data.seq vs.toArray _=Data.dict es ep:=d;cases d'
  have nsK:∀ {b:Addr} {m:Str->Option Value},s₁.heap.Ns b m->(vH s₁.heap H).Ns b m:=λ{b m} #[o,es,ep,e,d,r]=>#[o,es,ep,base_of e (noA e d),d,r];have hKb:K.In (vH s₁.heap H):=λb o e=>base_of (KX b o e) (by
   cases q:H b with
   | none=>rfl
   | some u =>
    have e':b=a:=hA b (by rw[q];simp);subst e';rw[hK (by rw[q];simp)] at e;cases e)
  have hM:Mod K mg (vH s₁.heap H):=#[hKb,nsK Cd,#[mb,nsK hb,Xo],let #[mc,h1,h2]:=TN;#[mc,nsK h1,h2]];have e0:G7 P w K mg (vH s₁.heap H) callerA [] s₁ H:=#[U,hM,λb o e=>Gu e,Nat.le_of_eq (AY _ _),trivial,λb hb=>absurd (show b∈([]:List Addr) from hb) (by simp),aN,.of_eq hg];refine codeAny_mono ((F _ hKb (nsK Cd)).run callerA [] s₁ H #[[.ref a],[]] [.ref a] [.ref a] _ _ hr e0 (Pm s₁ (.ref a)) (.cons U .nil) (BG H hO hS)) λr s' h=>?_;cases r with
  | error e=>exact (UK H e s' h).elim
  | ok fl =>
   cases fl with
   | next=>exact False.elim h
   | brk=>exact False.elim h
   | cont=>exact False.elim h
   | ret u =>
    let(v,H',os,bare,un,hok',r',q):=h;have q':v=.bl true:=q;subst q';obtain rfl:u=Value.bool true:=r';refine#[U,OldK.of_keep λb o e=>?_,os,bare];cases q:H b with
    | none=>exact un.keep b o e q (by intro z;exact absurd (show b∈([]:List Addr) from z) (by simp)) (by simp)
    | some u =>
     rcases hO b with z | ⟨ob,xs,z⟩
     .rw[q] at z;cases z
     .have z2:=un.uP b ob _ z;let(e1,_):=aN b _ z;let(e2,_):=hok' b _ z2;rw[e] at e1;cases e1;exact e2
 cases hk:K.lookup a with
 | some o =>
  -- the script is one of the module's own objects
  have e:=KX a o hk;rw[ha] at e;cases e;refine core (λ_=>none) (λ_=>.inl U) (.inr #[_,vs.toArray,_,hk,U,U,U,by rw[List.size_toArray,lenV];exact hl,by simpa using rv]) (λb u z=>by have z':(none:Option HO)=some u:=z;cases z') (λb z=>absurd U z) λz=>absurd U z
 | none =>
  refine core (λb=>if b=a then some (.iX { cls:=.type "list",data:=.seq vs.toArray } (.lst (ns.map V.int))) else none) (λb=>?_) (.inl (.inr #[{ cls:=.type "list",data:=.seq vs.toArray },if_pos U])) (λb u z=>?_) (λb z=>?_) λ_=>hk
  .by_cases hb:b=a
   .exact .inr #[_,_,if_pos hb]
   .exact .inl (if_neg hb)
  .by_cases hb:b=a
   .have z':=(if_pos hb).symm.trans z;cases z';subst hb;exact#[ha,by rw[Yk];exact hl,vs,_,rv,ha]
   .have z':=(if_neg hb).symm.trans z;cases z'
  .by_cases hb:b=a
   .exact hb
   .exact absurd (if_neg hb) z
theorem FY{l:PySem.W.OpenLaw}{n k:Nat}{q:Program}{loose:List Str}{XP:(Str->Option Value)->Heap->Prop}{YP:World->Heap->Prop}{d:DefRec}{K:Params->Frag}{CX:World->xW}{sp:World->Sp}{x:Str}(hn:l.most=some n)(QS:n<=sizeLine)(NO:d.params.defaults=[])(hr:cU k callerA)(hY:∀ (w:World) (h:Heap),YP w h->(K w.params).In h)(F:∀ (w:World) (mg:Str->Option Value) (fa:Addr) (h:Heap),(K w.params).In h->h.Ns mainGlobals mg->mg d.name=some (.ref fa) ->
   ∃ fd:FuncData,(∀ (s:Shared) (u:Value),BindsTo s fd #[[u],[]] [(x,u)]) /\
    ∀ base:Heap,(K w.params).In base->base.Ns mainGlobals mg->bV l.prog w (K w.params) mg base (CX w) k fa fd [x] (sp w))(BG:∀ (w:World) (H:Hp) (a:Addr) (ns:List Int),ns.length<=n->J4 H->cn (K w.params) H a (ns.map V.int)->sp w [.ref a] H (λv _=>v=.bl true) λ_ _ _=>False)(UK:∀ (w:World) (H:Hp) (s:Shared) (e:Value) (s':Shared),CX w [] H s (λ_ _ _=>False) e s'->False) :
  PySem.W.WalkO q loose XP YP l.row.toRowW d [] (λf vs=>PySem.call f vs):=by
 refine WB.xG hn NO λw s₀ s₁ mg mb fa o pm cd doc a vs ns G Y ho hd qT hmg hobj hints hlen hg=>?_;have KX:=hY w _ Y;let(fd,hb,hF):=F w mg fa _ KX G.T.g hmg;exact CT KX G.T.g G.T.b G.T.builtins G.T.nolimit hg hobj hints (Yw hlen QS) hr hF hb (λH hO hS=>BG w H a ns hlen hO hS) λH e s'=>UK w H s₁ e s'
def cD(s:Stmt):Arguments:=match s with
 | .FunctionDef _ a _ _ _ _ _ _ _ _=>a
 | _=>{ posonlyargs:=[],args:=[],vararg:=none,kwonlyargs:=[],kw_defaults:=[],kwarg:=none,defaults:=[] }
def aS(s:Stmt):List Stmt:=match s with
 | .FunctionDef _ _ b _ _ _ _ _ _ _=>b
 | _=>[]
def ag(s:Stmt):Scope:=match s with
 | .FunctionDef _ _ _ _ _ _ sc _ _ _=>sc
 | _=>{ kind:=.function,names:=[],isGenerator:=false,isCoroutine:=false }
abbrev aD:xW:=λ_ _ _ _ _ _=>False
abbrev E0:XK:=λ_ _ _=>False
theorem fW{X:Cx}:Passes aD X E0:=λ_ _ _ _ _ _ _ h=>h.elim
structure vk(K:Frag)(x qual:Str)(st:Stmt)(f:Addr)(fd:FuncData):Prop where
 ex:∃ (oc:Value) (od:Option Addr) (kV doc pm:Value) (an:Option Addr) (a9 ct:Value) (xU:Array (Option Value)),
  fd=fnOf x qual (cD st) (aS st) (ag st) .none kV doc pm an a9 ct/\K.lookup f=some #[oc,od,.func fd,xU]/\codeIn K a9 qual=true
 kp:keepIn K (.ref f)=true
section
variable{P:Program}{w:World}{K:Frag}{mg:Str->Option Value}{base:Heap}
theorem vk.ok{x qual:Str}{st:Stmt}{f:Addr}{fd:FuncData}{N ps:List Str}{k:Nat}{sp:Sp}(F:vk K x qual st f fd)(S:ao N ps (ag st))(len:∀ vs H Q E,sp vs H Q E->vs.length=ps.length)(xc:∀ (a9:Value) (A:Around) (outer:List Env) (s:Shared) (H:Hp) (vs:List V) (Q:VK) (E:XK),cU k (A.deeper (envOfC qual (ag st) ↑s f a9))->sp vs H Q E ->
   ∃ t,rg (m9 aD P w K mg base N qual (ag st) f a9 A outer s H E).Ai (aS st) t/\t { nx:=λ_ H'=>Q .cw H',rt:=Q } (start N vs) H):bV P w K mg base aD (k+1) f fd ps sp:=by
 let(oc,od,kV,doc,pm,an,a9,ct,xU,rfl,lk,qT):=F.ex;refine HZ lk qT S len λA outer s H vs Q E hr BG=>?_;let(t,h,q):=xc a9 A outer s H vs Q E hr BG;exact#[t,h.Ai,q]
theorem vk.binds{x qual:Str}{st:Stmt}{f:Addr}{fd:FuncData}{ps:List Str}(F:vk K x qual st f fd)(h:∀ (kV doc pm:Value) (an:Option Addr) (a9 ct:Value) (us:List Value),us.length=ps.length->bindArgs (fnOf x qual (cD st) (aS st) (ag st) .none kV doc pm an a9 ct) #[us,[]]=pure (ps.zip us)):Binds K fd ps []:=by
 let(oc,od,kV,doc,pm,an,a9,ct,xU,rfl,lk,qT):=F.ex;exact .all (h kV doc pm an a9 ct)
theorem yJ{x qual:Str}{st:Stmt}{f:Addr}{oc:Value}{od an:Option Addr}{xU:Array (Option Value)}{kV doc pm a9 ct:Value}(l:K.lookup f=some #[oc,od,.func (fnOf x qual (cD st) (aS st) (ag st) .none kV doc pm an a9 ct),xU])(c:codeIn K a9 qual=true)(k:keepIn K (.ref f)=true):vk K x qual st f (fnOf x qual (cD st) (aS st) (ag st) .none kV doc pm an a9 ct):=#[#[oc,od,kV,doc,pm,an,a9,ct,xU,U,l,c],k]
end
theorem sY{A:Around}{k:Nat}(hr:cU k A):A.units+1 < cLine:=Nat.lt_of_le_of_lt (Nat.add_le_add_left (by decide:1<=64) _) hr.units
section
variable{X:Cx}
theorem pv(i:Nat){x:Str}{pos:Pos}(hN:X.N[i]?=some x:=by rfl)(hv:LB X.env.scope x:=by first | exact Or.inl U | exact Or.inr (Or.inl U) | exact Or.inr (Or.inr U))(hd:aay x:=by decide)(qT:(x == ("__classdict__":Str))=false:=by decide):PE X (.Name x pos) (bz i):=yN hN hv hd qT
end
theorem sJ{A B:Prop}(h:B):if false=true then A else B:=by
 rw[if_neg Yy];exact h
theorem mF{A B:Prop}(h:A):if true=true then A else B:=by
 rw[if_pos U];exact h
theorem m4{c A B:Prop}[Decidable c](h1:c->A)(h2:¬ c->B):if c then A else B:=by
 by_cases h:c
 .rw[if_pos h];exact h1 h
 .rw[if_neg h];exact h2 h
def dS(H H':Hp):Prop:=∀ b o,H b=some o->H' b=some o
theorem dS.refl(H:Hp):dS H H:=λ_ _ h=>h
theorem dS.trans{H H1 H2:Hp}(a:dS H H1)(b:dS H1 H2):dS H H2:=λc o h=>b c o (a c o h)
theorem dS.free{H H':Hp}(e:dS H H'){l:Addr}(h:H' l=Option.none):H l=Option.none:=by
 cases q:H l with
 | none=>rfl
 | some o =>
  rw[e l o q] at h;cases h
theorem dS.seq{K:Frag}{H H':Hp}{a:Addr}{xs:List V}(e:dS H H')(h:cn K H a xs):cn K H' a xs:=by
 rcases h with (h | ⟨o,h⟩) | h
 .exact .inl (.inl (e _ _ h))
 .exact .inl (.inr #[o,e _ _ h])
 .exact .inr h
section
variable{X:Cx}
end
section
variable{κ:Type}[DecidableEq κ]
end
def gG(env:Env):List (Str×NameKind)->List (Str×Addr)->List (Str×Addr)
 | [],acc=>acc
 | (n,k)::r,acc=>if k == .free then gG env r ((n,(env.cells.lookup n).getD 0)::acc) else gG env r acc
def nz(env:Env)(x:Str×NameKind)(cs:List (Str×Addr)):Sem (ForInStep (List (Str×Addr))) :=
 if x.2 == .free then do
  let a <- cellOf env x.1
  pure (ForInStep.yield ((x.1,a)::cs))
 else pure (ForInStep.yield cs)
theorem oS{env:Env}:∀ (l:List (Str×NameKind)) (acc:List (Str×Addr)),(∀ x∈l,x.2=.free->(env.cells.lookup x.1).isSome=true) ->
  (forIn l acc (nz env):Sem (List (Str×Addr)))=pure (gG env l acc)
 | [],acc,_=>rfl
 | (n,k)::r,acc,h=>by
  have ih:=λacc'=>oS (env:=env) r acc' λx hx=>h x (Yo _ hx);rw[List.forIn_cons];by_cases hk:k=.free
  .subst hk;let(c,hc):=Zm.mp (h (n,.free) Ym U);have e:cellOf env n=pure c:=by
    unfold cellOf;rw[hc]
   have e2:nz env (n,NameKind.free) acc=pure (ForInStep.yield ((n,c)::acc)):=by
    show (if (NameKind.free == NameKind.free)=true then (cellOf env n >>= λa=>pure (ForInStep.yield ((n,a)::acc))) else pure (ForInStep.yield acc))=_;rw[if_pos (by decide),e]
    rfl
   have e3:gG env ((n,NameKind.free)::r) acc=gG env r ((n,c)::acc):=by
    show (if (NameKind.free == NameKind.free)=true then gG env r ((n,(env.cells.lookup n).getD 0)::acc) else gG env r acc)=_;rw[if_pos (by decide),hc]
    rfl
   rw[e2,e3,<- ih]
   rfl
  .have hb:(k == NameKind.free)=false:=by simpa using hk
   have e2:nz env (n,k) acc=pure (ForInStep.yield acc):=by
    show (if (k == NameKind.free)=true then (cellOf env n >>= λa=>pure (ForInStep.yield ((n,a)::acc))) else pure (ForInStep.yield acc))=_;rw[if_neg (by simp[hb])]
   have e3:gG env ((n,k)::r) acc=gG env r acc:=by
    show (if (k == NameKind.free)=true then gG env r ((n,(env.cells.lookup n).getD 0)::acc) else gG env r acc)=_;rw[if_neg (by simp[hb])]
   rw[e2,e3,<- ih]
   rfl
theorem lh{scope:Scope}{env:Env}(h:∀ x∈scope.names,x.2=.free->(env.cells.lookup x.1).isSome=true):closureFor scope env=pure (gG env scope.names []):=by
 rw[<- oS scope.names [] h];unfold closureFor;have:(λ(x:Str×NameKind) (r:List (Str×Addr))=>nz env x r)=nz env:=rfl
 first
  | (simp only[nz];rfl)
  | (show (forIn scope.names [] _ >>= λr=>pure r)=_;rw[bind_pure];rfl)
  | rfl
theorem jj{env:Env}{x:Str}{c:Addr}:∀ {l:List (Str×NameKind)} {acc:List (Str×Addr)},(∀ y∈l,y.2=.free->(env.cells.lookup y.1).isSome=true) ->
  (gG env l acc).lookup x=some c->env.cells.lookup x=some c\/acc.lookup x=some c
 | [],acc,_,h=>.inr h
 | (n,k)::r,acc,hl,h=>by
  have hl':=λy hy=>hl y (Yo _ hy);unfold gG at h;by_cases hk:k=.free
  .subst hk;rw[if_pos (by decide)] at h;let(d,hd):=Zm.mp (hl (n,.free) Ym U);rw[hd] at h;rcases jj hl' h with q | q
   .exact .inl q
   .rw[Zo] at q;cases e:x == n with
    | true =>
     rw[e] at q;have e':x=n:=eq_of_beq e;subst e';left;rw[hd];exact q
    | false =>
     rw[e] at q;exact .inr q
  .rw[if_neg (by simpa using hk)] at h;exact jj hl' h
theorem su{env:Env}{x:Str}:∀ {l:List (Str×NameKind)} {acc:List (Str×Addr)},(acc.lookup x).isSome=true->((gG env l acc).lookup x).isSome=true
 | [],acc,h=>h
 | (n,k)::r,acc,h=>by
  unfold gG;split
  .refine su ?_;rw[Zo];cases e:x == n with
   | true=>rfl
   | false=>exact h
  .exact su h
theorem qL{env:Env}{x:Str}:∀ {l:List (Str×NameKind)} {acc:List (Str×Addr)},(x,NameKind.free)∈l->((gG env l acc).lookup x).isSome=true
 | (n,k)::r,acc,h=>by
  unfold gG;rcases Yn.mp h with e | h'
  .cases e;rw[if_pos (by decide)];exact su (by rw[Zo,beq_self_eq_true];rfl)
  .split<;>exact qL h'
def Sx(env:Env)(x:Str×NameKind):Str×NameKind:=if (x.2 == NameKind.free&&env.scope.kind == .function&&env.kindOf x.1 == some .cell)=true then (x.1,NameKind.cell) else (x.1,x.2)
theorem qu{env:Env}{x:Str}{k:NameKind}:∀ {names:List (Str×NameKind)},(names.map (Sx env)).lookup x=some k->names.lookup x=some k\/(names.lookup x=some .free/\k=.cell)
 | [],h=>by simp at h
 | (n,k0)::r,h=>by
  have ih:=@qu env x k r;rw[Yp] at h;by_cases hc:(k0 == NameKind.free&&env.scope.kind == .function&&env.kindOf n == some .cell)=true
  .have e:Sx env (n,k0)=(n,NameKind.cell):=if_pos hc;rw[e,Zo] at h;rw[Zo];cases e:x == n with
   | true =>
    rw[e] at h;have hk:k0=.free:=by
     rw[YG,YG] at hc;exact eq_of_beq hc.1.1
    subst hk;right;exact#[U,(YU h).symm]
   | false =>
    rw[e] at h;exact ih h
  .have e:Sx env (n,k0)=(n,k0):=if_neg hc;rw[e,Zo] at h;rw[Zo];cases e:x == n with
   | true =>
    rw[e] at h;exact .inl h
   | false =>
    rw[e] at h;exact ih h
theorem gz{env:Env}{x:Str}{scope:Scope}{k:NameKind}(h:(relabel scope env).names.lookup x=some k) :
  scope.names.lookup x=some k\/(scope.names.lookup x=some .free/\k=.cell):=qu (env:=env) h
section
variable{prog:Program}{w:World}{A:Around}{R:Result->Shared->Prop}{s:Shared}
theorem uX{elt target iter:Expr}{ifs:List Expr}{scope:Scope}{pos:Pos}{it acc:Value}{env:Env}(I:Nat->Shared->Prop)(turn:∀ n s,I n s->wpAny (model prog w) A (pyNext it) (λr s₁=>match r with
   | none=>R (.ok .next) s₁
   | some v=>wpAny (model prog w) A (letOwnedTupleGo target it v) (λ_ s₁'=>wpAny (model prog w) A (assign target env v) (λ_ s₂ =>
     wpAny (model prog w) A (forIn ifs true λc r=>if r=true then do let ok <- isTrue c env (eval c env);pure (ForInStep.yield ok) else pure (ForInStep.yield r)) (λok s₃ =>
      if ok=true then wpAny (model prog w) A (eval elt env) (λx s₄ =>
       wpAny (model prog w) A (call (.builtin "list.append") [acc,x]) (λ_ s₅=>∃ m,m < n/\I m s₅) (notedBy (model prog w) A env λe s'=>R (.error e) s') s₄) (notedBy (model prog w) A env λe s'=>R (.error e) s') s₃
      else ∃ m,m < n/\I m s₃) (notedBy (model prog w) A env λe s'=>R (.error e) s') s₂) (notedBy (model prog w) A env λe s'=>R (.error e) s') s₁') (notedBy (model prog w) A env λe s'=>R (.error e) s') s₁)
   (notedBy (model prog w) A env λe s'=>R (.error e) s') s)(n:Nat)(h:I n s) :
  codeAny (model prog w) A (.compLoop (.ListComp elt [#[target,iter,ifs,0]] scope pos) 0 it acc env) R s:=by
 refine codeAny_loop U I (λn s hI=>?_) n h;show wpAny _ A ((compTurn (.ListComp elt [#[target,iter,ifs,0]] scope pos) 0 it acc env).onRaise (λx=>do noteFrame x env;theTreesLotGoes x)) _ _ s;refine wpAny_noted ?_;rw[compTurn_list];refine wpAny_bind (wpAny_standAt (wpAny_bind (wpAny_mono (turn n s hI) (λr s₁ h₁=>?_) λ_ _ h'=>h')));cases r with
 | none=>exact wpAny_pure h₁
 | some v =>
  refine wpAny_bind (wpAny_mono h₁ (λ_ s₁' h₁'=>?_) λ_ _ h'=>h');refine wpAny_bind (wpAny_mono h₁' (λ_ s₂ h₂=>wpAny_bind (wpAny_mono h₂ (λok s₃ h₃=>?_) λ_ _ h'=>h')) λ_ _ h'=>h');cases ok with
  | false=>exact wpAny_pure #[U,h₃]
  | true =>
   exact wpAny_bind (wpAny_bind (wpAny_mono h₃ (λx s₄ h₄=>wpAny_bind (wpAny_mono h₄ (λ_ s₅ h₅=>wpAny_pure (wpAny_pure #[U,h₅])) λ_ _ h'=>h')) λ_ _ h'=>h'))
end
def lift(nt:Nat)(us:List Nat)(O:St):St:=List.replicate nt none++us.map λj=>(O[j]?).join
def v7(ts:List Str)(us:List Nat)(N:List Str):List Str:=ts++us.map λj=>N.getD j ""
def Cx.comp(X:Cx)(ts:List Str)(us:List Nat)(scope:Scope)(C:Addr)(s:Shared)(H:Hp)(fp:List Addr):Cx :=
 { X with N:=v7 ts us X.N,s₀:=s,H₀:=H,env:=compEnvC scope (gG X.env scope.names []) C X.env,outer:=X.stack,ex:=fp,fn:=λ_=>false,pn:=[],xe:=λ_ _=>False }
def LO(X:Cx)(ifs:List Expr)(t:TT):Prop :=
 ∀ (pins:aau) (s:Shared) (O:St) (H:Hp) (Q:Bool->Hp->Prop),Inv X pins O H s->t O H Q ->
  wpAny (model X.prog X.w) X.A (forIn ifs true λc r=>if r=true then do let ok <- isTrue c X.env (eval c X.env);pure (ForInStep.yield ok) else pure (ForInStep.yield r)) (TP X pins O Q) X.xe s
def Dm:TT:=λ_ H Q=>Q true H
theorem uW{X:Cx}:LO X [] Dm:=λ_ _ _ H _ I h=>wpAny_tests_nil #[H,I,h]
theorem GF{X:Cx}{c:Expr}{t:TT}(hc:PT X c t):LO X [c] t:=λpins s O H Q I h=>wpAny_tests_one (hc pins s O H Q I h)
structure bP(X:Cx)(ts:List Str)(us:List Nat)(scope:Scope):Prop where
 kind:scope.kind=.function
 JM:(scope.names.all λx=>x.2 != .cell)=true
 loc:(scope.names.all λx=>x.2 != .local||scope.names.lookup x.1 == some .local)=true
 free:(scope.names.all λx=>x.2 != .free||(X.env.cells.lookup x.1).isSome)=true
 Yg:(ts.all λx=>scope.names.lookup x == some .local)=true
 X8:(us.all λj=>match X.N[j]? with | some x=>scope.names.lookup x == some .free&&(X.env.kindOf x == some .cell||X.env.kindOf x == some .free) | none=>false)=true
section
variable{X:Cx}{ts:List Str}{us:List Nat}{scope:Scope}
theorem bP.nc(S:bP X ts us scope):∀ x∈scope.names,x.2≠.cell:=λx hx e=>by
 have q:=Y2.mp S.JM x hx;rw[e] at q;exact absurd q (by decide)
theorem bP.lc(S:bP X ts us scope):∀ x∈scope.names,x.2=.local->scope.names.lookup x.1=some .local:=λx hx e=>by
 have q:=Y2.mp S.loc x hx;rw[e] at q;have q':(scope.names.lookup x.1 == some .local)=true:=by simpa using q
 exact eq_of_beq q'
theorem bP.fr(S:bP X ts us scope):∀ x∈scope.names,x.2=.free->(X.env.cells.lookup x.1).isSome=true:=λx hx e=>by
 have q:=Y2.mp S.free x hx;rw[e] at q;simpa using q
theorem bP.Mq(S:bP X ts us scope){j:Nat}(hj:j∈us):∃ x,X.N[j]?=some x/\scope.names.lookup x=some .free/\(X.env.kindOf x=some .cell\/X.env.kindOf x=some .free):=by
 have q:=Y2.mp S.X8 j hj;cases e:X.N[j]? with
 | none=>rw[e] at q;exact absurd (show false=true from q) Yy
 | some x =>
  rw[e] at q;have q:(scope.names.lookup x == some .free&&(X.env.kindOf x == some .cell||X.env.kindOf x == some .free))=true:=q;rw[YG,Bool.or_eq_true] at q;exact#[x,U,eq_of_beq q.1,q.2.imp eq_of_beq eq_of_beq]
theorem D4{pins:aau}{O:St}{H:Hp}{s:Shared}{fp:List Addr}{h₁:Heap}{t:Nat}{m:Str->Option Value}(S:bP X ts us scope)(I:Inv X pins O H s)(hf:∀ b∈fp,jw X pins H b)(LV:∀ b∈fp,b < ↑s)(Cd:h₁.Ns ↑s m)(keep:∀ b o,s.heap.get? b=some o->h₁.get? b=some o) :
  Inv (X.comp ts us scope ↑s s H fp) [] (lift ts.length us O) H { s with heap:=h₁,toks:=t }:=by
 have cl:∀ x c,(gG X.env scope.names []).lookup x=some c->X.env.cells.lookup x=some c:=λx c e=>by
  rcases jj S.fr e with q | q
  .exact q
  .simp at q
 have kd:∀ x,((relabel scope X.env).names.lookup x=some .cell\/(relabel scope X.env).names.lookup x=some .free)->scope.names.lookup x=some .free:=λx hx=>by
  rcases hx with hx | hx
  .rcases gz hx with q | q
   .exact absurd U (S.nc _ (Zg q))
   .exact q.1
  .rcases gz hx with q | q
   .exact q
   .cases q.2
 have ok:(X.comp ts us scope ↑s s H fp).Ok:=by
  refine#[I.ok.mod,S.kind,I.ok.glob,I.ok.blt,Ys _,λx y c e1 e2=>I.ok.inj x y c (cl x c e1) (cl y c e2),λx hx=>?_,λx c e=>?_,I.ok.hd,I.ok.frames,.inl U,λb hb=>?_,I.bs,Yw I.ok.HS I.sz,λb o e hb=>?_,λb hb hb2=>?_,I.stack,I.AM]
  .have q:=kd x hx;exact Zm.mp (qL (Zg q))
  .cases (show (false:Bool)=true from e)
  .let(f0,f1,f2,f3,f4,f5):=hf b hb;exact#[YJ (LV b hb),λx c e=>f4 x c (cl x c e)]
  .let(f0,f1,f2,f3,f4,f5):=hf b hb;rcases f3 with z | z
   .exact I.ok.Ce b o e z
   .exact absurd (YQ (YC e) (Yw I.ok.HS z)) (ZR _)
  .let(f0,f1,f2,f3,f4,f5):=hf b hb;rcases Yn.mp (I.yB b hb2) with z | z
   .exact f1 z
   .exact f2 z
 refine#[ok,U,I.bare,Un.kept keep,#[m,Cd,λi x v h1 h2 h3=>?_],λx c e=>?_,I.aN.fresh (Nat.le_refl _),λx c e=>I.jH x c (cl x c e),λp hp=>absurd (show p∈([]:aau) from hp) (by simp),I.aN.kept keep,?_]
 .have h1:(v7 ts us X.N)[i]?=some x:=h1;have h2:(lift ts.length us O)[i]?=some (some v):=h2;by_cases hi:i < ts.length
  .unfold lift at h2;rw[List.getElem?_append_left (by simpa using hi),List.getElem?_replicate] at h2;split at h2<;>cases h2
  .have zt:ts.length<=i:=Nat.le_of_not_lt hi;unfold lift at h2;unfold v7 at h1;rw[List.getElem?_append_right (by simpa using zt),List.length_replicate,List.getElem?_map] at h2;rw[ZT zt,YS] at h1;cases ej:us[i - ts.length]? with
   | none=>rw[ej] at h1;cases h1
   | some j =>
    rw[ej] at h1 h2;let(y,hy,hyf,hyk):=S.Mq (Y4 ej);have e1:X.N.getD j ""=x:=YU h1;have e2:X.N.getD j ""=y:=by rw[ZU,hy];rfl
    have exy:y=x:=e2.symm.trans e1;subst exy;have e3:(O[j]?).join=some v:=YU h2;have e4:O[j]?=some (some v):=by
     cases q:O[j]? with
     | none=>rw[q] at e3;cases e3
     | some z =>
      rw[q] at e3;have:z=some v:=e3;rw[this]
    let(m0,hn0,hl0):=I.loc;have hvis:LB X.env.scope y:=.inr hyk;let(u,r,l):=hl0 j y v hy e4 hvis;refine#[u,r,?_];rcases l with ⟨k1,_⟩ | ⟨k1,c,hc,hcell⟩
    .rcases hyk with z | z
     .rw[k1] at z;cases z
     .rw[k1] at z;cases z
    .refine .inr #[?_,c,?_,?_]
     .have h3:(relabel scope X.env).names.lookup y=some .local\/(relabel scope X.env).names.lookup y=some .cell\/(relabel scope X.env).names.lookup y=some .free:=h3;rcases h3 with z | z
      .rcases gz z with q | q
       .rw[hyf] at q;cases q
       .cases q.2
      .exact z
     .let(c',hc'):=Zm.mp (qL (env:=X.env) (acc:=[]) (Zg hyf));have q:=cl y c' hc';rw[hc] at q;cases q;exact hc'
     .let(o,ho,hd):=hcell;exact#[o,keep c o ho,hd]
 .let(v,o,ho,hd):=I.cell x c (cl x c e);exact#[v,o,keep c o ho,hd]
 .show (lift ts.length us O).length=(v7 ts us X.N).length;unfold lift v7;rw[Yl,Yl,Zu,Yk,Yk]
def Cw(O O':St):Prop:=∀ (i:Nat) (v:V),O[i]?=some (some v)->O'[i]?=some (some v)
theorem xw{nt i:Nat}{us:List Nat}{O:St}{x:Option V}(hi:i < nt):Cw (lift nt us O) ((lift nt us O).set i x):=λj v e=>by
 by_cases hj:j=i
 .subst hj;unfold lift at e;rw[List.getElem?_append_left (by simpa using hi),List.getElem?_replicate] at e;split at e<;>cases e
 .rw[YM (Ne.symm hj)];exact e
def uZ(nt:Nat)(us:List Nat)(O:St)(g:TG)(ti:TT)(te:TE)(J:It)(H1:Hp)(Q:VK):Prop :=
 ∀ D,H1 D=none->∃ W:Nat->Nat->List V->Hp->Prop,(∃ m,W 0 m [] (upd H1 D (.lst [])))/\∀ i m ys H2,W i m ys H2->H2 D=some (.lst ys) /\
  ((J.stop i H2/\Q (.ref D) H2)\/(J.go i H2/\ys.length < sizeLine/\∀ x H3,J.IJ i H2 x H3->g x (lift nt us O) H3 λO4 H4=>Cw (lift nt us O) O4/\ti O4 H4 λb H5 =>
    if b=true then te O4 H5 λy H6=>H6 D=some (.lst ys)/\∃ m',m' < m/\W (i+1) m' (ys++[y]) (upd H6 D (.lst (ys++[y]))) else ∃ m',m' < m/\W (i+1) m' ys H5))
def xi(nt:Nat)(us:List Nat)(wi:TI)(g:TG)(ti:TT)(te:TE):TE:=λO H Q=>wi O H λJ H1=>uZ nt us O g ti te J H1 Q
theorem qE{tg elt iter:Expr}{ifs:List Expr}{pos:Pos}{g:TG}{ti:TT}{te:TE}{pins:aau}{O:St}{H:Hp}{s:Shared}{it:Addr}{fp:List Addr}{tn:Nat->Heap->Prop}{J:It}{Q:VK}{E:aat}{RR:Value->Addr->Result->Shared->Prop}(S:bP X ts us scope)(hc:X.calm=true)(I:Inv X pins O H s)(T:Turn X.prog X.w X.K tg J fp it tn)(st:tn 0 s.heap)(hf:∀ b∈fp,jw X pins H b)(hg:∀ C s H fp,PG (X.comp ts us scope C s H fp) tg g)(CM:∀ C s H fp,LO (X.comp ts us scope C s H fp) ifs ti)(he:∀ C s H fp,PE (X.comp ts us scope C s H fp) elt te)(q:uZ ts.length us O g ti te J H Q)(W5:∀ D C s' H',Inv X pins O H' s'->(∃ m,s'.heap.Ns C m)->jw X pins H' C->Q (.ref D) H'->RR (.ref D) C (.ok .next) s') :
  wpAny (model X.prog X.w) X.A (newList []) (λacc s₃=>wpAny (model X.prog X.w) X.A (newFunctionEnv scope X.env.globals (gG X.env scope.names []) [] X.env.qual none .none (some X.env)) (λcenv s₄ =>
   codeAny (model X.prog X.w) X.A (.compStart (.ListComp elt [#[tg,iter,ifs,0]] scope pos) 0 (.ref it) acc { cenv with scope:=relabel scope X.env }) (RR acc cenv.locals) s₄) E s₃) E s:=by
 refine wpAny_newObj_type (wpAny_newFunctionEnv S.nc (by intro y hy;simp at hy) (λh₁ hns₁ hsb₁=>?_) S.kind);dsimp only at hns₁ hsb₁ ⊢;have I3:Inv X pins O (upd H ↑s (.lst [])) { s with heap:=s.heap.push { cls:=.type "list",data:=.seq ([]:List Value).toArray } }:=I.NZ (its:=[]) (ys:=[]) (t':=s.toks) .nil (YO _);have LV:∀ b∈fp,b < ↑s:=λb hb=>by
  let(o,e,_):=T.obj 0 _ st b hb;exact YC e
 have hf3:∀ b∈fp,jw X pins (upd H ↑s (.lst [])) b:=λb hb=>by
  let(f0,fr):=hf b hb;exact#[by rw[aq (YJ (LV b hb))];exact f0,fr]
 generalize hs3:({ s with heap:=s.heap.push { cls:=.type "list",data:=.seq ([]:List Value).toArray } }:Shared)=s3 at I3;have hs3h:s3.heap=s.heap.push { cls:=.type "list",data:=.seq ([]:List Value).toArray }:=by rw[<- hs3]
 have keep:∀ b o,s3.heap.get? b=some o->h₁.get? b=some o:=λb o e=>by
  rw[hs3h] at e;exact hsb₁.extBut b o (YJ (YC e)) (Yq _ e)
 have keep0:∀ b o,s.heap.get? b=some o->h₁.get? b=some o:=λb o e=>keep b o (by rw[hs3h];exact Yq _ e);let(W,(m0,w0),turn):=q ↑s (I.aN.fresh (Ys _));have hC:(s.heap.push { cls:=.type "list",data:=.seq ([]:List Value).toArray }).objs.size=↑s3:=by rw[hs3h]
 have hfl3:∀ b∈fp,b < ↑s3:=λb hb=>by
  rw[hs3h,Zf];exact Nat.lt_succ_of_lt (LV b hb)
 have hns3:h₁.Ns ↑s3 (λx=>([]:List (Str×Value)).reverse.lookup x):=by rw[<- hC];exact hns₁
 have I4:∀ t,Inv (X.comp ts us scope ↑s3 s3 (upd H ↑s (.lst [])) fp) [] (lift ts.length us O) (upd H ↑s (.lst [])) { s3 with heap:=h₁,toks:=t }:=λt=>D4 S I3 hf3 hfl3 hns3 keep;have M7:tn 0 h₁:=T.keep 0 _ _ st λb _ o e=>keep0 b o e;have loop:∀ s₄:Shared,(∃ t,s₄={ s3 with heap:=h₁,toks:=t }) ->
   codeAny (model X.prog X.w) X.A (.compLoop (.ListComp elt [#[tg,iter,ifs,0]] scope pos) 0 (.ref it) (.ref ↑s) (compEnvC scope (gG X.env scope.names []) ↑s3 X.env)) (RR (.ref ↑s) ↑s3) s₄:=by
  rintro s₄ ⟨t4,rfl⟩;have stat:∀ {H':Hp},(∀ b∈fp,H' b=none)->∀ b∈fp,jw (X.comp ts us scope ↑s3 s3 (upd H ↑s (.lst [])) fp) [] H' b:=λ{H'} hn b hb=>by
   have ok:=(I4 0).ok;exact#[hn b hb,(ok.QG b hb).1,ok.Cg b hb,.inl hb,(ok.QG b hb).2,λp hp=>absurd (show p∈([]:aau) from hp) (by simp)]
  refine uX (λn s'=>∃ i ys H',Inv (X.comp ts us scope ↑s3 s3 (upd H ↑s (.lst [])) fp) [] (lift ts.length us O) H' s'/\tn i s'.heap/\(∀ b∈fp,H' b=none)/\W i n ys H') ?_ m0
   #[0,[],_,I4 t4,M7,λb hb=>(hf3 b hb).1,w0]
  rintro n s5 ⟨i,ys,H5,I5,st5,fr5,w5⟩;let(hD,hturn):=turn i n ys H5 w5;rcases hturn with ⟨stop,qn⟩ | ⟨go,hlen,step⟩
  .refine b9 (T.done (X.comp ts us scope ↑s3 s3 (upd H ↑s (.lst [])) fp) U U U hc i [] s5 (lift ts.length us O) H5 _ I5 (stat fr5) st5 stop) λr s6 z9q=>?_;let(hr,I6):=z9q;subst hr;have I7:Inv X pins O H5 s6:=I3.Pq (ch:=fp) I6.os I6.base I6.aN I6.bare λb hb=>by
    let(f0,f1,f2,f3,f4,f5):=hf3 b hb;exact#[f3,f1,f4,f5]
   let(m6,hn6,_):=I6.loc;exact W5 _ _ s6 H5 I7 #[m6,hn6] (I3.vL (Ys _) I6.free) qn
  .refine b9 (T.item (X.comp ts us scope ↑s3 s3 (upd H ↑s (.lst [])) fp) U U U hc i [] s5 (lift ts.length us O) H5 _ I5 (stat fr5) st5 go) λr s6 z0q=>?_;let(u,hr,h6):=z0q;subst hr;refine b9 h6 λ_ s7 z1q=>?_;let(x,H7,I7,r7,y7,st7,fr7):=z1q;have I7':=I7.pinned (stat fr7) (T.obj _ _ st7);refine wpAny_mono (hg _ _ _ _ _ s7 (lift ts.length us O) H7 x u _ I7' r7 (step x H7 y7)) (λ_ s8 #[O8,H8,I8,kp8,q8]=>?_) λ_ _ z=>False.elim z;refine wpAny_mono (CM _ _ _ _ _ s8 O8 H8 _ I8 q8) (λb s9 #[H9,I9,q9]=>?_) λ_ _ z=>False.elim z;have fin:∀ {s':Shared} {H':Hp} {UX:List V},Inv (X.comp ts us scope ↑s3 s3 (upd H ↑s (.lst [])) fp) ([]++rR fp s7.heap) O8 H' s'->(∃ m',m' < n/\W (i+1) m' UX H') ->
     ∃ m,m < n/\∃ i ys H',Inv (X.comp ts us scope ↑s3 s3 (upd H ↑s (.lst [])) fp) [] (lift ts.length us O) H' s'/\tn i s'.heap/\(∀ b∈fp,H' b=none)/\W i m ys H':=λ{s' H' UX} J' z2q=>by
    let(m',hm,w'):=z2q;refine#[m',hm,i+1,UX,H',J'.mm.weak ?_ kp8,T.keep _ _ _ st7 λb hb o e=>(J'.pin (b,o) (Y1 _ (Y1 _ (iF hb e)))).1,λb hb=>?_,w']
    .rw[J'.len,I7.len]
    .let(o,e,d):=T.obj _ _ st7 b hb;exact (J'.pin (b,o) (Y1 _ (Y1 _ (iF hb e)))).2.1
   cases b with
   | false =>
    rw[if_neg Yy] at q9 ⊢;exact fin I9 q9
   | true =>
    rw[if_pos U] at q9 ⊢;refine wpAny_mono (he _ _ _ _ _ s9 O8 H9 _ I9 q9) (λyv s10 #[y,H10,I10,r10,hD10,q10]=>?_) λ_ _ z=>False.elim z;refine wpAny_mono (cM (X:=X.comp ts us scope ↑s3 s3 (upd H ↑s (.lst [])) fp) _ s10 O8 H10 (.ref ↑s) [y] (.ref ↑s) [yv] (λ_ H'=>∃ m',m' < n/\W (i+1) m' (ys++[y]) H') I10 U (.cons r10 .nil) #[_,ys,y,U,U,hD10,hlen,q10]) (λ_ s11 #[_,H11,I11,_,q11]=>?_) λ_ _ z=>False.elim z;exact fin I11 q11
 have e4:({ s with heap:=h₁,toks:=s.toks+([]:List (Str×Value)).length }:Shared)={ s3 with heap:=h₁,toks:=s.toks+([]:List (Str×Value)).length }:=by rw[<- hs3]
 first
  | (rw[e4,hC];exact codeAny_compStart_list (loop _ #[_,rfl]) (T.self _ 0 _ _ _ M7 (loop _ #[_,rfl])))
  | (have L4:=codeAny_compStart_list (elt:=elt) (target:=tg) (iter:=iter) (ifs:=ifs) (rest:=[]) (scope:=scope) (pos:=pos) (loop _ #[s.toks+([]:List (Str×Value)).length,U]) (T.self _ 0 _ _ _ M7 (loop _ #[s.toks+([]:List (Str×Value)).length,U]))
     subst hs3;exact L4)
theorem vh{tg elt iter:Expr}{ifs:List Expr}{pos:Pos}{wi:TI}{g:TG}{ti:TT}{te:TE}(S:bP X ts us scope)(hc:X.calm=true)(hi:PI X tg iter wi)(hg:∀ C s H fp,PG (X.comp ts us scope C s H fp) tg g)(CM:∀ C s H fp,LO (X.comp ts us scope C s H fp) ifs ti)(he:∀ C s H fp,PE (X.comp ts us scope C s H fp) elt te)(hs:aaA iter X.env:=by intro _;rfl):PE X (.ListComp elt [#[tg,iter,ifs,0]] scope pos) (xi ts.length us wi g ti te):=by
 intro pins s O H Q I h;rw[eval_ListComp];refine wpAny_comprehension_free (use:=none) U hs (lh S.fr) S.kind S.lc (b9 (hi pins s O H _ I h) λv s1 h1=>b9 h1 λQw s2 h2=>?_);let(it,fp,tn,J,H2,e,I2,T,J7,f2,q):=h2;subst e;refine qE (RR:=λacc C=>compPost (model X.prog X.w) X.A X.xe none (EP X pins O Q) acc C) S hc I2 T J7 f2 hg CM he q ?_;intro D C s' H' I' hn F q';let(m,hn):=hn;let(f0,f1,f2,f3,f4,f5):=F;refine#[m,hn,λh' sb=>?_];have I8:Inv X pins O H' { s' with heap:=h' }:=I'.turned (t':=s'.toks) (λb o hb e=>(sb.2 b hb).trans e) f0 f1 f3 f4 f5;exact#[.ref D,H',I8,U,q']
theorem Ad{i:Nat}{x:Str}{tg elt iter:Expr}{ifs:List Expr}{pos px EG:Pos}{wi:TI}{g:TG}{ti:TT}{te:TE}(hN:X.N.Nodup)(zt:X.N[i]?=some x)(hx:X.env.scope.names.lookup x=some .local)(S:bP X ts us scope)(hc:X.calm=true)(hi:PI X tg iter wi)(hg:∀ C s H fp,PG (X.comp ts us scope C s H fp) tg g)(CM:∀ C s H fp,LO (X.comp ts us scope C s H fp) ifs ti)(he:∀ C s H fp,PE (X.comp ts us scope C s H fp) elt te)(MN:swapsWith (.ListComp elt [#[tg,iter,ifs,0]] scope pos) (some (.Name x px)) EG.line X.env=pure true:=by rfl)(hs:aaA iter X.env:=by intro _;rfl):PS X (.Assign [.Name x px] (.ListComp elt [#[tg,iter,ifs,0]] scope pos) EG) (kQ (xi ts.length us wi g ti te) (eC i)):=by
 intro pins s O H D I h;rw[exec_Assign_Name_used _ _ _ _ MN];refine wpAny_bind (wpAny_standAt (wpAny_bind ?_));show wpAny _ _ (do let _ <- comprehension (.ListComp elt [#[tg,iter,ifs,0]] scope pos) scope X.env _ (newList []) false (eval iter X.env) (some (assign (.Name x px) X.env))) _ _ s;refine wpAny_bind (wpAny_mono (wpAny_comprehension_free (use:=some (assign (.Name x px) X.env)) (Q:=λ_ s'=>SP X pins D .next s') U hs (lh S.fr) S.kind S.lc
  (b9 (hi pins s O H _ I h) λv s1 h1=>b9 h1 λQw s2 h2=>?_)) (λ_ s' hq=>wpAny_pure (wpAny_pure hq)) λ_ _ e=>e)
 let(it,fp,tn,J,H2,e,I2,T,J7,f2,q):=h2;subst e;refine qE (RR:=λacc C=>compPost (model X.prog X.w) X.A X.xe (some (assign (.Name x px) X.env)) (λ_ s'=>SP X pins D .next s') acc C) S hc I2 T J7 f2 hg CM he q ?_;intro L C s' H' I' hn F q';let(m,hn):=hn;let(f0,f1,f2,f3,f4,f5):=F;show wpAny _ _ (assign (.Name x px) X.env (.ref L)) _ _ s';refine wpAny_assign_Name (ug I' hN zt (.inl hx) (v:=.ref L) U (λFX I'' hsb=>?_) (.inr hx));let(a,sb,ha):=hsb;have i6:C≠a:=by
  rcases ha with z | z
  .rw[z];exact f1
  .exact λw=>f4 x a z w.symm
 refine#[m,hn.sameBut sb i6,λh' sb'=>?_];have I8:Inv X pins (O.set i (some (.ref L))) H' { FX with heap:=h' }:=I''.turned (t':=FX.toks) (λb o hb e=>(sb'.2 b hb).trans e) f0 f1 f3 f4 f5;exact#[_,H',I8,q']
end
end L2
namespace PySem
open Sem (wp)
namespace F
theorem Bl:typeLookup (.type "list_reverseiterator") "__len__"=pure none:=by rw[typeLookup_type,builtinLookup_eq_fast];kernel_rfl
theorem ES:typeLookup (.type "list_reverseiterator") "__length_hint__"=pure (some (.builtin "list_reverseiterator.__length_hint__")):=by rw[typeLookup_type,builtinLookup_eq_fast];kernel_rfl
end F
section
variable{prog:Program}{w:World}{A:Around}{E:aat}{s:Shared}
theorem uI{R:Result->Shared->Prop}{I:Addr}{fp wr:List Addr}{n:Nat}{P:Nat->Value->Prop}{St:Nat->Heap->Prop}(W:Walks prog w A.in1 I fp wr n P St)(hT:∀ i h,St i h->∃ o,h.get? I=some o/\o.cls=.type "list_reverseiterator")(S:Addr)(res:Value)(c₀:Nat)(kX:St 0 s.heap)(Vf:S∉fp)(hI:I∈fp)(hS:s.heap.get? S=some { cls:=.type "list",data:=.seq #v[] c₀ })(hR:∀ h' tk acc' c',(∀ b o,b≠S->b∉wr->s.heap.get? b=some o->h'.get? b=some o)->h'.get? S=some { cls:=.type "list",dict:=none,data:=.seq acc' c',slots:=#v[] } ->
   ItemsOf P acc' n->R (.ok (.ret res)) { s with heap:=h',toks:=tk })(hn:n<=sizeLine) :
  wpAny (model prog w) A.in1 (Builtin.List.listExtendWith (.ref S) (.ref I) res)
   (λfin s'=>match fin with | .done f=>R (.ok f) s' | .again c'=>c'.quiet=true/\codeAny (model prog w) A c' R s') (λe s'=>R (.error e) s') s:=by
 have hSI:S≠I:=λe=>Vf (e▸hI);have hTs:s.TypeIs (.ref I) "list_reverseiterator":=hT 0 _ kX;unfold Builtin.List.listExtendWith;refine wpAny_bind (wpAny_typeOf hTs ?_);have h1:Builtin.List.listSameRef (.ref S) (.ref I)=false:=by simp[Builtin.List.listSameRef,hSI]
 have h2:(Value.type "list_reverseiterator" == Value.type "list")=false:=by decide
 have h3:(Value.type "list_reverseiterator" == Value.type "tuple")=false:=by decide
 simp only[h1,h2,h3,Bool.or_false,Bool.false_eq_true,if_false];refine wpAny_bind (W.self 0 _ _ _ kX ?_);refine wpAny_bind (wpAny_holding ?_);unfold Builtin.List.listLengthHint;refine wpAny_bind (wpAny_specialOf hTs F.Bl ?_);show wpAny _ A.in1 (specialOf (Value.ref I) (Str.ofString "__length_hint__") >>= _) _ _ _;refine wpAny_bind (wpAny_specialOf hTs F.ES ?_);generalize hid:("list_reverseiterator.__length_hint__":String)=id0
 wp_delta
 rw[show splitId id0=some ("list_reverseiterator","__length_hint__") from by subst hid;decide+kernel];subst hid;refine wpAny_bind (wpAny_isInstance (b:=true) hTs (by rw[isSubtype_type];kernel_rfl) ?_);refine wpAny_pure ?_;rw[if_neg (by decide)];refine wpAny_pure #[plainId_quiet F.plain_extend_loop _,codeAny_extend_loopS W.toS hn _ Vf _ n 0 _ _ _ U (YO _) kX hS (ItemsOf.nil P) λs' acc' c' hm hS' hacc=>?_];rw[Moved.eq_with hm];refine hR s'.heap s'.toks acc' c' (λb ob hb hw e=>hm.heap b ob (λhmem=>?_) e) hS' hacc;rcases Yn.mp hmem with e' | hmem
 .exact hb e'
 .exact hw hmem
theorem o9{Q:aat}(hh:A.handled=none){I l:Addr}{items:Array Value}(i6:l≠I)(hit:s.heap.IsRevIter I l ((items.size:Int) - 1))(hl:s.heap.IsList l items)(hQ:∀ h' tk acc' c',(∀ b o,b≠I->s.heap.get? b=some o->h'.get? b=some o)->h'.get? ↑s=some { cls:=.type "list",dict:=none,data:=.seq acc' c',slots:=#v[] } ->
   ItemsOf (λi v=>items[items.size - 1 - i]?=some v) acc' items.size->Q (.ref ↑s) { s with heap:=h',toks:=tk })(hn:items.size<=sizeLine) :
  wpAny (model prog w) A (call (.type "list") [.ref I]) Q E s:=by
 have hIlt:I < ↑s:=by let(o,e,_):=hit;exact YC e
 have hllt:l < ↑s:=by let(o,e,_):=hl;exact YC e
 refine callType_codes (Q₁:=λobj s₁=>obj=.ref ↑s/\s₁={ s with heap:=s.heap.push { cls:=.type "list",data:=.seq #v[] } }) F.called_list (F.typeCall_list_1 _) F.entry_list_init
  (code_list_new _ #[U,U]) λobj s₁ h₁=>?_
 let(rfl,rfl):=h₁;have hS:(s.heap.push { cls:=.type "list",data:=.seq #v[] }).get? ↑s=some { cls:=.type "list",data:=.seq #v[] }:=YD _ U;refine#[#[_,hS,U],F.args_list_init_2 _ _,?_];show wpAny _ _ (do let old <- Builtin.List.listItems (.ref ↑s);Builtin.List.listUpdate (.ref ↑s) (λ_=>#v[]);letGo old.toList.reverse;Builtin.List.listExtendWith (.ref ↑s) (.ref I) .none) _ _ _;refine wpAny_bind ?_;unfold Builtin.List.listItems;refine wpAny_bind (wpAny_seqItems hS U (wpAny_pure ?_));show wpAny _ _ (updateSeq ↑s (λ_=>#v[]) >>= λ_=>letGo (#v[]:Array Value).toList.reverse >>= λ_=>Builtin.List.listExtendWith (.ref ↑s) (.ref I) .none) _ _ _;refine wpAny_bind (wpAny_updateSeq hS U ?_);have hS₂:=aal (Obj.mapSeq (λ_=>(#v[]:Array Value))) hS U;have oth:∀ b o,b≠↑s->s.heap.get? b=some o->((s.heap.push { cls:=.type "list",data:=.seq #v[] }).update ↑s (Obj.mapSeq (λ_=>(#v[]:Array Value)))).get? b=some o :=
  λb o hb e=>(aad _ _ (Ne.symm hb)).trans (Yq _ e)
 refine wpAny_bind (wpAny_letGo ?_);have W:=Walks.listRev (prog:=prog) (w:=w) (A:=A.in1.in1) hh I l i6 items;refine uI (A:=A.in1) W (λi h st=>let #[o,e,c,_]:=st.2.1;#[o,e,c]) ↑s .none _ ?_ ?_ (by simp) hS₂ (λh' tk acc' c' kp e hacc=>?_) hn
 .refine#[YO _,?_,?_]
  .have e0:(items.size:Int) - 1 - ((0:Nat):Int)=(items.size:Int) - 1:=by cbv
   rw[e0];exact hit.at λo e=>oth I o (YJ hIlt) e
  .exact hl.at λo e=>oth l o (YJ hllt) e
 .intro hm;rcases Yn.mp hm with e | hm
  .exact absurd e (ZK hIlt)
  .exact absurd (Yx.mp hm) (ZK hllt)
 .exact#[U,hQ h' tk acc' c' (λb o hb eb=>kp b o (Nat.ne_of_lt (Heap.lt_size eb)) (by simpa using hb) (oth b o (Nat.ne_of_lt (Heap.lt_size eb)) eb)) e hacc]
end
end PySem
namespace L2
open PySem PySem.Spec PyProof.Rows
def Tz(z:Str):It:=#[λi _=>i < z.cps.size,λi H x H'=>H'=H/\∃ c,z.cps[i]?=some c/\x=.str #[#v[c]],λi _=>i=z.cps.size]
theorem vU{P:Program}{w:World}{K:Frag}{tg:Expr}{z:Str}{t:Tok}{it:Addr}{ty:String}(hn:["enumerate","zip","dict_itemiterator","dict_reverseitemiterator","odict_iterator","itertools.zip_longest","itertools.pairwise"].contains ty=false)(W:∀ A':Around,A'.handled=none->Walks P w A' it [it] [it] z.cps.size (SignAt z) (λi h=>h.IsStrIter it ty z t i))(Qk:∀ (A:Around) (i:Nat) (s:Shared) (Q:aat) (E:aat),s.heap.IsStrIter it ty z t i->Q (.ref it) s->wpAny (model P w) A (pyIter (.ref it)) Q E s) :
  Turn P w K tg (Tz z) [it] it (λi h=>h.IsStrIter it ty z t i) where
 mem:=by simp
 obj:=λi h st b hb=>by
  have e:b=it:=by simpa using hb
  subst e;let(o,e,c,d):=st;exact#[o,e,λv z=>by rw[d] at z;cases z]
 keep:=λi h h' st k=>by
  let(o,e,r):=st;exact#[o,k it (by simp) o e,r]
 item:=by
  intro X hP hw hK hc i pins s O H E I hf st hg;subst hP hw hK;let(f0,f1,f2,f3,f4,f5):=hf it (by simp);refine (W X.A (I.ok.hd hc)).item i s _ _ hg st λv h' tk hv st' kk=>?_;let(c,u,hcp,rfl):=hv;have I1:Inv X pins O H { s with heap:=h',toks:=tk }:=I.turned (λb o hb e=>kk b o (by simpa using hb) e) f0 f1 f3 f4 f5;let(o,e,cc,d):=id st';exact#[_,U,w9 (s:={ s with heap:=h',toks:=tk }) e cc d hn #[.str #[#v[c]],H,I1,#[u,U],#[U,c,hcp,U],st',λb hb=>(hf b hb).1]]
 done:=by
  intro X hP hw hK hc i pins s O H E I hf st hg;subst hP hw hK;have hg:i=z.cps.size:=hg;subst hg;let(f0,f1,f2,f3,f4,f5):=hf it (by simp);exact (W X.A (I.ok.hd hc)).done s _ _ st λh' tk kk=>#[U,I.turned (t':=tk) (λb o hb e=>kk b o (by simpa using hb) e) f0 f1 f3 f4 f5]
 self:=λA i s Q E st h=>Qk A i s Q E st h
section
variable{X:Cx}{tg:Expr}
def RS(tl:TE):TI:=λO H R=>tl O H λx H1=>∃ z,x=.str z/\R (Tz z) H1
theorem Ln{l:Expr}{tl:TE}(hl:PE X l tl):PI X tg l (RS tl):=by
 intro pins s O H R I h;refine b9 (hl pins s O H _ I h) λv s1 zz=>el2 zz λx H1 I1 r1 q1=>?_;let(z,e,q):=q1;subst e;let(t,rfl):=r1;have fin:∀ (b:Addr),b∈[↑s1]->jw X pins H1 b:=λb hb=>by
  have e:b=↑s1:=by simpa using hb
  subst e;exact I1.vL (Ys _) (I1.aN.fresh (Ys _))
 cases ha:z.cps.all (·< 128)
 .exact wpAny_pyIter_wide ha #[↑s1,[↑s1],_,_,H1,U,I1.kept (t':=s1.toks) λb o e=>Yq _ e,
   vU (by decide) (λA' hA=>Walks.strWide hA _ z t) (λA i s Q E st h=>wpAny_pyIter_striter_wide st h),#[_,YD _ U,U,U],fin,q]
 .exact wpAny_pyIter_ascii ha #[↑s1,[↑s1],_,_,H1,U,I1.kept (t':=s1.toks) λb o e=>Yq _ e,
   vU (by decide) (λA' hA=>Walks.strAscii hA _ z t) (λA i s Q E st h=>wpAny_pyIter_striter_ascii st h),#[_,YD _ U,U,U],fin,q]
end
section
variable{X:Cx}
theorem range_all(bs:List Bool):((List.range bs.length).all λi=>bs.getD i false)=bs.all id:=by
 rw[ZF,Y2,Y2];constructor
 .intro h b hb;let(i,hi,rfl):=List.getElem_of_mem hb;have:=h i (List.mem_range.mpr hi);simpa [List.getD_eq_getElem?_getD,hi] using this
 .intro h i hi;have zt:=List.mem_range.mp hi;have:=h bs[i] (List.getElem_mem zt);simpa [List.getD_eq_getElem?_getD,zt] using this
theorem gB(hc:X.calm=true):fH X (.builtin "all") (λxs H Q=>∃ (p:Addr) (bs:List Bool),xs=[.ref p]/\cn X.K H p (bs.map V.bl)/\Q (.bl (bs.all id)) H):=by
 intro pins s O H xs us Q I r h;let(p,bs,rfl,hq,q):=h;let(u,rfl,rx):=vals1 r;cases rx;let(its,rv,pl,hz):=I.list hq;have hp:p < ↑s:=by let(o,_,e,_):=pl;exact YC e
 have hlen:its.toArray.size=bs.length:=by rw[YH,<- rv.length,Yk]
 refine call_all_walk (wpAny_pyIter_list pl.isList ?_);refine#[↑s,_,_,_,_,_,λi=>bs.getD i false,U,Walks.list (A:=X.A.in1) (I.ok.hd hc) ↑s p (YJ hp) its.toArray,#[#[_,YD _ U,U,U],pl.isList.push _],?_,?_]
 .intro i v s' Q' E' hv hq';have hv':its[i]?=some v:=by simpa using hv
  have hi:i < bs.length:=by
   have:=(Yu.mp hv').1;rw[YH] at hlen;cbv
  let(u,hu,ru):=rv.get (i:=i) (x:=V.bl bs[i]) (by simp[hi]);rw[hv'] at hu;cases hu;cases (show v=Value.bool bs[i] from ru);have e:bs.getD i false=bs[i]:=by simp[List.getD_eq_getElem?_getD,hi]
  have hq'':Q' (bs.getD i false) s':=hq';rw[e] at hq'';exact wpAny_truthy_bool hq''
 .intro h' tk kp;have I':Inv X pins O H { s with heap:=h',toks:=tk }:=I.kept (t':=tk) λb o e=>kp b o (by simpa using Nat.ne_of_lt (Heap.lt_size e)) (Heap.get?_push_of_some _ e);refine#[.bl (bs.all id),H,I',?_,q];show Value.bool _=Value.bool _;rw[hlen,range_all]
def xN(K:Frag)(te:TE):TE:=λO H Q=>te O H λx H1=>∃ a xs,x=.ref a/\cn K H1 a xs/\∀ l,H1 l=none->Q (.ref l) (upd H1 l (.lst xs.reverse))
theorem BD{items acc:Array Value}(h:ItemsOf (λi v=>items[items.size - 1 - i]?=some v) acc items.size):acc.toList=items.toList.reverse:=by
 let(h1,h2):=h;apply List.ext_getElem?;intro i;by_cases hi:i < items.size
 .have zt:i < acc.size:=by cbv
  have e:acc[i]?=some acc[i]:=by simp[zt]
  have:=h2 i _ e;rw[List.getElem?_reverse (by simpa using hi)];rw[ZM,e,ZV,ZM];rw[<- this]
 .rw[List.getElem?_eq_none (by simpa using (by cbv:acc.size<=i)),List.getElem?_eq_none (by simpa using (by cbv:items.size<=i))]
theorem yz{e:Expr}{te:TE}{p p2 pos E7:Pos}(hc:X.calm=true)(Xm:Gl X "list")(WR:X.mg "list"=none)(Xk:Gl X "reversed")(Xg:X.mg "reversed"=none)(he:PE X e te)(hs:starEach [.Call (.Name "reversed" p2) [e] [] E7] X.env=[(false,eval (.Call (.Name "reversed" p2) [e] [] E7) X.env)]:=by rfl)(BJ:starEach [e] X.env=[(false,eval e X.env)]:=by rfl) :
  PE X (.Call (.Name "list" p) [.Call (.Name "reversed" p2) [e] [] E7] [] pos) (xN X.K te):=by
 intro pins s O H Q I h;refine wpAny_Call_Name_kw (j6 I Xm WR PyProof.Rows.boot_list ?_ (by decide) (by decide));refine PyProof.Rows.callWith_type1 ?_ hs U;rw[hs];show wpAny _ _ (spliced ((false,eval (.Call (.Name "reversed" p2) [e] [] E7) X.env)::backTo pos [])) _ _ s;refine Calls.spliced_cons ?_;refine wpAny_Call_Name_kw (j6 I Xk Xg PyProof.Rows.boot_reversed ?_ (by decide) (by decide));refine PyProof.Rows.callWith_type1 ?_ BJ U;rw[BJ];show wpAny _ _ (spliced ((false,eval e X.env)::backTo E7 [])) _ _ s;refine Calls.spliced_cons (b9 (he pins s O H _ I h) λu s1 z3q=>?_);let(x,H1,I1,r1,a,xs,ex,hq,q):=z3q;subst ex;cases r1;refine Calls.spliced_nil ?_;let(its,rv,pl,hz):=I1.list hq;have hp:a < ↑s1:=by let(o,_,e,_):=pl;exact YC e
 have hlen:=rv.length;refine call_reversed_list pl.isList ?_;refine Calls.spliced_nil ?_;have I2:Inv X pins O H1 { s1 with heap:=s1.heap.push (revObj a ((its.toArray.size:Int) - 1)) }:=I1.kept (t':=s1.toks) λb o e=>Yq _ e;refine o9 (I.ok.hd hc) (items:=its.toArray) (YJ hp) #[_,YD _ U,U,U] (pl.isList.push _) (λh' tk acc' c' kp e hacc=>?_) (by rw[YH];cbv);have e2:=BD hacc;have F:jw X pins H1 ↑s1:=I1.vL (Ys _) (I1.aN.fresh (Ys _));let(f0,f1,f2,f3,f4,f5):=F;have hk:∀ b o,s1.heap.get? b=some o->h'.get? b=some o:=λb o eb=>kp b o (YJ (YC eb)) (Yq _ eb);refine#[.ref _,_,I1.laid (t':=tk) (h':=h') (o:=.lst xs.reverse) hk (by rw[Zf];exact Nat.le_succ _) ?_,U,q _ (I1.aN.fresh (by rw[Zf];exact Nat.le_succ _))];refine#[by rw[List.length_reverse];exact hz,acc'.toList,c',?_,by simpa using e];rw[e2];simpa using rv.reverse
theorem yx{ys:List Str}:∀ {us:List Value},Vals (ys.map V.str) us->StrsAre us ys:=by
 induction ys with
 | nil=>intro us r;rw[Y9] at r;cases r;exact .nil
 | cons n ns ih =>
  intro us r;rw[Yp] at r;cases r with
  | cons r1 r2 =>
   let(t,e):=r1;subst e;exact .cons n t (ih r2)
def rJoin(K:Frag):V->List V->Hp->VK->Prop:=λx vs H Q=>∃ (z:Str) (p:Addr) (zs:List Str),x=.str z/\vs=[.ref p]/\cn K H p (zs.map V.str)/\(zs.map (·.length)).sum+zs.length * z.length<=16777216/\Q (.str (Txt.join z zs)) H
theorem Fj:JZ X "str.join" (rJoin X.K):=by
 intro pins s O H x vs v us Q I rx rv h;let(z,p,zs,rfl,rfl,hq,hz,q):=h;let(t,rfl):=rx;let(u,rfl,ru):=rv.one;cases ru;let(its,r,pl,_):=I.list hq;exact PyProof.Rows.join_list pl.isList (by simpa using yx r) hz λt' k=>#[.str _,H,I.tok k,#[t',U],q]
def Ry:V->Option Int->Option Int->Hp->VK->Prop:=λx lo hi H Q=>∃ z,x=.str z/\z.length<=sizeLine/\Q (.str (Txt.slice z lo hi)) H
theorem Em:MM X Ry:=by
 intro pins s O H x v vl vu lo hi sl Q I rx hs pl pu h;let(z,rfl,hz,q):=h;let(t,rfl):=rx;refine#["str",_,F.slot_str_getitem.lookup,typeIs_str _ _ _,?_];have fin:∀ t' k,EP X pins O Q (.str (Txt.slice z lo hi) t') { s with toks:=k }:=λt' k=>#[.str _,H,I.tok k,#[t',U],q];cases pl with
 | none =>
  cases pu with
  | none=>exact wpAny_getItem_str_slice (l:=none) (u:=none) (st:=none) hs U (post_val_or_str #[Yw (Txt.slice_le z _ _) hz,fin])
  | int j uj=>exact wpAny_getItem_str_slice (l:=none) (u:=some (j,uj)) (st:=none) hs U (post_val_or_str #[Yw (Txt.slice_le z _ _) hz,fin])
 | int i ui =>
  cases pu with
  | none=>exact wpAny_getItem_str_slice (l:=some (i,ui)) (u:=none) (st:=none) hs U (post_val_or_str #[Yw (Txt.slice_le z _ _) hz,fin])
  | int j uj=>exact wpAny_getItem_str_slice (l:=some (i,ui)) (u:=some (j,uj)) (st:=none) hs U (post_val_or_str #[Yw (Txt.slice_le z _ _) hz,fin])
theorem qP:iT X (binaryOp .Mult) (λx y H Q=>∃ z n,x=.str z/\y=.int n/\MulOk z n/\Q (.str (Txt.mul z n)) H):=by
 intro pins s O H x y v u Q I rx ry h;let(z,n,rfl,rfl,ok,q):=h;let(t,rfl):=rx;let(t',rfl):=ry;exact SB.mul ok λt' k=>#[.str _,H,I.tok k,#[t',U],q]
theorem tu:iT X (compareOp .LtE) (λx y H Q=>∃ i j,x=.str i/\y=.str j/\Q (.bl (!decide (j.cps.toList < i.cps.toList))) H):=by
 intro pins s O H x y v u Q I rx ry h;let(i,j,rfl,rfl,q):=h;let(t,rfl):=rx;let(t',rfl):=ry;exact PySem.P.le_str #[.bl _,H,I,U,q]
def JK(K:Frag)(te:TE):TE:=λO H Q=>te O H λx H1=>∃ a xs,x=.ref a/\cn K H1 a xs/\∀ l,H1 l=none->Q (.ref l) (upd H1 l (.lst xs.reverse))
theorem BU{e st:Expr}{te:TE}{p2 pos:Pos}(he:PE X e te)(kX:PE X st (tC (.int (-1)))):PE X (.Subscript e (.Slice none none (some st) p2) pos) (JK X.K te):=by
 intro pins s O H Q I h;refine Subscript_ (b9 (he pins s O H _ I h) λv s1 #[x,H1,I1,r1,a,xs,ex,hq,q]=>?_);subst ex;cases r1;refine wpAny_Slice ?_;rw[evalPart_none];refine wpAny_pure ?_;refine wpAny_pure ?_;rw[evalPart_some];refine b9 (kX pins s1 O H1 (λx H'=>x=.int (-1)/\H'=H1) I1 #[U,U]) λu s2 #[x,H2,I2,r2,ex,eH]=>?_;subst ex eH;let(t,rfl):=r2;let(its,r,ht,hz):=I2.list hq;have hlen:=r.length;have I3:Inv X pins O H2 { s2 with heap:=s2.heap.push { cls:=.type "slice",data:=.fields #v[.none,.none,.int (-1) t] } }:=I2.kept (t':=s2.toks) λb ob q=>Yq _ q;show wpAny (model X.prog X.w) X.A (subscriptTail e (.Slice none none (some st) p2) (.ref a) (.ref ↑s2)) (EP X pins O Q) X.xe { s2 with heap:=s2.heap.push { cls:=.type "slice",data:=.fields #v[.none,.none,.int (-1) t] } };refine tail_any (ops:=[.ref a,.ref ↑s2]) (ht.isList.push _).typeIs slot_list_getitem.lookup ?_ (by with_unfolding_all rfl);refine wpAny_getItem_list_slice (ht.isList.push _) (Heap.IsSliceOf.new ..) .none .none (.int (-1) t) (by decide) ?_ (by rw[YH];cbv);rw[PySem.W.krv_pick];refine#[.ref _,_,I3.laid (t':=s2.toks) (o:=.lst xs.reverse) (λb ob q=>Yq _ q) (Ys _) ?_,U,q _ (I3.aN.fresh (Ys _))];exact#[by rw[List.length_reverse];exact hz,_,0,by simpa using r.reverse,Heap.get?_push_size _ U]
end
theorem Ni{H:Hp}{a:Addr}{o u:HO}:upd (upd H a o) a u=upd H a u:=Hm
theorem vC{nt:Nat}{us:List Nat}{O:St}{te:TE}{z:Str}{H1:Hp}{Q:VK}(f:Nat->V)(hz:z.cps.size<=sizeLine)(Rh:0 < nt)(he:∀ c∈z.cps.toList,∀ (H:Hp) (k:VK),k (f c) H->te ((lift nt us O).set 0 (some (.str #[#v[c]]))) H k)(hQ:∀ D,H1 D=none->Q (.ref D) (upd H1 D (.lst (z.cps.toList.map f)))):uZ nt us O (eC 0) Dm te (Tz z) H1 Q:=by
 intro D hD;refine#[λi m ys H2=>i<=z.cps.size/\m=z.cps.size - i/\ys=(z.cps.toList.take i).map f/\H2=upd H1 D (.lst ys),#[z.cps.size,Nat.zero_le _,by simp,by simp,U],?_];rintro i m ys H2 ⟨hi,rfl,rfl,rfl⟩;refine#[au,?_];by_cases kR:i < z.cps.size
 .refine .inr #[kR,?_,?_]
  .rw[Yk,Zn,ZV];cbv
  .rintro x H3 ⟨rfl,c,hc,rfl⟩;refine#[xw Rh,?_];show te _ _ _;have hc':z.cps.toList[i]?=some c:=by simpa using hc
   refine he c (Y4 hc') _ _ #[au,z.cps.size - (i+1),by cbv,kR,U,?_,Ni];rw[Zz,hc',Yr]
   rfl
 .have e:i=z.cps.size:=by cbv
  subst e;refine .inl #[U,?_];have:=hQ D hD;rw[List.take_of_length_le (by simp)];exact this
theorem lp{K:Frag}{nt:Nat}{us:List Nat}{O:St}{ti:TT}{te:TE}{a:Addr}{xs:List V}{H1:Hp}{Q:VK}(p:V->Bool)(f:V->V)(hx:cn K H1 a xs)(hz:xs.length<=sizeLine)(Rh:0 < nt)(hp:∀ x∈xs,∀ (H:Hp) (k:Bool->Hp->Prop),k (p x) H->ti ((lift nt us O).set 0 (some x)) H k)(he:∀ x∈xs,p x=true->∀ (H:Hp) (k:VK),k (f x) H->te ((lift nt us O).set 0 (some x)) H k)(hQ:∀ D,H1 D=none->Q (.ref D) (upd H1 D (.lst ((xs.filter p).map f)))):uZ nt us O (eC 0) ti te (Lo K a) H1 Q:=by
 intro D hD;have hS:∀ ys,cn K (upd H1 D (.lst ys)) a xs:=λys=>dS.seq (λb o e=>by rw[aq (av e hD)];exact e) hx;refine#[λi m ys H2=>i<=xs.length/\m=xs.length - i/\ys=((xs.take i).filter p).map f/\H2=upd H1 D (.lst ys),#[xs.length,Nat.zero_le _,by simp,by simp,U],?_];rintro i m ys H2 ⟨hi,rfl,rfl,rfl⟩;refine#[au,?_];by_cases kR:i < xs.length
 .refine .inr #[#[xs,xs[i],hS _,by simp[kR]],?_,?_]
  .rw[Yk];have h1:=ZN p (xs.take i);rw[Zn] at h1;cbv
  .rintro x H3 ⟨rfl,hy⟩;have hc':xs[i]?=some x:=hy xs (hS _);have hm:=Y4 hc';refine#[xw Rh,hp x hm _ _ ?_];cases e:p x with
   | true =>
    rw[if_pos U];refine he x hm e _ _ #[au,xs.length - (i+1),by cbv,kR,U,?_,Ni];rw[Zz,hc',Z2,Yr];simp[e]
   | false =>
    rw[if_neg Yy];refine#[xs.length - (i+1),by cbv,kR,U,?_,U];rw[Zz,hc',Z2,Yr];simp[e]
 .have e:i=xs.length:=by cbv
  subst e;refine .inl #[#[xs,hS _,Ys _],?_];have:=hQ D hD;rw[List.take_of_length_le (Ys _)];exact this
theorem dS.upd{H:Hp}{a:Addr}{o:HO}(h:H a=none):dS H (upd H a o):=λb u e=>by rw[aq (av e h)];exact e
theorem dS.ME{H H':Hp}{a:Addr}{o:HO}(s:dS H H')(h:H a=none):dS H (L2.upd H' a o):=λb u e=>by rw[aq (av e h)];exact s b u e
section
variable{X:Cx}
theorem b6{j p pos}:PE X (.UnaryOp .USub (.Constant (.int 1) j p) pos) (tC (.int (-1))):=λpins s O H Q I h=>IA EV aR pins s O H Q I #[1,U,h]
def Ah:List Expr->List Str
 | []=>[]
 | .Constant (.str x) _ _::r=>x::Ah r
 | _=>[]
def vI:List Expr->Bool
 | []=>true
 | .Constant (.str _) _ _::r=>vI r
 | _=>false
def Ny(zs:List Str):TA:=λ_ H Q=>Q (zs.map V.str) H
theorem Aq:∀ {es:List Expr},vI es=true->PA X es (Ny (Ah es))
 | [],h=>aK
 | e::r,h=>by
  cases e with
  | Constant c j pos =>
   cases c with
   | str x=>exact az b8 (Aq (es:=r) h)
   | _=>cases h
  | _=>cases h
def CY:Stmt->List Expr
 | .Assign _ (.List es _) _=>es
 | .Assign _ (.BinOp _ _ (.List es _) _) _=>es
 | _=>[]
def rep1:Stmt->List Expr->Stmt
 | .Assign t (.List _ p) q,es=>.Assign t (.List es p) q
 | .Assign t (.BinOp a o (.List _ p) r) q,es=>.Assign t (.BinOp a o (.List es p) r) q
 | s,_=>s
def Bq:Stmt:=.Pass #[0,0,0,0]
def MK(b:List Stmt)(i:Nat)(es:List Expr):List Stmt:=b.set i (rep1 (b.getD i Bq) es)
end
end L2
namespace PySem
open Sem (wp)
section
variable{prog:Program}{w:World}{A:Around}{E:aat}{h:Heap}{g:Array GenState}{d:Drawn}{t:Nat}{os:OsState}
variable{nm q:Str}{C N:Addr}{bs bm Yc:List Value}{XJ:Bool}{sn:List Str}{sub:List Value}{ab:Bool}{col:Option Bool}{dd:Option Addr}{k0 k1 k2 k3 k5:Option Value}{B Bn newId Yh UB Yd:String}{Ye:List Value}
end
section
variable{M:Model}{A:Around}{E:aat}{s:Shared}
end
end PySem
namespace L2
open PySem PySem.Spec PyProof.Rows
section
variable{P:Program}{w:World}{H:Hp}{h:Heap}{ea C d:Addr}{dd:Option Addr}{fr:Bool}{fs:List (Str×V)}
end
section
variable{X:Cx}{pins:aau}{O:St}{H:Hp}{s:Shared}{C f:Addr}{k:Nat}{fd:FuncData}{ps:List Str}{sp:Sp}{x:Str}{p pos:Pos}{e:Expr}{es:List Expr}{t:TA}
end
section
variable{X:Cx}{pins:aau}{O:St}{H:Hp}{s:Shared}{ea C d:Addr}{dd:Option Addr}{fr:Bool}{fs:List (Str×V)}{f:Str}{v:V}{A:Around}{E:aat}
end
section
variable{K:Frag}
end
section
variable{X:Cx}{pins:aau}{O:St}{H:Hp}{s:Shared}{ea C d:Addr}{dd:Option Addr}{fr:Bool}{fs:List (Str×V)}{f:Str}{v:V}{A:Around}{E:aat}
end
section
variable{X:Cx}{pins:aau}{O:St}{H:Hp}{s:Shared}{ea C T:Addr}{dd:Option Addr}{fr:Bool}{A:Around}{E:aat}{h':Heap}
end
section
variable{X:Cx}{pins:aau}{O:St}{H:Hp}{s s':Shared}{ea C T:Addr}{dd:Option Addr}{E:XK}{e:Value}
end
section
variable{P:Program}{w:World}{K:Frag}{mg:Str->Option Value}{base:Heap}{N:List Str}{qual:Str}{scope:Scope}{f:Addr}{cd:Value}{A:Around}{outer:List Env}{s:Shared}{H:Hp}{E E':XK}
end
section
variable{X:Cx}{pins:aau}{O:St}{H:Hp}{s:Shared}{ea C:Addr}{dd:Option Addr}{fr:Bool}
end
section
variable{X:Cx}{pins:aau}{O:St}{H:Hp}{s:Shared}{ev:Value}
end
section
variable{P:Program}{w:World}{K:Frag}{mg:Str->Option Value}{base:Heap}
end
section
variable{X:Cx}
def IE(i j:Int):Prop:=0 < j/\j < 9223372036854775808
theorem vV:iT X (binaryOp .FloorDiv) (rI IE λi j=>.int (i / j)):=QL λi j _ _ _ _ _ hc q=>by
 have h1:(0:Int) < j:=hc.1;have h2:j < 9223372036854775808:=hc.2;refine floordiv_int (by cbv) (by rw[Int.fdiv_eq_ediv_of_nonneg i (by cbv)];exact q) (.inl (PyProof.noPylong_of_log2 ?_));have h3:j.natAbs < 2 ^ 63:=by
  have:(2:Nat) ^ 63=9223372036854775808:=by decide
  cbv
 have h4:j.natAbs.log2 < 63:=(Nat.log2_lt (by cbv)).mpr h3;cbv
end
end L2
namespace cV
open PySem L2
abbrev kS:Key:=Sum.inr "seed"
abbrev kN:Key:=Sum.inr "number"
abbrev kL:Key:=Sum.inr "left"
theorem sn:¬ kS=kN:=by decide+kernel
theorem sl:¬ kS=kL:=by decide+kernel
theorem nl:¬ kN=kL:=by decide+kernel
def cW(a b:Int)(l:Addr):List (Key×V):=[(kS,.int a),(kN,.int b),(kL,.ref l)]
theorem DB(a b:Int)(l:Addr):iN (cW a b l) (kS)=some (.int a):=gC U
theorem zl(a b:Int)(l:Addr):iN (cW a b l) (kN)=some (.int b):=by
 unfold cW;rw[eD sn];exact gC U
theorem Dy(a b:Int)(l:Addr):iN (cW a b l) (kL)=some (.ref l):=by
 unfold cW;rw[eD sl,eD nl];exact gC U
theorem Cp(a b c:Int)(l:Addr):putK (cW a b l) (kS) (.int c)=cW c b l:=by
 unfold cW putK;simp only[List.any_cons,List.any_nil,List.map_cons,List.map_nil,decide_true,Bool.true_or,if_true,if_neg (Ne.symm sn),if_neg (Ne.symm sl)]
theorem yd(a b c:Int)(l:Addr):putK (cW a b l) (kN) (.int c)=cW a c l:=by
 unfold cW putK;simp only[List.any_cons,List.any_nil,List.map_cons,List.map_nil,decide_true,Bool.true_or,Bool.or_true,if_true,if_neg sn,if_neg (Ne.symm nl)]
theorem Kz(a b:Int)(l:Addr):lA [] (cW a b l)=cW a b l:=by
 have e1:putK [] kS (V.int a)=[(kS,V.int a)]:=rK _ qv;have e2:putK [(kS,V.int a)] kN (V.int b)=[(kS,V.int a),(kN,V.int b)]:=rK _ (by rw[eD sn];exact qv);have e3:putK [(kS,V.int a),(kN,V.int b)] kL (V.ref l)=[(kS,V.int a),(kN,V.int b),(kL,V.ref l)]:=rK _ (by rw[eD sl,eD nl];exact qv);unfold lA cW;simp only[List.foldl_cons,List.foldl_nil];rw[e1,e2,e3]
section
variable{H:Hp}{d l:Addr}{a b:Int}
theorem qk(h:H d=some (.dK (cW a b l))):jd H d (.str "seed") (some (.int a)):=by
 have q:=jd.k (k:=kS) h;rw[DB] at q;exact q
theorem qX(h:H d=some (.dK (cW a b l))):jd H d (.str "number") (some (.int b)):=by
 have q:=jd.k (k:=kN) h;rw[zl] at q;exact q
theorem wH(h:H d=some (.dK (cW a b l))):jd H d (.str "left") (some (.ref l)):=by
 have q:=jd.k (k:=kL) h;rw[Dy] at q;exact q
theorem Ba{c:Int}(h:H d=some (.dK (cW a b l))):nV H d (.str "seed") (.int c) (upd H d (.dK (cW c b l))):=by
 have q:=nV.k (k:=kS) (v:=.int c) h (by show 3 < sizeLine;decide);rw[Cp] at q;exact q
theorem oI{c:Int}(h:H d=some (.dK (cW a b l))):nV H d (.str "number") (.int c) (upd H d (.dK (cW a c l))):=by
 have q:=nV.k (k:=kN) (v:=.int c) h (by show 3 < sizeLine;decide);rw[yd] at q;exact q
end
structure At(H:Hp)(d l:Addr):Prop where
 ex:∃ (a b:Int) (ns:List Int),H d=some (.dK (cW a b l))/\H l=some (.lst (ns.map V.int))/\0<=a/\a < 2147483647/\0<=b/\∀ n∈ns,0<=n
def LY(d l:Addr)(H H':Hp):Prop:=∀ c o,H c=some o->c≠d->c≠l->H' c=some o
theorem LY.refl(d l:Addr)(H:Hp):LY d l H H:=λ_ _ h _ _=>h
theorem At.ne{H:Hp}{d l:Addr}(h:At H d l):d≠l:=by
 let(a,b,ns,h1,h2,r):=h.ex;exact Ie h1 h2 (by intro z;cases z)
def yS:Sp:=λvs H Q _=>∃ (d l:Addr) (m:Int),vs=[.ref d,.int m]/\At H d l/\0 < m/\m < 9223372036854775808/\∀ (r:Int) (H':Hp),0<=r->r < m->At H' d l->LY d l H H'->Q (.int r) H'
def yt(K:Frag):Sp:=λvs H Q _=>∃ (a:Addr) (ns:List Int) (base:Int),vs=[.ref a,.int base]/\cn K H a (ns.map V.int)/\ns.length<=63/\0<=base/\base < 1000000/\∀ (d l:Addr) (H':Hp),H d=none->H l=none->At H' d l->dS H H'->Q (.ref d) H'
section
variable{P:Program}{w:World}{K:Frag}{mg:Str->Option Value}{base:Heap}
abbrev nD:List Str:=["_law_deal_here","_law_many","_law_number","_law_one","_law_other"]
def wb:TS :=
 pF (kQ (oK (bz 0) (tC (.str "number"))) (eC 2))
  (pF (Gq (rF (jh (vo λi j=>.bl (decide (j < i))) (bz 2) (tC (.int 0))))
    (pF (wm (bz 0) (tC (.str "number")) (jh (rI IE λi j=>.int (i / j)) (bz 2) (bz 1))) (Ho (jh (rI (λ_ j=>0 < j) λi j=>.int (i % j)) (bz 2) (bz 1)))) HL)
  (pF (kQ (jh (rI (λ_ j=>0 < j) λi j=>.int (i % j)) (jh (vo λi j=>.int (i+j)) (jh (rI uF λi j=>.int (i * j)) (oK (bz 0) (tC (.str "seed"))) (tC (.int 48271))) (tC (.int 7919))) (tC (.int 2147483647))) (eC 3))
  (pF (wm (bz 0) (tC (.str "seed")) (jh (rI (λ_ j=>0 < j) λi j=>.int (i % j)) (jh (vo λi j=>.int (i+j)) (jh (rI uF λi j=>.int (i * j)) (bz 3) (tC (.int 40692))) (tC (.int 104729))) (tC (.int 2147483399))))
  (pF (kQ (jh (rI (λ_ j=>0 < j) λi j=>.int (i % j)) (jh (rI uF λi j=>.int (i * j)) (oK (bz 0) (tC (.str "seed"))) (oK (bz 0) (tC (.str "seed")))) (tC (.int 2147483563))) (eC 4))
  (Ho (jh (rI (λ_ j=>0 < j) λi j=>.int (i % j)) (jh (vo λi j=>.int (i+j)) (jh (rI uF λi j=>.int (i * j)) (jh (rI (λ_ j=>0 < j) λi j=>.int (i % j)) (jh (rI uF λi j=>.int (i * j)) (bz 3) (bz 3)) (tC (.int 2147483629))) (tC (.int 2147483563))) (bz 4)) (bz 1)))))))
def Ma(K:Frag):TS :=
 pF (B8 (OD (rF (jh R4 (oK (bz 0) (tC (.str "number"))) (tC (.int 0)))) (rF (jh (vo λi j=>.bl (decide (j < i))) (FP (λxs H Q=>∃ p ys,xs=[.ref p]/\(cn K H p ys\/gZ K H p ys)/\Q (.int ys.length) H) (gH (oK (bz 0) (tC (.str "left"))) sI)) (tC (.int 0)))))
  (wm (bz 0) (tC (.str "number")) (IZ K "list" JU (oK (bz 0) (tC (.str "left")))))) wb
theorem Hk{st:Stmt}{f:Addr}{fd:FuncData}(F:vk K "_law_draw" "_law_draw" st f fd)(sc:ao nD ["_law_deal_here","_law_many"] (ag st))(hb:∀ (a9:Value) (A:Around) (outer:List Env) (s:Shared) (H:Hp) (E:XK),(A.deeper (PyProof.Rows.envOfC "_law_draw" (ag st) ↑s f a9)).units+1 < cLine ->
   rg (m9 aD P w K mg base nD "_law_draw" (ag st) f a9 A outer s H E).Ai (aS st) (Ma K)) :
  bV P w K mg base aD 1 f fd ["_law_deal_here","_law_many"] yS:=by
 refine F.ok sc (λvs H Q E h=>?_) (λa9 A outer s H vs Q E hr h=>?_)
 .let(d,l,m,rfl,_):=h
  rfl
 .let(d,l,m,rfl,D,hm,hm2,k):=h;refine#[_,hb _ _ _ _ _ _ (sY hr),?_];let(a0,b0,ns0,hd0,hl0,ha0,ha0',hb0,hns0):=D.ex;have ndl:d≠l:=D.ne
  -- while
  refine#[λμ O H1=>∃ (b:Int) (ns:List Int),O=[some (.ref d),some (.int m),none,none,none]/\H1 d=some (.dK (cW a0 b l))/\H1 l=some (.lst (ns.map V.int))/\0<=b/\(∀ n∈ns,0<=n)/\LY d l H H1/\μ=ns.length,
   #[ns0.length,b0,ns0,U,hd0,hl0,hb0,hns0,LY.refl _ _ _,U],?_]
  rintro μ O H1 ⟨b,ns,rfl,hd,hl,hb,Cd,bt,rfl⟩
  -- behind the loop
  have rest:wb
    { nx:=λ_ H'=>Q .cw H',rt:=Q } [some (.ref d),some (.int m),none,none,none] H1:=by
   refine#[_,U,d,_,U,qX hd,?_];refine#[_,U,_,_,U,U,_,U,m4 (λhpos=>?_) (λhpos=>?_)]
   .have hpos:0 < b:=of_decide_eq_true hpos;refine#[_,U,_,U,_,_,U,U,#[hm,hm2],_,U,d,_,U,oI hd,?_];refine#[_,U,_,U,_,_,U,U,hm,?_];refine k (b % m) _ (Zv _ (by cbv)) (Zr _ hm) #[a0,b / m,ns,au,by rw[aq (Ne.symm ndl)];exact hl,ha0,ha0',Int.ediv_nonneg hb (by cbv),Cd] λc o e h1 h2=>?_;rw[aq h1];exact bt c o e h1 h2
   .refine#[_,U,d,_,U,qk hd,_,_,U,U,.inr #[by decide,by decide],_,_,U,U,_,_,U,U,(by show (0:Int) < 2147483647;decide),?_];have h1:0<=(a0 * 48271+7919) % 2147483647:=Zv _ (by decide);have h2:(a0 * 48271+7919) % 2147483647 < 2147483647:=Zr _ (by decide);refine#[_,U,_,_,U,U,.inr #[by decide,by decide],_,_,U,U,_,_,U,U,(by show (0:Int) < 2147483399;decide),_,U,d,_,U,Ba hd,?_];have h3:0<=((a0 * 48271+7919) % 2147483647 * 40692+104729) % 2147483399:=Zv _ (by decide);have h4:((a0 * 48271+7919) % 2147483647 * 40692+104729) % 2147483399 < 2147483399:=Zr _ (by decide);refine#[_,U,d,_,U,qk au,_,U,d,_,U,qk au,_,_,U,U,.inl #[by cbv,by cbv],_,_,U,U,(by show (0:Int) < 2147483563;decide),?_];refine#[_,U,_,U,_,_,U,U,.inl #[by cbv,by cbv],_,_,U,U,(by show (0:Int) < 2147483629;decide),_,_,U,U,.inr #[by decide,by decide],_,U,_,_,U,U,_,U,_,_,U,U,hm,?_];refine k _ _ (Zv _ (by cbv)) (Zr _ hm) #[_,b,ns,au,by rw[aq (Ne.symm ndl)];exact hl,h3,by cbv,hb,Cd] λc o e h1 h2=>?_;rw[aq h1];exact bt c o e h1 h2
  refine#[_,U,d,_,U,qX hd,U,_,U,?_];refine m4 (λh0=>?_) (λh0=>?_)
  .refine#[_,U,d,_,U,wH hd,l,_,U,.inl (cn.of hl),_,_,U,U,_,U,?_];refine m4 (λh1=>?_) (λh1=>?_)
   .have h1:(0:Int) < ((ns.map V.int).length:Int):=of_decide_eq_true h1;rw[Yk] at h1;obtain⟨init,x,rfl⟩:∃ init x,ns=init++[x]:=by
     rcases aan ns with e | ⟨i,x,e⟩
     .subst e;simp at h1
     .exact#[i,x,by simpa using e]
    refine#[λO' H'=>∃ (b:Int) (ns:List Int),O'=[some (.ref d),some (.int m),none,none,none]/\H' d=some (.dK (cW a0 b l))/\H' l=some (.lst (ns.map V.int))/\0<=b/\(∀ n∈ns,0<=n)/\LY d l H H'/\ns.length < (init++[x]).length,?_,?_]
    .rintro O' H' ⟨b',ns',e1,e2,e3,e4,e5,e6,e7⟩;exact#[ns'.length,e7,b',ns',e1,e2,e3,e4,e5,e6,U]
    .refine#[_,U,d,_,U,wH hd,.inl #[U,_,cn.of hl],l,_,.int x,U,U,hl,by simp,?_];have hd':(upd H1 l (.lst ((init++[x]).map V.int).dropLast)) d=some (.dK (cW a0 b l)):=by rw[aq ndl];exact hd
     refine#[_,U,d,_,U,oI hd',?_];refine#[x,init,U,au,?_,Cd x (by simp),λn hn=>Cd n (by simp[hn]),λc o e h1 h2=>?_,by simp]
     .rw[aq (Ne.symm ndl),au,Yr,Yp,Y9,aaq]
     .rw[aq h1,aq h2];exact bt c o e h1 h2
   .exact rest
  .exact rest
abbrev nL:List Str:=["_law_script","_law_base","_law_some","_law_number","_law_one"]
def R5:List V->Hp->VK->Prop:=λxs H Q=>∃ i j,xs=[.int i,.int j]/\Q (.int (if j > i then j else i)) H
def N0(K:Frag):TS :=
 pF (kQ (xi 1 [] (Aj K (Vx (NP K) (bz 0) (C7 (bz 1)) (C7 (tC (.int 63))))) (eC 0) Dm (FP R5 (gH (bz 0) (gH (jh (vo λi j=>.int (i - j)) (tC (.int 0)) (bz 0)) sI)))) (eC 2))
 (pF (kQ (jh (vo λi j=>.int (i+j)) (tC (.int 7919)) (bz 1)) (eC 3))
 (pF (Mf (Aj K (bz 2)) (eC 4) (kQ (jh (rI (λ_ j=>0 < j) λi j=>.int (i % j)) (jh (vo λi j=>.int (i+j)) (jh (rI uF λi j=>.int (i * j)) (bz 3) (tC (.int 48271))) (jh (rI (λ_ j=>0 < j) λi j=>.int (i % j)) (bz 4) (tC (.int 2147483629)))) (tC (.int 2147483647))) (eC 3)))
 (Ho (Hy [(tC (.str "seed"),bz 3),(tC (.str "number"),tC (.int 0)),(tC (.str "left"),xN K (xi 1 [] (Aj K (bz 2)) (eC 0) (rF (jh (vo λi j=>.bl (decide (j<=i))) (bz 0) (jh (rI PY λi j=>.int (i ^ j.toNat)) (tC (.int 10)) (tC (.int 18))))) (bz 0)))]))))
theorem GK(ns:List Int)(lo hi:Option Int):∃ ms:List Int,nO (ns.map V.int) lo hi=ms.map V.int/\ms.length<=ns.length:=by
 refine#[(ns.drop (HT.cz ns.length 0 lo)).take (HT.cz ns.length ns.length hi - HT.cz ns.length 0 lo),?_,?_]
 .unfold nO;rw[Yk,<- List.map_drop,<- List.map_take]
 .rw[Zn,ZO];cbv
def pK(i:Int):Int:=if 0 - i > i then 0 - i else i
theorem GI(i:Int):0<=pK i:=by
 unfold pK;split<;>cbv
def HA:V->V
 | .int i=>.int (pK i)
 | v=>v
def Ju:V->Bool
 | .int i=>decide ((10:Int) ^ (18:Int).toNat<=i)
 | _=>false
theorem Ge{st:Stmt}{f:Addr}{fd:FuncData}(F:vk K "_law_deal" "_law_deal" st f fd)(sc:ao nL ["_law_script","_law_base"] (ag st))(hb:∀ (a9:Value) (A:Around) (outer:List Env) (s:Shared) (H:Hp) (E:XK),rg (m9 aD P w K mg base nL "_law_deal" (ag st) f a9 A outer s H E).Ai (aS st) (N0 K)) :
  bV P w K mg base aD 1 f fd ["_law_script","_law_base"] (yt K):=by
 refine F.ok sc (λvs H Q E h=>?_) (λa9 A outer s H vs Q E hr h=>?_)
 .let(a,ns,bs,rfl,_):=h
  rfl
 .let(a,ns,bs,rfl,hS,hn,hb0,hb1,k):=h;refine#[_,hb _ _ _ _ _ _,?_];let(ms,ems,hms):=GK ns (some bs) (some 63);refine#[_,U,_,U,_,U,_,U,a,_,U,hS,λp hp=>#[p,U,#[_,cn.of au],?_]];rw[ems];refine lp (xs:=ms.map V.int) (λ_=>true) HA (cn.of au) (by rw[Yk];exact Yw (Yw hms hn) (by decide)) (by decide) (λx hx H1 k1 q=>q) (λx hx _ H1 k1 q=>?_) (λD hD=>?_)
  .let(i,_,rfl):=YB.mp hx;exact#[_,U,_,U,_,_,U,U,_,_,U,q]
  .have hD0:H D=none:=(dS.upd hp).free hD;have e1:((ms.map V.int).filter λ_=>true).map HA=(ms.map pK).map V.int:=by
    rw[List.filter_eq_self.mpr (by simp),List.map_map,List.map_map]
    rfl
   rw[e1];have s1:dS H (upd (upd H p (.lst (ms.map V.int))) D (.lst ((ms.map pK).map V.int))):=(dS.upd hp).trans (dS.upd hD);generalize hH2:upd (upd H p (.lst (ms.map V.int))) D (.lst ((ms.map pK).map V.int))=H2 at s1;have hD2:H2 D=some (.lst ((ms.map pK).map V.int)):=by rw[<- hH2];exact au
   -- number=7919+base
   refine#[_,U,_,_,U,U,?_]
   -- for
   refine#[_,U,D,U,#[_,cn.of hD2],rH (K:=K) (a:=D) (xs:=(ms.map pK).map V.int) (λi O H3=>∃ (n:Int) (v:Option V),O=[some (.ref a),some (.int bs),some (.ref D),some (.int n),v]/\0<=n/\n < 2147483647/\H3=H2)
    #[7919+bs,none,U,by cbv,by cbv,U] (λi O H3 _ #[_,_,_,_,_,e]=>by rw[e];exact cn.of hD2) ?_ ?_]
   .rintro i y O H3 hi ⟨n,v,rfl,h0,h1,rfl⟩;let(j,_,rfl):=YB.mp (Y4 hi);refine#[_,U,_,_,U,U,.inr #[by decide,by decide],_,U,_,_,U,U,(by show (0:Int) < 2147483629;decide),_,_,U,U,_,_,U,U,(by show (0:Int) < 2147483647;decide),?_];exact#[_,_,U,Zv _ (by decide),Zr _ (by decide),U]
   .rintro O H3 ⟨n,v,rfl,h0,h1,rfl⟩
    -- the dict
    intro d hd;have hd0:H d=none:=s1.free hd;have hDd:(upd H3 d (.dK [])) D=some (.lst ((ms.map pK).map V.int)):=by rw[aq (av hD2 hd)];exact hD2
    refine#[_,U,_,U,D,U,#[_,cn.of hDd],?_];refine lp (xs:=(ms.map pK).map V.int) Ju id (cn.of hDd) (by rw[Yk,Yk];exact Yw (Yw hms hn) (by decide)) (by decide) (λx hx H1 k1 q=>?_) (λx hx _ H1 k1 q=>#[_,U,q]) (λD2 hD2'=>?_)
    .let(i,_,rfl):=YB.mp hx;exact#[_,U,_,_,U,U,#[by decide,by decide,by decide],_,_,U,U,_,U,q]
    .refine#[D2,_,U,cn.of au,λl hl=>?_];have ndD2:d≠D2:=av au hD2';have ndl:d≠l:=av (H:=upd (upd H3 d (.dK [])) D2 _) (by rw[aq ndD2];exact au) hl;refine#[by rw[aq ndl,aq ndD2];exact au,cW n 0 l,U,(by show 3<=15;decide),?_];rw[Kz];have hD20:H D2=none:=(s1.trans (dS.upd hd)).free hD2';have hl0:H l=none:=((s1.trans (dS.upd hd)).trans (dS.upd hD2')).free hl;have e3:∃ ks:List Int,((((ms.map pK).map V.int).filter Ju).map id).reverse=ks.map V.int/\∀ n∈ks,0<=n:=by
      refine#[((ms.map pK).filter λi=>Ju (.int i)).reverse,?_,?_]
      .rw[aae,List.filter_map,aai]
       rfl
      .intro n hn';let(i,_,rfl):=YB.mp (List.mem_filter.mp (List.mem_reverse.mp hn')).1;exact GI i
     let(ks,e3,hks):=e3;rw[e3];refine k d l _ hd0 hl0 #[n,0,ks,au,by rw[aq (Ne.symm ndl)];exact au,h0,h1,Int.le_refl _,hks] ?_;exact (((s1.trans (dS.upd hd)).trans (dS.upd hD2')).ME hl0).ME hd0
end
theorem j9(c:Nat):(#[#v[c]]:Str).length=1:=rfl
theorem cL(x y:Str):(x++y).length=x.length+y.length:=by
 first
  | exact Y8 x y
  | (show (x.cps++y.cps).size=x.cps.size+y.cps.size;exact Array.size_append)
theorem join_ones:∀ (cs:List Nat),(Txt.join ("":Str) (cs.map λc=>(#[#v[c]]:Str))).length<=cs.length
 | []=>Ys _
 | [c]=>Ys _
 | c::d::r=>by
  have ih:=join_ones (d::r);have e:(Txt.join ("":Str) ((c::d::r).map λc=>(#[#v[c]]:Str)))=(#[#v[c]]:Str)++("":Str)++Txt.join ("":Str) ((d::r).map λc=>(#[#v[c]]:Str)):=by
   unfold Txt.join;rw[Zs,Zs]
   rfl
  rw[e,cL,cL];have:("":Str).length=0:=rfl;rw[j9];show _<=(d::r).length+1;cbv
theorem wu:∀ (cs:List Nat),((cs.map λc=>(#[#v[c]]:Str)).map (·.length)).sum=cs.length
 | []=>rfl
 | c::r=>by
  rw[Yp,Yp,Zi,wu r,Yv];have:(#[#v[c]]:Str).length=1:=rfl;cbv
abbrev Nr:Str:="abcdefghijklmnopqrstuvwxyz"
def near:List Str:=["lets","asks","maker","tabs","too","news","zeros","casey","madex","defa","num","askedx"]
end cV
namespace DL
open PySem PySem.Spec L2
open PyProof.Rows hiding St
theorem d7{α β γ δ:Type}{P Q R:α->β->γ->δ->Prop}{C:Prop}(h:∃ a b c d,P a b c d/\Q a b c d/\R a b c d)(k:∀ a b c d,P a b c d->Q a b c d->R a b c d->C):C:=by
 let(a,b,c,d,h1,h2,h3):=h;exact k a b c d h1 h2 h3
inductive D where
 | cw | bl (b:Bool) | int (i:Int) | str (x:Str) | fN (a:Addr) | ty (n:String)
 | tup (ds:List D) | lst (ds:List D) | zM (ks:List Key) (vs:List D) | sC (ks:List (List Key)) (vs:List D)
 | BP (ks:List (List Key)) (vs:List D)
def vv(o:Obj)(ts:List Addr):Prop:=o.ExactDict/\∃ es ep,o.data=.dict es ep/\es.toList.map (·.key)=ts.map Value.ref
def TupAt(_K:Frag)(H:Hp)(M:Addr->Prop)(a:Addr)(xs:List V):Prop:=M a/\H a=some (.tup xs)
theorem TupAt.sq{K:Frag}{H:Hp}{M:Addr->Prop}{a:Addr}{xs:List V}(h:TupAt K H M a xs):gZ K H a xs:=.of h.2
section
variable(K:Frag)(H:Hp)(M:Addr->Prop)
mutual
noncomputable def Rep:D->V->Prop
 | .cw,v=>v=.cw
 | .bl b,v=>v=.bl b
 | .int i,v=>v=.int i
 | .str x,v=>v=.str x
 | .fN a,v=>v=.ref a
 | .ty n,v=>v=.ty n
 | .tup ds,v=>∃ a xs,v=.ref a/\TupAt K H M a xs/\ay ds xs
 | .lst ds,v=>∃ a xs,v=.ref a/\(M a/\H a=some (.lst xs))/\ay ds xs
 | .zM ks vs,v=>∃ (a:Addr) (kvs:List (Key×V)),v=.ref a/\(M a/\H a=some (.dK kvs))/\kvs.map (·.1)=ks/\ay vs (kvs.map (·.2))
 | .sC ks vs,v=>∃ (a:Addr) (kvs:List (List Key×V)),v=.ref a/\(M a/\H a=some (.dT kvs))/\kvs.map (·.1)=ks/\ay vs (kvs.map (·.2))
 | .BP ks vs,v=>∃ (a:Addr) (o:Obj) (kvs:List (List Key×V)) (ts:List Addr),v=.ref a/\(M a/\H a=some (.iX o (.dT kvs)))/\vv o ts/\Paired (λk t=>M t/\H t=some (.tup (k.map kV))) ks ts/\kvs.map (·.1)=ks/\ay vs (kvs.map (·.2))
noncomputable def ay:List D->List V->Prop
 | [],xs=>xs=[]
 | d::ds,xs=>∃ x r,xs=x::r/\Rep d x/\ay ds r
end
def cG:D->HO->Prop
 | .lst ds,.lst xs=>ay K H M ds xs
 | .zM ks vs,.dK kvs=>kvs.map (·.1)=ks/\ay K H M vs (kvs.map (·.2))
 | .sC ks vs,.dT kvs=>kvs.map (·.1)=ks/\ay K H M vs (kvs.map (·.2))
 | _,_=>False
end
section
variable{K:Frag}{H H':Hp}{M M':Addr->Prop}
theorem TupAt.mono(hM:∀ b,M b->M' b)(hH:∀ b o,M b->H b=some o->H' b=some o){a:Addr}{xs:List V}(h:TupAt K H M a xs):TupAt K H' M' a xs:=#[hM a h.1,hH a _ h.1 h.2]
mutual
theorem Rep.mono(hM:∀ b,M b->M' b)(hH:∀ b o,M b->H b=some o->H' b=some o):∀ (d:D) (v:V),Rep K H M d v->Rep K H' M' d v
 | .cw,v,h=>h
 | .bl b,v,h=>h
 | .int i,v,h=>h
 | .str x,v,h=>h
 | .fN a,v,h=>h
 | .ty n,v,h=>h
 | .tup ds,v,h=>by
  let(a,xs,e,t,r):=h;exact#[a,xs,e,t.mono hM hH,ay.mono hM hH ds xs r]
 | .lst ds,v,h=>by
  let(a,xs,e,(m,t),r):=h;exact#[a,xs,e,#[hM a m,hH a _ m t],ay.mono hM hH ds xs r]
 | .zM ks vs,v,h=>by
  let(a,xs,e,(m,t),k,r):=h;exact#[a,xs,e,#[hM a m,hH a _ m t],k,ay.mono hM hH vs _ r]
 | .sC ks vs,v,h=>by
  let(a,xs,e,(m,t),k,r):=h;exact#[a,xs,e,#[hM a m,hH a _ m t],k,ay.mono hM hH vs _ r]
 | .BP ks vs,v,h=>by
  let(a,o,xs,ts,e,(m,t),q,p,k,r):=h;exact#[a,o,xs,ts,e,#[hM a m,hH a _ m t],q,L2.Paired.EI p λk t z=>#[hM t z.1,hH t _ z.1 z.2],k,ay.mono hM hH vs _ r]
theorem ay.mono(hM:∀ b,M b->M' b)(hH:∀ b o,M b->H b=some o->H' b=some o):∀ (ds:List D) (vs:List V),ay K H M ds vs->ay K H' M' ds vs
 | [],vs,h=>h
 | d::ds,vs,h=>by
  let(x,r,e,h1,h2):=h;exact#[x,r,e,Rep.mono hM hH d x h1,ay.mono hM hH ds r h2]
end
theorem cG.mono(hM:∀ b,M b->M' b)(hH:∀ b o,M b->H b=some o->H' b=some o){d:D}{o:HO}(h:cG K H M d o):cG K H' M' d o:=by
 unfold cG at h ⊢;split at h
 .exact ay.mono hM hH _ _ h
 .exact#[h.1,ay.mono hM hH _ _ h.2]
 .exact#[h.1,ay.mono hM hH _ _ h.2]
 .exact h.elim
theorem ay.length:∀ {ds:List D} {vs:List V},ay K H M ds vs->vs.length=ds.length
 | [],vs,h=>by
  have h:vs=[]:=h;rw[h];rfl
 | d::ds,vs,h=>by
  let(x,r,e,h1,h2):=h;rw[e,Yv,Yv,ay.length h2]
theorem ay.get:∀ {ds:List D} {vs:List V} {i:Nat} {d:D},ay K H M ds vs->ds[i]?=some d->∃ v,vs[i]?=some v/\Rep K H M d v
 | [],vs,i,d,h,e=>by simp at e
 | c::ds,vs,0,d,h,e=>by
  let(x,r,rfl,h1,h2):=h;simp at e;subst e;exact#[x,U,h1]
 | c::ds,vs,i+1,d,h,e=>by
  let(x,r,rfl,h1,h2):=h;let(v,h3,h4):=ay.get (i:=i) (d:=d) h2 (by simpa using e);exact#[v,by simpa using h3,h4]
theorem ay.NH:∀ {ds:List D} {vs:List V} {i:Nat} {v:V},ay K H M ds vs->vs[i]?=some v->∃ d,ds[i]?=some d/\Rep K H M d v
 | [],vs,i,d,h,e=>by
  have h:vs=[]:=h;rw[h] at e;simp at e
 | c::ds,vs,0,d,h,e=>by
  let(x,r,rfl,h1,h2):=h;simp at e;subst e;exact#[c,U,h1]
 | c::ds,vs,i+1,d,h,e=>by
  let(x,r,rfl,h1,h2):=h;let(v,h3,h4):=ay.NH (i:=i) (v:=d) h2 (by simpa using e);exact#[v,by simpa using h3,h4]
theorem ay.append:∀ {ds es:List D} {vs ws:List V},ay K H M ds vs->ay K H M es ws->ay K H M (ds++es) (vs++ws)
 | [],es,vs,ws,h,h'=>by
  have h:vs=[]:=h;rw[h];exact h'
 | d::ds,es,vs,ws,h,h'=>by
  let(x,r,rfl,h1,h2):=h;exact#[x,r++ws,U,h1,ay.append h2 h']
theorem ay.take:∀ {ds:List D} {vs:List V} (n:Nat),ay K H M ds vs->ay K H M (ds.take n) (vs.take n)
 | [],vs,n,h=>by
  have h:vs=[]:=h;rw[h];simp[ay]
 | d::ds,vs,0,h=>by simp[ay]
 | d::ds,vs,n+1,h=>by
  let(x,r,rfl,h1,h2):=h;exact#[x,r.take n,U,h1,ay.take n h2]
theorem ay.drop:∀ {ds:List D} {vs:List V} (n:Nat),ay K H M ds vs->ay K H M (ds.drop n) (vs.drop n)
 | [],vs,n,h=>by
  have h:vs=[]:=h;rw[h];simp[ay]
 | d::ds,vs,0,h=>h
 | d::ds,vs,n+1,h=>by
  let(x,r,rfl,h1,h2):=h;exact ay.drop n h2
theorem ay.one{d:D}{v:V}(h:Rep K H M d v):ay K H M [d] [v]:=#[v,[],U,h,U]
theorem ay.reverse:∀ {ds:List D} {vs:List V},ay K H M ds vs->ay K H M ds.reverse vs.reverse
 | [],vs,h=>by
  have h:vs=[]:=h;rw[h]
  rfl
 | d::ds,vs,h=>by
  let(x,r,rfl,h1,h2):=h;rw[ZI,ZI];exact ay.append (ay.reverse h2) (ay.one h1)
theorem ay.set{d:D}{v:V}(r:Rep K H M d v):∀ {ds:List D} {vs:List V} (i:Nat),ay K H M ds vs->ay K H M (ds.set i d) (vs.set i v)
 | [],vs,i,h=>by
  have h:vs=[]:=h;rw[h]
  rfl
 | c::ds,vs,0,h=>by
  let(x,r',rfl,h1,h2):=h;exact#[v,r',U,r,h2]
 | c::ds,vs,i+1,h=>by
  let(x,r',rfl,h1,h2):=h;exact#[x,r'.set i v,U,h1,ay.set r i h2]
end
structure A9 where
 own:Addr->Prop
 inv:Hp->Prop
 loc:∀ H H',inv H->(∀ b o,(own b\/∃ φ,o=HO.ext φ)->H b=some o->H' b=some o)->inv H'
 Ky:∀ H b,inv H->own b->∃ o,H b=some o
 nt:∀ H b xs,inv H->own b->H b≠some (.tup xs)
 ju:List Addr:=[]
def A9.no:A9:=#[λ_=>False,λ_=>True,λ_ _ _ _=>trivial,λ_ _ _ h=>h.elim,λ_ _ _ _ h=>h.elim,[]]
def Nu(H:Hp)(b:Addr):Prop:=H b=none\/∃ xs,H b=some (.tup xs)
def b4(d l:Addr):A9 where
 own:=λb=>b=d\/b=l
 inv:=λH=>cV.At H d l
 loc:=λH H' h k=>by
  let(a,b,ns,h1,h2,r):=h.ex;exact#[a,b,ns,k _ _ (.inl (.inl U)) h1,k _ _ (.inl (.inr U)) h2,r]
 Ky:=λH b h e=>by
  let(a,_,ns,h1,h2,r):=h.ex;rcases e with rfl | rfl
  .exact#[_,h1]
  .exact#[_,h2]
 nt:=λH b xs h e=>by
  let(a,_,ns,h1,h2,r):=h.ex;rcases e with rfl | rfl
  .rw[h1];intro z;cases z
  .rw[h2];intro z;cases z
structure Ent where
 g:A9
 M0:Addr->Prop
 H0:Hp
structure Base(c:Ent)(M:Addr->Prop)(H:Hp):Prop where
 lI:c.g.inv H
 fr:∀ b o,c.H0 b=some o->¬ c.g.own b->H b=some o
 md:∀ b,M b->∃ o,H b=some o
 mo:∀ b,M b->¬ c.g.own b
 m0:∀ b,c.M0 b->M b
 mn:∀ b,M b->c.M0 b\/Nu c.H0 b
inductive Sl where
 | no | dat (d:D) | own (k:Nat)
structure DS where
 sl:List Sl
 os:List (Option D)
def d6(s:DS)(as:List Addr)(b:Addr):Prop:=∃ (k:Nat) (d:D),s.os[k]?=some (some d)/\as[k]?=some b
structure aE(K:Frag)(c:Ent)(M:Addr->Prop)(s:DS)(as:List Addr)(O:St)(H:Hp):Prop where
 base:Base c M H
 len:s.sl.length=O.length
 gg:as.length=s.os.length
 dat:∀ (i:Nat) (d:D),s.sl[i]?=some (.dat d)->∃ v,O[i]?=some (some v)/\Rep K H M d v
 own:∀ (i k:Nat),s.sl[i]?=some (.own k)->∃ a,as[k]?=some a/\O[i]?=some (some (.ref a))
 obj:∀ (k:Nat) (d:D) (a:Addr),s.os[k]?=some (some d)->as[k]?=some a->(∃ o,H a=some o/\cG K H M d o)/\¬ M a/\¬ c.g.own a/\c.H0 a=none
 inj:∀ (k l:Nat) (d e:D) (a:Addr),s.os[k]?=some (some d)->s.os[l]?=some (some e)->as[k]?=some a->as[l]?=some a->k=l
 lt:∀ (k:Nat) (a:Addr),c.g.ju[k]?=some a->as[k]?=some a
structure Ext(c:Ent)(as:List Addr)(M:Addr->Prop)(s:DS)(H:Hp)(M':Addr->Prop)(s':DS)(H':Hp):Prop where
 sub:∀ b,M b->M' b
 new:∀ b,M' b->M b\/Nu H b\/d6 s as b
 keep:∀ b o,H b=some o->¬ c.g.own b->¬ d6 s as b->H' b=some o
 kO:∀ b,d6 s' as b->d6 s as b
section
variable{K:Frag}{c:Ent}{M M' M1 M2:Addr->Prop}{s s' s1 s2:DS}{as:List Addr}{O:St}{H H' H1 H2:Hp}{a p:Addr}{o:HO}{d:D}{v:V}
theorem aE.nM(L:aE K c M s as O H)(h:d6 s as a):¬ M a/\¬ c.g.own a/\c.H0 a=none/\∃ o,H a=some o:=by
 let(k,d,h1,h2):=h;let((o,q,_),q1,q2,q3):=L.obj k d a h1 h2;exact#[q1,q2,q3,o,q]
theorem Base.oN(B:Base c M H)(h:H a=none):c.H0 a=none:=by
 cases e:c.H0 a with
 | none=>rfl
 | some o =>
  exfalso;by_cases q:c.g.own a
  .let(o',h'):=c.g.Ky H a B.lI q;rw[h] at h';cases h'
  .have:=B.fr a o e q;rw[h] at this;cases this
theorem Ext.EK(E:Ext c as M s H M' s' H')(L:aE K c M s as O H):∀ b o,M b->H b=some o->H' b=some o:=λb o m h =>
 E.keep b o h (L.base.mo b m) λq=>(L.nM q).1 m
theorem Ext.rep(E:Ext c as M s H M' s' H')(L:aE K c M s as O H)(r:Rep K H M d v):Rep K H' M' d v:=Rep.mono E.sub (E.EK L) d v r
theorem Ext.lK(E:Ext c as M s H M' s' H')(L:aE K c M s as O H){ds:List D}{vs:List V}(r:ay K H M ds vs):ay K H' M' ds vs:=ay.mono E.sub (E.EK L) ds vs r
theorem Ext.refl:Ext c as M s H M s H:=#[λ_ h=>h,λ_ h=>.inl h,λ_ _ h _ _=>h,λ_ h=>h]
theorem Ext.trans(E1:Ext c as M s H M1 s1 H1)(B1:Base c M1 H1)(E2:Ext c as M1 s1 H1 M2 s2 H2):Ext c as M s H M2 s2 H2 where
 sub:=λb h=>E2.sub b (E1.sub b h)
 new:=λb h=>by
  rcases E2.new b h with h | h | h
  .exact E1.new b h
  .cases q:H b with
   | none=>exact .inr (.inl (.inl q))
   | some o =>
    by_cases g:c.g.own b
    .rcases h with h | ⟨xs,h⟩
     .let(o',h'):=c.g.Ky H1 b B1.lI g;rw[h] at h';cases h'
     .exact absurd h (c.g.nt H1 b xs B1.lI g)
    .by_cases w:d6 s as b
     .exact .inr (.inr w)
     .have:=E1.keep b o q g w;rcases h with h | ⟨xs,h⟩
      .rw[h] at this;cases this
      .rw[h] at this;cases this;exact .inr (.inl (.inr #[xs,q]))
  .exact .inr (.inr (E1.kO b h))
 keep:=λb o h g w=>E2.keep b o (E1.keep b o h g w) g λq=>w (E1.kO b q)
 kO:=λb h=>E1.kO b (E2.kO b h)
theorem aE.laid(L:aE K c M s as O H)(hp:H p=none):aE K c M s as O (upd H p o):=by
 have kp:∀ b u,H b=some u->upd H p o b=some u:=λb u e=>by rw[aq (av e hp)];exact e
 refine#[#[c.g.loc H _ L.base.lI λb u _ e=>kp b u e,λb u e g=>kp b u (L.base.fr b u e g),λb m=>?_,L.base.mo,L.base.m0,L.base.mn],L.len,L.gg,λi d e=>?_,L.own,λk d a e1 e2=>?_,L.inj,L.lt]
 .let(u,e):=L.base.md b m;exact#[u,kp b u e]
 .let(v,h1,h2):=L.dat i d e;exact#[v,h1,Rep.mono (λ_ h=>h) (λb u _ e=>kp b u e) d v h2]
 .let((u,q,r),q1):=L.obj k d a e1 e2;exact#[#[u,kp _ _ q,cG.mono (λ_ h=>h) (λb u _ e=>kp b u e) r],q1]
theorem Ext.laid(hp:H p=none):Ext c as M s H M s (upd H p o):=#[λ_ h=>h,λ_ h=>.inl h,λb u e _ _=>by rw[aq (av e hp)];exact e,λ_ h=>h]
theorem aE.D5(L:aE K c M s as O H)(ha:H a=some o)(g:¬ c.g.own a)(w:¬ d6 s as a)(h0:Nu c.H0 a):aE K c (λb=>M b\/b=a) s as O H:=by
 have mk:∀ b u,M b->H b=some u->H b=some u:=λ_ _ _ e=>e;refine#[#[L.base.lI,L.base.fr,λb m=>?_,λb m=>?_,λb m=>.inl (L.base.m0 b m),λb m=>?_],L.len,L.gg,λi d e=>?_,L.own,λk d b e1 e2=>?_,L.inj,L.lt]
 .rcases m with m | rfl
  .exact L.base.md b m
  .exact#[o,ha]
 .rcases m with m | rfl
  .exact L.base.mo b m
  .exact g
 .rcases m with m | rfl
  .exact L.base.mn b m
  .exact .inr h0
 .let(v,h1,h2):=L.dat i d e;exact#[v,h1,Rep.mono (λ_ h=>.inl h) mk d v h2]
 .let((u,q,r),q1,q2):=L.obj k d b e1 e2;refine#[#[u,q,cG.mono (λ_ h=>.inl h) mk r],λm=>?_,q2];rcases m with m | rfl
  .exact q1 m
  .exact w #[k,d,e1,e2]
theorem aE.grown(L:aE K c M s as O H)(ha:H a=some o)(g:¬ c.g.own a)(w:¬ d6 s as a)(h0:c.H0 a=none):aE K c (λb=>M b\/b=a) s as O H:=L.D5 ha g w (.inl h0)
theorem cG.B9{xs:List V}(h:cG K H M d (.tup xs)):False:=by cases d<;>exact h
theorem cG.next{φ:Heap->Prop}(h:cG K H M d (.ext φ)):False:=by cases d<;>exact h
theorem aE.Jz{xs:List V}(L:aE K c M s as O H)(ha:H a=some (.tup xs)):aE K c (λb=>M b\/b=a) s as O H:=by
 have g:¬ c.g.own a:=λg=>c.g.nt H a xs L.base.lI g ha;refine L.D5 ha g (λ#[k,d,h1,h2]=>?_) ?_
 .let((o,q,r),_):=L.obj k d a h1 h2;rw[ha] at q;cases q;exact r.B9
 .cases e:c.H0 a with
  | none=>exact .inl e
  | some o =>
   have:=L.base.fr a o e g;rw[ha] at this;cases this;exact .inr #[xs,e]
theorem aE.fresh(L:aE K c M s as O H)(hp:H p=none):aE K c (λb=>M b\/b=p) s as O (upd H p o):=by
 refine (L.laid (o:=o) hp).grown au (λg=>?_) (λw=>?_) (L.base.oN hp)
 .let(u,e):=c.g.Ky H p L.base.lI g;rw[hp] at e;cases e
 .let(_,_,_,u,e):=L.nM w;rw[hp] at e;cases e
theorem Ext.fresh(hp:H p=none):Ext c as M s H (λb=>M b\/b=p) s (upd H p o):=#[λ_ h=>.inl h,λb h=>by
 rcases h with h | rfl
 .exact .inl h
 .exact .inr (.inl (.inl hp)),λb u e _ _=>by rw[aq (av e hp)];exact e,λ_ h=>h]
theorem y0(hp:H p=none)(r:Rep K H M d v):Rep K (upd H p o) (λb=>M b\/b=p) d v:=Rep.mono (λ_ h=>.inl h) (λb u _ e=>by rw[aq (av e hp)];exact e) d v r
theorem kl(hp:H p=none){ds:List D}{vs:List V}(r:ay K H M ds vs):ay K (upd H p o) (λb=>M b\/b=p) ds vs:=ay.mono (λ_ h=>.inl h) (λb u _ e=>by rw[aq (av e hp)];exact e) ds vs r
theorem cG.rep(h:cG K H M d o)(ha:H a=some o)(m:M a):Rep K H M d (.ref a):=by
 unfold cG at h;split at h
 .exact#[a,_,U,#[m,ha],h]
 .exact#[a,_,U,#[m,ha],h.1,h.2]
 .exact#[a,_,U,#[m,ha],h.1,h.2]
 .exact h.elim
end
abbrev bH:=DS->(D->DS->Prop)->Prop
abbrev mG:=DS->(Bool->DS->Prop)->Prop
abbrev gb:=DS->(List D->DS->Prop)->Prop
structure jb where
 nx:DS->Prop
 rt:D->Prop
 rf:D->Prop:=λ_=>False
 bk:DS->Prop:=λ_=>False
 ct:DS->Prop:=λ_=>False
 rs:D->DS->Prop:=λ_ _=>False
abbrev kC:=jb->DS->Prop
section
variable(K:Frag)(c:Ent)
def tE(t:bH):TE:=λO H Q=>∃ M s as R,aE K c M s as O H/\t s R/\∀ d s',R d s'->∀ M' H' v,aE K c M' s' as O H'->Ext c as M s H M' s' H'->Rep K H' M' d v->Q v H'
def tN(t:bH):TE:=λO H Q=>∃ M s as R,aE K c M s as O H/\t s R/\∀ d s',R d s'->∀ M' H' a o,aE K c M' s' as O H'->Ext c as M s H M' s' H'->H' a=some o->cG K H' M' d o->¬ M' a->¬ c.g.own a->¬ d6 s' as a->c.H0 a=none->(H a=none\/d6 s as a)->Q (.ref a) H'
def tT(t:mG):TT:=λO H Q=>∃ M s as R,aE K c M s as O H/\t s R/\∀ b s',R b s'->∀ M' H',aE K c M' s' as O H'->Ext c as M s H M' s' H'->Q b H'
def tA(n:Nat)(t:gb):TA:=λO H Q=>∃ M s as R,aE K c M s as O H/\t s R/\∀ ds s',R ds s'->∀ M' H' vs,aE K c M' s' as O H'->Ext c as M s H M' s' H'->ay K H' M' ds vs->ds.length=n->Q vs H'
def eT(M:Addr->Prop)(H:Hp)(M':Addr->Prop)(H':Hp):Prop:=∀ b,M b->M' b/\∀ o,H b=some o->H' b=some o
structure AH(M:Addr->Prop)(H:Hp)(R:jb)(E:Ends):Prop where
 nx:∀ s as M' O H',R.nx s->aE K c M' s as O H'->eT M H M' H'->E.nx O H'
 bk:∀ s as M' O H',R.bk s->aE K c M' s as O H'->eT M H M' H'->E.bk O H'
 ct:∀ s as M' O H',R.ct s->aE K c M' s as O H'->eT M H M' H'->E.ct O H'
 rt:∀ d M' H' v,R.rt d->Base c M' H'->Rep K H' M' d v->E.rt v H'
 rf:∀ d M' H' a o,R.rf d->Base c M' H'->H' a=some o->cG K H' M' d o->¬ M' a->¬ c.g.own a->c.H0 a=none->E.rt (.ref a) H'
 rs:∀ d s as M' O H' v,R.rs d s->aE K c M' s as O H'->Rep K H' M' d v->E.rt v H'
def tS(t:kC):TS:=λE O H=>∃ M s as R,aE K c M s as O H/\t R s/\AH K c M H R E
end
structure DE(X:Cx)(c:Ent)(e:Expr)(t:bH):Prop where
 pe:PE X e (tE X.K c t)
structure DN(X:Cx)(c:Ent)(e:Expr)(t:bH):Prop where
 pe:PE X e (tN X.K c t)
structure DT(X:Cx)(c:Ent)(e:Expr)(t:mG):Prop where
 pt:PT X e (tT X.K c t)
structure DW(X:Cx)(c:Ent)(e:Expr)(t:mG):Prop where
 pw:PW X e (tT X.K c t)
structure DA(X:Cx)(c:Ent)(es:List Expr)(t:gb):Prop where
 pa:PA X es (tA X.K c es.length t)
structure lZ(X:Cx)(c:Ent)(st:Stmt)(t:kC):Prop where
 ps:PS X st (tS X.K c t)
structure xT(X:Cx)(c:Ent)(st:List Stmt)(t:kC):Prop where
 ps:rg X st (tS X.K c t)
section
variable{X:Cx}
theorem _root_.L2.PE.imp{e:Expr}{t t':TE}(h:PE X e t)(w:∀ O H Q,t' O H Q->t O H Q):PE X e t':=λpins s O H Q I q=>h pins s O H Q I (w O H Q q)
theorem _root_.L2.PT.imp{e:Expr}{t t':TT}(h:PT X e t)(w:∀ O H Q,t' O H Q->t O H Q):PT X e t':=λpins s O H Q I q=>h pins s O H Q I (w O H Q q)
theorem _root_.L2.PW.imp{e:Expr}{t t':TT}(h:PW X e t)(w:∀ O H Q,t' O H Q->t O H Q):PW X e t':=λwh pins s O H Q I q=>h wh pins s O H Q I (w O H Q q)
theorem _root_.L2.PA.imp{es:List Expr}{t t':TA}(h:PA X es t)(w:∀ O H Q,t' O H Q->t O H Q):PA X es t':=λpos pins s O H Q I q=>h pos pins s O H Q I (w O H Q q)
theorem _root_.L2.PS.imp{st:Stmt}{t t':TS}(h:PS X st t)(w:∀ E O H,t' E O H->t E O H):PS X st t':=λpins s O H E I q=>h pins s O H E I (w E O H q)
theorem _root_.L2.rg.imp{st:List Stmt}{t t':TS}(h:rg X st t)(w:∀ E O H,t' E O H->t E O H):rg X st t':=λpins s O H E I q=>h pins s O H E I (w E O H q)
end
section
variable{X:Cx}{c:Ent}{a b e:Expr}{es:List Expr}{ta tb te:bH}{t:gb}{pos:Pos}
theorem Ext.plus{as:List Addr}{M M':Addr->Prop}{s s':DS}{H H':Hp}{a:Addr}(E:Ext c as M s H M' s' H')(n:H a=none\/d6 s as a):Ext c as M s H (λb=>M' b\/b=a) s' H' :=
 #[λb h=>.inl (E.sub b h),λb h=>by
  rcases h with h | rfl
  .exact E.new b h
  .exact .inr (n.imp .inl id),E.keep,E.kO]
theorem DN.de(h:DN X c e te):DE X c e te:=#[h.pe.imp λO H Q zz=>d7 zz λM s as R L q k =>
 #[M,s,as,R,L,q,λd s' r M' H' a o L' E ha ro nm ng nw h0 hn =>
  k d s' r _ H' (.ref a) (L'.grown ha ng nw h0) (E.plus hn) ((ro.mono (λ_ h=>.inl h) λ_ _ _ e=>e).rep ha (.inr U))]]
def AI(i:Nat):bH:=λs Q=>∃ d,s.sl[i]?=some (.dat d)/\Q d s
theorem dv{i:Nat}(h:PE X e (bz i)):DE X c e (AI i):=#[h.imp λO H Q z6q=>by
 let(M,s,as,R,L,(d,e,q),k):=z6q;let(v,h1,h2):=L.dat i d e;exact#[v,h1,k d s q M H v L .refl h2]]
def BE(d:D):bH:=λs Q=>Q d s
def UU:D->V->Prop
 | .cw,v=>v=.cw
 | .bl b,v=>v=.bl b
 | .int i,v=>v=.int i
 | .str x,v=>v=.str x
 | .fN a,v=>v=.ref a
 | .ty n,v=>v=.ty n
 | _,_=>False
theorem UU.rep{d:D}{v:V}{K:Frag}{H:Hp}{M:Addr->Prop}(h:UU d v):Rep K H M d v:=by
 cases d<;>first | exact h | exact h.elim
theorem dc{d:D}{v:V}(h:PE X e (tC v))(r:UU d v):DE X c e (BE d):=#[h.imp λO H Q zz=>d7 zz λM s as R L q k=>k d s q M H v L .refl r.rep]
theorem ah{i j}:DE X c (.Constant (.int i) j pos) (BE (.int i)):=dc aR U
theorem C6{i j}:DE X c (.Constant (.bool i) j pos) (BE (.bl i)):=dc DC U
theorem Fb{j}:DE X c (.Constant .none j pos) (BE .cw):=dc Cc U
theorem ak{i j}:DE X c (.Constant (.str i) j pos) (BE (.str i)):=dc b8 U
def lb:gb:=λs Q=>Q [] s
def f7(ta:bH)(tr:gb):gb:=λs Q=>ta s λd s1=>tr s1 λds s2=>Q (d::ds) s2
theorem ae:DA X c [] lb:=#[aK.imp λO H Q zz=>d7 zz λM s as R L q k=>k [] s q M H [] L .refl U U]
theorem aa(ha:DE X c e te)(hr:DA X c es t)(hs:aaw X.env e es:=by rfl):DA X c (e::es) (f7 te t) :=
 #[(az ha.pe hr.pa hs).imp λO H Q zz=>d7 zz λM s as R L q k =>
   #[M,s,as,_,L,q,λd s1 q1 M1 H1 x L1 E1 r1=>#[M1,s1,as,_,L1,q1,λds s2 q2 M2 H2 xs Lb E2 r2 hl =>
    k _ s2 q2 M2 H2 _ Lb (E1.trans L1.base E2) #[x,xs,U,E2.rep L1 r1,r2] (by rw[Yv,Yv,hl])]]]
def Oq(t:gb):bH:=λs Q=>t s λds s1=>Q (.tup ds) s1
def HW(t:gb):bH:=λs Q=>t s λds s1=>Q (.lst ds) s1
theorem Ff{n:Nat}(h:(n<=1000:Bool)=true):n<=sizeLine:=Yw (of_decide_eq_true h) (by decide)
theorem aW{x1}(h:DA X c es t)(hn:(es.length<=1000:Bool)=true:=by rfl):DE X c (.Tuple es x1 pos) (Oq t):=#[(Lk h.pa).imp λO H Q zz=>d7 zz λM s as R L q k =>
 #[M,s,as,_,L,q,λds s1 q1 M1 H1 xs L1 E1 r1 hl=>#[by rw[r1.length,hl];exact Ff hn,λp hp =>
  k _ s1 q1 _ _ _ (L1.fresh hp) (E1.trans L1.base (Ext.fresh hp)) #[p,xs,U,#[.inr U,au],kl hp r1]]]]
theorem notM{K:Frag}{M:Addr->Prop}{s:DS}{as:List Addr}{O:St}{H:Hp}{p:Addr}(L:aE K c M s as O H)(hp:H p=none):¬ M p/\¬ c.g.own p/\¬ d6 s as p/\c.H0 p=none:=by
 refine#[λm=>?_,λg=>?_,λw=>?_,L.base.oN hp]
 .let(u,e):=L.base.md p m;rw[hp] at e;cases e
 .let(u,e):=c.g.Ky H p L.base.lI g;rw[hp] at e;cases e
 .let(_,_,_,u,e):=L.nM w;rw[hp] at e;cases e
theorem j5{K:Frag}{as:List Addr}{M M1:Addr->Prop}{s s1:DS}{O:St}{H H1:Hp}{p:Addr}{o:HO}{Q:VK}{d:D}(L:aE K c M s as O H)(L1:aE K c M1 s1 as O H1)(E1:Ext c as M s H M1 s1 H1)(hp:H1 p=none)(r:cG K H1 M1 d o)(k:∀ M' H' a o,aE K c M' s1 as O H'->Ext c as M s H M' s1 H'->H' a=some o->cG K H' M' d o->¬ M' a->¬ c.g.own a->¬ d6 s1 as a->c.H0 a=none->(H a=none\/d6 s as a)->Q (.ref a) H'):Q (.ref p) (upd H1 p o):=by
 let(n1,n2,n3,n4):=notM L1 hp;refine k M1 (upd H1 p o) p o (L1.laid hp) (E1.trans L1.base (Ext.laid hp)) au (r.mono (λ_ h=>h) λb u _ e=>by rw[aq (av e hp)];exact e) n1 n2 n3 n4 ?_;cases q:H p with
 | none=>exact .inl U
 | some u =>
  by_cases w:d6 s as p
  .exact .inr w
  .have:=E1.keep p u q n2 w;rw[hp] at this;cases this
theorem aH(h:DA X c es t)(hn:(es.length<=1000:Bool)=true:=by rfl):DN X c (.List es pos) (HW t):=#[(f6 h.pa).imp λO H Q zz=>d7 zz λM s as R L q k =>
 #[M,s,as,_,L,q,λds s1 q1 M1 H1 xs L1 E1 r1 hl=>#[by rw[r1.length,hl];exact Ff hn,λp hp =>
  j5 L L1 E1 hp (d:=.lst ds) r1 (k _ s1 q1)]]]
def T6(C:D->(D->Prop)->Prop)(ta:bH):bH:=λs Q=>ta s λa s1=>C a λd=>Q d s1
def vS(C:D->D->(D->Prop)->Prop)(ta tb:bH):bH:=λs Q=>ta s λa s1=>tb s1 λb s2=>C a b λd=>Q d s2
def sA(X:Cx)(c:Ent)(r:R2)(C:D->D->(D->Prop)->Prop):Prop:=∀ (M:Addr->Prop) (s:DS) (as:List Addr) (O:St) (H:Hp) (x y:V) (dx dy:D) (k:D->Prop) (Q:VK),aE X.K c M s as O H->Rep X.K H M dx x->Rep X.K H M dy y->C dx dy k ->
 (∀ d,k d->∀ M' H' v,aE X.K c M' s as O H'->Ext c as M s H M' s H'->Rep X.K H' M' d v->Q v H')->r x y H Q
def Lf(X:Cx)(c:Ent)(r:R2)(C:D->D->(D->Prop)->Prop):Prop:=∀ (M:Addr->Prop) (s:DS) (as:List Addr) (O:St) (H:Hp) (x y:V) (dx dy:D) (k:D->Prop) (Q:VK),aE X.K c M s as O H->Rep X.K H M dx x->Rep X.K H M dy y->C dx dy k ->
 (∀ d,k d->∀ p o,H p=none->cG X.K H M d o->Q (.ref p) (upd H p o))->r x y H Q
theorem GX{r:R2}{C:D->D->(D->Prop)->Prop}(k:sA X c r C){O:St}{H:Hp}{Q:VK}:tE X.K c (vS C ta tb) O H Q->jh r (tE X.K c ta) (tE X.K c tb) O H Q:=λzz=>d7 zz λM s as R L q kk =>
 #[M,s,as,_,L,q,λda s1 q1 M1 H1 x L1 E1 r1=>#[M1,s1,as,_,L1,q1,λdb s2 q2 M2 H2 y Lb E2 r2 =>
  k M2 s2 as O H2 x y da db (λd=>R d s2) Q Lb (E2.rep L1 r1) r2 q2 λd rd M' H' v L' E' rv=>kk d s2 rd M' H' v L' ((E1.trans L1.base E2).trans Lb.base E') rv]]
theorem Sm{r:R2}{C:D->D->(D->Prop)->Prop}(k:Lf X c r C){O:St}{H:Hp}{Q:VK}:tN X.K c (vS C ta tb) O H Q->jh r (tE X.K c ta) (tE X.K c tb) O H Q:=λzz=>d7 zz λM s as R L q kk =>
 #[M,s,as,_,L,q,λda s1 q1 M1 H1 x L1 E1 r1=>#[M1,s1,as,_,L1,q1,λdb s2 q2 M2 H2 y Lb E2 r2 =>
  k M2 s2 as O H2 x y da db (λd=>R d s2) Q Lb (E2.rep L1 r1) r2 q2 λd rd p o hp ro=>j5 L Lb (E1.trans L1.base E2) hp ro (kk d s2 rd)]]
theorem bb{op:Operator}{r:R2}{C:D->D->(D->Prop)->Prop}(ho:iT X (binaryOp op) r)(k:sA X c r C)(ha:DE X c a ta)(hb:DE X c b tb):DE X c (.BinOp a op b pos) (vS C ta tb):=#[(dj ho ha.pe hb.pe).imp λ_ _ _=>GX k]
theorem ck{op:Operator}{r:R2}{C:D->D->(D->Prop)->Prop}(ho:iT X (binaryOp op) r)(k:Lf X c r C)(ha:DE X c a ta)(hb:DE X c b tb):DN X c (.BinOp a op b pos) (vS C ta tb):=#[(dj ho ha.pe hb.pe).imp λ_ _ _=>Sm k]
theorem bW{op:CmpOp}{r:R2}{C:D->D->(D->Prop)->Prop}(ho:iT X (compareOp op) r)(k:sA X c r C)(ha:DE X c a ta)(hb:DE X c b tb)(hm:behindInMarks op b=false):DE X c (.Compare a [op] [b] pos) (vS C ta tb):=#[(iV ho ha.pe hb.pe hm).imp λ_ _ _=>GX k]
theorem AV{r:R2}{C:D->D->(D->Prop)->Prop}(ho:F4 X r)(k:sA X c r C)(ha:DE X c a ta)(hb:DE X c b tb)(hs:iS b):DE X c (.Subscript a b pos) (vS C ta tb):=#[(dO ho ha.pe hb.pe hs).imp λ_ _ _=>GX k]
def Q2(t:bH):mG:=λs Q=>t s λd s1=>∃ k,d=.bl k/\Q k s1
theorem vm{t:bH}{t':TE}(h:∀ {O H Q},tE X.K c t O H Q->t' O H Q){O:St}{H:Hp}{Q:Bool->Hp->Prop}:tT X.K c (Q2 t) O H Q->rF t' O H Q:=λzz=>d7 zz λM s as R L q kk =>
 h #[M,s,as,_,L,q,λd s1 z3r M' H' v L' E' rv=>by
  let(k,e,r):=z3r;subst e;exact#[k,rv,kk k s1 r M' H' L' E']]
theorem aF{op:CmpOp}{r:R2}{C:D->D->(D->Prop)->Prop}(ho:iT X (compareOp op) r)(k:sA X c r C)(ha:DE X c a ta)(hb:DE X c b tb)(hm:behindInMarks op b=false):DT X c (.Compare a [op] [b] pos) (Q2 (vS C ta tb)) :=
 #[(iU ho ha.pe hb.pe hm).imp λ_ _ _=>vm (GX k)]
theorem b7(h:DE X c e te)(he:∀ whole,isTrue e X.env whole=(do let v <- whole;standAt e.pos;holding [v] (truthy v)):=by intro _;rfl):DT X c e (Q2 te):=#[(EO h.pe he).imp λ_ _ _=>vm λq=>q]
def Mt(t:mG):mG:=λs Q=>t s λb s1=>Q (!b) s1
theorem lF{t:mG}(h:DT X c e t):DT X c (.UnaryOp .Not e pos) (Mt t):=#[(yC h.pt).imp λO H Q zz=>d7 zz λM s as R L q k=>#[M,s,as,_,L,q,λb s1 r M' H' L' E'=>k _ s1 r M' H' L' E']]
def P5(t u:mG):mG:=λs Q=>t s λb s1=>if b=true then u s1 Q else Q false s1
def torD(t u:mG):mG:=λs Q=>t s λb s1=>if b=true then Q true s1 else u s1 Q
theorem DW.dt{t:mG}(h:DW X c e t):DT X c e t:=#[h.pw.pt]
section
variable{tA tB:mG}{rest:List Expr}
theorem kA(h:DT X c a tA):DW X c (.BoolOp .And [a] pos) tA:=#[pw_and1 h.pt]
theorem nY(h:DT X c a tA):DW X c (.BoolOp .Or [a] pos) tA:=#[pw_or1 h.pt]
theorem jJ(ha:DT X c a tA)(hb:DW X c (.BoolOp .And (b::rest) pos) tB):DW X c (.BoolOp .And (a::b::rest) pos) (P5 tA tB):=#[(pw_and ha.pt hb.pw).imp λO H Q zz=>d7 zz λM s as R L q k =>
 #[M,s,as,_,L,q,λx s1 r M1 H1 L1 E1=>by
  cases x with
  | true=>exact mF #[M1,s1,as,_,L1,(by simpa using r),λy s2 r2 M2 H2 Lb E2=>k y s2 r2 M2 H2 Lb (E1.trans L1.base E2)]
  | false=>exact sJ (k false s1 (by simpa using r) M1 H1 L1 E1)]]
theorem ji(ha:DT X c a tA)(hb:DW X c (.BoolOp .Or (b::rest) pos) tB):DW X c (.BoolOp .Or (a::b::rest) pos) (torD tA tB):=#[(pw_or ha.pt hb.pw).imp λO H Q zz=>d7 zz λM s as R L q k =>
 #[M,s,as,_,L,q,λx s1 r M1 H1 L1 E1=>by
  cases x with
  | true=>exact mF (k true s1 (by simpa using r) M1 H1 L1 E1)
  | false=>exact sJ #[M1,s1,as,_,L1,(by simpa using r),λy s2 r2 M2 H2 Lb E2=>k y s2 r2 M2 H2 Lb (E1.trans L1.base E2)]]]
def OL(ta tb:bH):bH:=λs Q=>ta s λx s1=>∃ k,x=.bl k/\if k=true then tb s1 Q else Q (.bl false) s1
def torV(ta tb:bH):bH:=λs Q=>ta s λx s1=>∃ k,x=.bl k/\if k=true then Q (.bl true) s1 else tb s1 Q
theorem i9{op}(h:DE X c a ta):DE X c (.BoolOp op [a] pos) ta:=#[uY h.pe]
theorem jL(ha:DE X c a ta)(hb:DE X c (.BoolOp .And (b::rest) pos) tb):DE X c (.BoolOp .And (a::b::rest) pos) (OL ta tb):=#[(yP ha.pe hb.pe).imp λO H Q zz=>d7 zz λM s as R L q k =>
 #[M,s,as,_,L,q,λx s1 z4r M1 H1 v L1 E1 rv=>by
  let(b,e,r):=z4r;subst e;refine#[b,rv,?_];cases b with
  | true=>exact mF #[M1,s1,as,_,L1,(by simpa using r),λy s2 r2 M2 H2 w Lb E2 rw=>k y s2 r2 M2 H2 w Lb (E1.trans L1.base E2) rw]
  | false=>exact sJ (k (.bl false) s1 (by simpa using r) M1 H1 _ L1 E1 U)]]
theorem ND(ha:DE X c a ta)(hb:DE X c (.BoolOp .Or (b::rest) pos) tb):DE X c (.BoolOp .Or (a::b::rest) pos) (torV ta tb):=#[(Ij ha.pe hb.pe).imp λO H Q zz=>d7 zz λM s as R L q k =>
 #[M,s,as,_,L,q,λx s1 z5r M1 H1 v L1 E1 rv=>by
  let(b,e,r):=z5r;subst e;refine#[b,rv,?_];cases b with
  | true=>exact mF (k (.bl true) s1 (by simpa using r) M1 H1 _ L1 E1 U)
  | false=>exact sJ #[M1,s1,as,_,L1,(by simpa using r),λy s2 r2 M2 H2 w Lb E2 rw=>k y s2 r2 M2 H2 w Lb (E1.trans L1.base E2) rw]]]
def T4(t:mG)(ta tb:bH):bH:=λs Q=>t s λk s1=>if k=true then ta s1 Q else tb s1 Q
theorem vt{e:Expr}(hc:DT X c e tA)(ha:DE X c a ta)(hb:DE X c b tb):DE X c (.IfExp e a b pos) (T4 tA ta tb):=#[(xt hc.pt ha.pe hb.pe).imp λO H Q zz=>d7 zz λM s as R L q k =>
 #[M,s,as,_,L,q,λx s1 r M1 H1 L1 E1=>by
  cases x with
  | true=>exact mF #[M1,s1,as,_,L1,(by simpa using r),λy s2 r2 M2 H2 w Lb E2 rw=>k y s2 r2 M2 H2 w Lb (E1.trans L1.base E2) rw]
  | false=>exact sJ #[M1,s1,as,_,L1,(by simpa using r),λy s2 r2 M2 H2 w Lb E2 rw=>k y s2 r2 M2 H2 w Lb (E1.trans L1.base E2) rw]]]
end
end
section
variable{K:Frag}{c:Ent}{M M' M1:Addr->Prop}{s s' s1:DS}{as:List Addr}{O:St}{H H' H1:Hp}{a p:Addr}{o:HO}{d:D}{v:V}
theorem eT.refl:eT M H M H:=λb m=>#[m,λ_ e=>e]
theorem eT.trans{M2:Addr->Prop}{H2:Hp}(g1:eT M H M1 H1)(g2:eT M1 H1 M2 H2):eT M H M2 H2:=λb m=>#[(g2 b (g1 b m).1).1,λo e=>(g2 b (g1 b m).1).2 o ((g1 b m).2 o e)]
theorem Ext.grow(E:Ext c as M s H M' s' H')(L:aE K c M s as O H):eT M H M' H':=λb m=>#[E.sub b m,λo e=>E.EK L b o m e]
theorem eT.lK(G:eT M H M' H'){ds:List D}{vs:List V}(r:ay K H M ds vs):ay K H' M' ds vs:=ay.mono (λb m=>(G b m).1) (λb o m e=>(G b m).2 o e) ds vs r
theorem AH.grow{R:jb}{E:Ends}(k:AH K c M H R E)(G:eT M H M1 H1):AH K c M1 H1 R E :=
 #[λs as M' O H' r L g=>k.nx s as M' O H' r L (G.trans g),λs as M' O H' r L g=>k.bk s as M' O H' r L (G.trans g),λs as M' O H' r L g=>k.ct s as M' O H' r L (G.trans g),k.rt,k.rf,k.rs]
def DS.set(s:DS)(i:Nat)(x:Sl):DS:=#[s.sl.set i x,s.os]
def DS.put(s:DS)(k:Nat)(d:D):DS:=#[s.sl,s.os.set k (some d)]
theorem bN{α:Type}{l:List α}{i j:Nat}{x y:α}(h:(l.set i x)[j]?=some y):(i=j/\j < l.length/\y=x)\/(i≠j/\l[j]?=some y):=by
 by_cases e:i=j
 .subst e;by_cases hl:i < l.length
  .rw[Y5 hl] at h;exact .inl #[U,hl,(YU h).symm]
  .rw[List.getElem?_eq_none (by rw[Y7];cbv)] at h;cases h
 .rw[YM e] at h;exact .inr #[e,h]
theorem aE.GS(L:aE K c M s as O H)(i:Nat)(r:Rep K H M d v):aE K c M (s.set i (.dat d)) as (O.set i (some v)) H where
 base:=L.base
 len:=by show (s.sl.set i _).length=_;rw[Y7,Y7];exact L.len
 gg:=L.gg
 dat:=λj e h=>by
  rcases bN h with ⟨rfl,hl,q⟩ | ⟨ne,q⟩
  .cases q;exact#[v,Y5 (by rw[<- L.len];exact hl),r]
  .let(w,h1,h2):=L.dat j e q;exact#[w,by rw[YM ne];exact h1,h2]
 own:=λj k h=>by
  rcases bN h with ⟨rfl,hl,q⟩ | ⟨ne,q⟩
  .cases q
  .let(w,h1,h2):=L.own j k q;exact#[w,h1,by rw[YM ne];exact h2]
 obj:=L.obj
 inj:=L.inj
 lt:=L.lt
def noRef(k:Nat):Nat->List Sl->Bool
 | _,[]=>true
 | 0,_::r=>noRef k (r.length+1) r
 | i+1,.own j::r=>(j != k)&&noRef k i r
 | i+1,_::r=>noRef k i r
theorem um{k:Nat}:∀ {l:List Sl} {i j:Nat},l.length<=i->noRef k i l=true->l[j]?≠some (.own k)
 | [],i,j,hl,h,e=>by simp at e
 | x::r,0,j,hl,h,e=>by simp at hl
 | x::r,i+1,0,hl,h,e=>by
  simp at e;subst e;simp[noRef] at h
 | x::r,i+1,j+1,hl,h,e=>by
  refine um (l:=r) (i:=i) (j:=j) (by simpa using hl) ?_ (by simpa using e);cases x with
  | own q=>simp[noRef] at h;exact h.2
  | no=>exact h
  | dat q=>exact h
theorem wJ{k:Nat}:∀ {l:List Sl} {i j:Nat},noRef k i l=true->i≠j->l[j]?≠some (.own k)
 | [],i,j,h,ne,e=>by simp at e
 | x::r,0,0,h,ne,e=>ne U
 | x::r,0,j+1,h,ne,e=>by
  have e':r[j]?=some (.own k):=by simpa using e
  exact um (l:=r) (i:=r.length+1) (by cbv) h e'
 | x::r,i+1,0,h,ne,e=>by
  simp at e;subst e;simp[noRef] at h
 | x::r,i+1,j+1,h,ne,e=>by
  refine wJ (l:=r) (i:=i) (j:=j) ?_ (by cbv) (by simpa using e);cases x with
  | own q=>simp[noRef] at h;exact h.2
  | no=>exact h
  | dat q=>exact h
theorem aE.Ul(L:aE K c M s as O H)(i k:Nat)(hk:k < s.os.length)(nr:noRef k i s.sl=true)(ha:H a=some o)(r:cG K H M d o)(nm:¬ M a)(ng:¬ c.g.own a)(nw:¬ d6 s as a)(h0:c.H0 a=none)(kR:c.g.ju.length<=k) :
  aE K c M #[s.sl.set i (.own k),s.os.set k (some d)] (as.set k a) (O.set i (some (.ref a))) H where
 base:=L.base
 len:=by show (s.sl.set i _).length=_;rw[Y7,Y7];exact L.len
 gg:=by show (as.set k a).length=(s.os.set k _).length;rw[Y7,Y7];exact L.gg
 dat:=λj e h=>by
  rcases bN h with ⟨rfl,hl,q⟩ | ⟨ne,q⟩
  .cases q
  .let(w,h1,h2):=L.dat j e q;exact#[w,by rw[YM ne];exact h1,h2]
 own:=λj l h=>by
  rcases bN h with ⟨rfl,hl,q⟩ | ⟨ne,q⟩
  .cases q;exact#[a,Y5 (by rw[L.gg];exact hk),Y5 (by rw[<- L.len];exact hl)]
  .let(w,h1,h2):=L.own j l q;refine#[w,?_,by rw[YM ne];exact h2];have:k≠l:=λz=>by
    subst z;exact wJ nr ne q
   rw[YM this];exact h1
 obj:=λl e b h1 h2=>by
  rcases bN h1 with ⟨rfl,hl,q⟩ | ⟨ne,q⟩
  .cases q;rw[Y5 (by rw[L.gg];exact hl)] at h2;cases h2;exact#[#[o,ha,r],nm,ng,h0]
  .rw[YM ne] at h2;exact L.obj l e b q h2
 inj:=λl m e f b h1 h2 g1 g2=>by
  rcases bN h1 with ⟨rfl,hl,q⟩ | ⟨ne,q⟩
  .rcases bN h2 with ⟨rfl,hl',q'⟩ | ⟨ne',q'⟩
   .rfl
   .rw[Y5 (by rw[L.gg];exact hl)] at g1;cases g1;rw[YM ne'] at g2;exact absurd #[m,f,q',g2] nw
  .rcases bN h2 with ⟨rfl,hl',q'⟩ | ⟨ne',q'⟩
   .rw[Y5 (by rw[L.gg];exact hl')] at g2;cases g2;rw[YM ne] at g1;exact absurd #[l,e,q,g1] nw
   .rw[YM ne] at g1;rw[YM ne'] at g2;exact L.inj l m e f b q q' g1 g2
 lt:=λl b h=>by
  have h1:=L.lt l b h;have hl:l < c.g.ju.length:=(Yu.mp h).1;rw[YM (by cbv)];exact h1
theorem aE.vK{d0:D}{k:Nat}(L:aE K c M s as O H)(hk:s.os[k]?=some (some d0))(ha:as[k]?=some a)(r:cG K H M d o):aE K c M (s.put k d) as O (upd H a o):=by
 let((o0,q0,r0),nm,ng,h0):=L.obj k d0 a hk ha;have kp:∀ b u,b≠a->H b=some u->upd H a o b=some u:=λb u ne e=>by rw[aq ne];exact e
 have km:∀ b u,M b->H b=some u->upd H a o b=some u:=λb u m e=>kp b u (λz=>nm (z▸m)) e;refine#[#[c.g.loc H _ L.base.lI λb u g e=>kp b u (λz=>g.elim (λg=>ng (z▸g)) λ#[φ,f]=>by subst f;rw[z,q0] at e;cases e;exact r0.next) e,λb u e g=>?_,λb m=>?_,L.base.mo,L.base.m0,L.base.mn],L.len,?_,λi e h=>?_,L.own,λl e b h1 h2=>?_,λl m e f b h1 h2 g1 g2=>?_,L.lt]
 .exact kp b u (λz=>by rw[z,h0] at e;cases e) (L.base.fr b u e g)
 .let(u,e):=L.base.md b m;exact#[u,km b u m e]
 .show as.length=(s.os.set k _).length;rw[Y7];exact L.gg
 .let(w,h1,h2):=L.dat i e h;exact#[w,h1,Rep.mono (λ_ m=>m) km e w h2]
 .rcases bN h1 with ⟨rfl,hl,q⟩ | ⟨ne,q⟩
  .cases q;rw[ha] at h2;cases h2;exact#[#[o,au,r.mono (λ_ m=>m) km],nm,ng,h0]
  .let((u,q1,q2),q3):=L.obj l e b q h2;refine#[#[u,kp b u (λz=>?_) q1,q2.mono (λ_ m=>m) km],q3];subst z;exact ne (L.inj k l d0 e b hk q ha h2)
 .have back:∀ {l:Nat} {e:D},(s.put k d).os[l]?=some (some e)->∃ e',s.os[l]?=some (some e'):=λ{l e} h=>by
   rcases bN h with ⟨rfl,hl,q⟩ | ⟨ne,q⟩
   .exact#[d0,hk]
   .exact#[e,q]
  let(e',q1):=back h1;let(f',q2):=back h2;exact L.inj l m e' f' b q1 q2 g1 g2
theorem Ext.vK{d0:D}{k:Nat}(hk:s.os[k]?=some (some d0))(ha:as[k]?=some a):Ext c as M s H M (s.put k d) (upd H a o) where
 sub:=λ_ m=>m
 new:=λ_ m=>.inl m
 keep:=λb u e g w=>by
  have ne:b≠a:=λz=>by
   subst z;exact w #[k,d0,hk,ha]
  rw[aq ne];exact e
 kO:=λb z6r=>by
  let(l,e,h1,h2):=z6r;rcases bN h1 with ⟨rfl,hl,q⟩ | ⟨ne,q⟩
  .exact#[k,d0,hk,h2]
  .exact#[l,e,q,h2]
theorem aE.slot{i k:Nat}{d0:D}(L:aE K c M s as O H)(hi:s.sl[i]?=some (.own k))(hk:s.os[k]?=some (some d0)):∃ a o,as[k]?=some a/\O[i]?=some (some (.ref a))/\H a=some o/\cG K H M d0 o:=by
 let(a,h1,h2):=L.own i k hi;let((o,q1,q2),_):=L.obj k d0 a hk h1;exact#[a,o,h1,h2,q1,q2]
end
section
variable{X:Cx}{c:Ent}{a b e:Expr}{es:List Expr}{ta tb te:bH}{st:Stmt}{IB:List Stmt}{t u:kC}{pos:Pos}
def EZ:kC:=λR s=>R.nx s
def zC(t u:kC):kC:=λR s=>t { R with nx:=u R } s
theorem aL:xT X c [] EZ:=#[lR.imp λE O H zz=>d7 zz λM s as R L q k=>k.nx s as M O H q L .refl]
theorem af(h1:lZ X c st t)(h2:xT X c IB u):xT X c (st::IB) (zC t u):=#[(aJ h1.ps h2.ps).imp λE O H zz=>d7 zz λM s as R L q k =>
 #[M,s,as,{ R with nx:=u R },L,q,#[λs' as' M' O' H' r L' G=>#[M',s',as',R,L',r,k.grow G],k.bk,k.ct,k.rt,k.rf,k.rs]]]
theorem ai(h1:lZ X c st t):xT X c [st] t:=#[aX h1.ps]
theorem vZ:xT X c IB (λ_ _=>False):=#[ub.imp λE O H zz=>d7 zz λM s as R L q k=>q.elim]
def u7(te:bH):kC:=λR s=>te s λ_ s1=>R.nx s1
theorem bC(he:DE X c e te)(hs:swapsWith e none pos.line X.env=pure false:=by rfl):lZ X c (.Expr e pos) (u7 te):=#[(dE he.pe hs).imp λE O H zz=>d7 zz λM s as R L q k =>
 #[M,s,as,_,L,q,λd s1 r M' H' v L' E' rv=>k.nx s1 as M' O H' r L' (E'.grow L)]]
def Cm(te:bH):kC:=λR s=>te s λd _=>R.rt d
theorem aP(he:DE X c e te):lZ X c (.Return (some e) pos) (Cm te):=#[(eP he.pe).imp λE O H zz=>d7 zz λM s as R L q k =>
 #[M,s,as,_,L,q,λd s1 r M' H' v L' E' rv=>k.rt d M' H' v r L'.base rv]]
def Kq(te:bH):kC:=λR s=>te s λd _=>R.rf d
theorem cX(he:DN X c e te):lZ X c (.Return (some e) pos) (Kq te):=#[(eP he.pe).imp λE O H zz=>d7 zz λM s as R L q k =>
 #[M,s,as,_,L,q,λd s1 r M' H' a o L' E' ha ro nm ng nw h0 hn=>k.rf d M' H' a o r L'.base ha ro nm ng h0]]
def Lg(i:Nat):kC:=λR s=>∃ k d,s.sl[i]?=some (.own k)/\s.os[k]?=some (some d)/\R.rf d
theorem gw{i:Nat}(he:PE X e (bz i)):lZ X c (.Return (some e) pos) (Lg i):=#[(eP he).imp λE O H z3q=>by
 let(M,s,as,R,L,(k,d,h1,h2,q),kk):=z3q;let(a,g1,g2):=L.own i k h1;let((o,q1,q2),nm,ng,h0):=L.obj k d a h2 g1;exact#[_,g2,kk.rf d M H a o q L.base q1 q2 nm ng h0]]
def Tp(tc:mG)(t u:kC):kC:=λR s=>tc s λb s1=>if b=true then t R s1 else u R s1
theorem bK{x:Expr}{l r:List Stmt}{tc:mG}(hc:DT X c x tc)(ha:xT X c l t)(hb:xT X c r u):lZ X c (.If x l r pos) (Tp tc t u):=#[(k9 hc.pt ha.ps hb.ps).imp λE O H zz=>d7 zz λM s as R L q k =>
 #[M,s,as,_,L,q,λb s1 r M' H' L' E'=>by
  cases b with
  | true=>exact mF #[M',s1,as,R,L',by simpa using r,k.grow (E'.grow L)]
  | false=>exact sJ #[M',s1,as,R,L',by simpa using r,k.grow (E'.grow L)]]]
def vY(i:Nat)(te:bH):kC:=λR s=>te s λd s1=>R.nx (s1.set i (.dat d))
theorem IS{i:Nat}{VH:TE}(h:∀ {O H Q},tE X.K c te O H Q->VH O H Q){E:Ends}{O:St}{H:Hp}:tS X.K c (vY i te) E O H->kQ VH (eC i) E O H:=λzz=>d7 zz λM s as R L q k =>
 h #[M,s,as,_,L,q,λd s1 r M' H' v L' E' rv=>k.nx _ as M' _ H' r (L'.GS i rv) (E'.grow L)]
theorem lg{i:Nat}(h:PS X st (kQ (tE X.K c te) (eC i))):lZ X c st (vY i te):=#[h.imp λE O H=>IS λq=>q]
def ltB{α:Type}:Nat->List α->Bool
 | 0,[]=>false
 | _+1,[]=>false
 | 0,_::_=>true
 | k+1,_::r=>ltB k r
theorem D7{α:Type}:∀ {k:Nat} {l:List α},ltB k l=true->k < l.length
 | 0,[],h=>by cases h
 | _+1,[],h=>by cases h
 | 0,_::_,_=>by simp
 | k+1,_::r,h=>by
  have:=D7 (k:=k) (l:=r) h;simp;cbv
def Ib(i k:Nat)(te:bH):kC:=λR s=>te s λd s1=>(ltB k s1.os=true/\noRef k i s1.sl=true)/\R.nx #[s1.sl.set i (.own k),s1.os.set k (some d)]
theorem JL{i k:Nat}(h:PS X st (kQ (tN X.K c te) (eC i)))(kR:c.g.ju.length<=k:=by first | exact YO _ | exact Ys _ | exact Ze (YO _)):lZ X c st (Ib i k te):=#[h.imp λE O H zz=>d7 zz λM s as R L q kk =>
 #[M,s,as,_,L,q,λd s1 #[#[hk,nr],r] M' H' a o L' E' ha ro nm ng nw h0 hn=>kk.nx _ _ M' _ H' r (L'.Ul i k (D7 hk) nr ha ro nm ng nw h0 kR) (E'.grow L)]]
abbrev pQ:=D->DS->(DS->Prop)->Prop
abbrev rA:=List D->DS->(DS->Prop)->Prop
def tG(K:Frag)(c:Ent)(n:Nat)(g:pQ):TG:=λv O H Q=>∃ M s as d R,aE K c M s as O H/\Rep K H M d v/\g d s R/\∀ s',R s'->∀ O',aE K c M s' as O' H->(∀ i,n<=i->O'[i]?=O[i]?)->s'.os=s.os->Q O' H
def Xv(K:Frag)(c:Ent)(n:Nat)(g:rA):BM:=λvs O H Q=>∃ M s as ds R,aE K c M s as O H/\ay K H M ds vs/\g ds s R/\∀ s',R s'->∀ O',aE K c M s' as O' H->(∀ i,n<=i->O'[i]?=O[i]?)->s'.os=s.os->Q O' H
structure DG(X:Cx)(c:Ent)(n:Nat)(tg:Expr)(g:pQ):Prop where
 pg:PG X tg (tG X.K c n g)
structure LF(X:Cx)(c:Ent)(n:Nat)(ts:List Expr)(g:rA):Prop where
 pg:Fc X ts (Xv X.K c n g)
theorem _root_.L2.PG.imp{tg:Expr}{t t':TG}(h:PG X tg t)(w:∀ v O H Q,t' v O H Q->t v O H Q):PG X tg t':=λpins s O H v u Q I r q=>h pins s O H v u Q I r (w v O H Q q)
theorem _root_.L2.Fc.imp{tg:List Expr}{t t':BM}(h:Fc X tg t)(w:∀ v O H Q,t' v O H Q->t v O H Q):Fc X tg t':=λpins s O H v u Q I r q=>h pins s O H v u Q I r (w v O H Q q)
section
variable{n:Nat}{tg:Expr}{vQ:List Expr}{g:pQ}{gs:rA}
def qK(i:Nat):pQ:=λd s Q=>Q (s.set i (.dat d))
theorem Eo{i:Nat}(h:PG X tg (eC i))(hi:i < n):DG X c n tg (qK i):=#[h.imp λv O H Q z4q=>by let(M,s,as,d,R,L,r,q,k):=z4q;exact k _ q _ (L.GS i r) (λj hj=>YM (by cbv)) U]
def ID:rA:=λds s Q=>ds=[]/\Q s
def zm(g:pQ)(gs:rA):rA:=λds s Q=>∃ d r,ds=d::r/\g d s λs1=>gs r s1 Q
theorem fE:LF X c n [] ID:=#[zQ.imp λv O H Q z5q=>by
 let(M,s,as,ds,R,L,r,(e,q),k):=z5q;subst e;exact#[r,k s q O L (λ_ _=>rfl) U]]
theorem aQ(h1:DG X c n tg g)(h2:LF X c n vQ gs)(hs:(assignEach (tg::vQ) X.env).map (·.2)=assign tg X.env::(assignEach vQ X.env).map (·.2):=by rfl):LF X c n (tg::vQ) (zm g gs) :=
 #[(rJ h1.pg h2.pg hs).imp λv O H Q z6q=>by
   let(M,s,as,ds,R,L,r,(d,dr,e,q),k):=z6q;subst e;let(x,xr,rfl,r1,r2):=r;exact#[x,xr,U,M,s,as,d,_,L,r1,q,λs1 q1 O1 L1 e1 o1=>#[M,s1,as,dr,R,L1,r2,q1,λs2 q2 O2 Lb e2 o2=>k s2 q2 O2 Lb (λi hi=>(e2 i hi).trans (e1 i hi)) (o2.trans o1)]]]
def Hu(m:Nat)(gs:rA):pQ:=λd s Q=>∃ ds,d=.tup ds/\ds.length=m/\gs ds s Q
theorem f9{k m:Nat}(hc:X.calm=true)(h:LF X c n vQ gs)(hn:(assignEach vQ X.env).length=m:=by rfl)(kX:(assignEach vQ X.env).findIdx? (·.1)=none:=by rfl):DG X c n (.Tuple vQ k pos) (Hu m gs) :=
 #[(CK hc h.pg hn kX).imp λv O H Q z7q=>by
   let(M,s,as,d,R,L,r,(ds,e,hl,q),kk):=z7q;subst e;let(a,xs,rfl,t,r):=r;exact#[a,xs,U,t.sq,r.length.trans hl,M,s,as,ds,R,L,r,q,kk]]
def OZ(te:bH)(g:pQ):kC:=λR s=>te s λd s1=>g d s1 R.nx
theorem Hv(he:DE X c e te)(hg:DG X c n tg g)(hs:swapsWithSole [tg] e pos.line X.env=pure false:=by rfl)(hw:swappedStores [tg] e X.env=pure none:=by rfl)(h1:(assignEach [tg] X.env).map (·.2)=[assign tg X.env]:=by rfl):lZ X c (.Assign [tg] e pos) (OZ te g):=#[(rT he.pe hg.pg hs hw h1).imp λE O H zz=>d7 zz λM s as R L q k =>
 #[M,s,as,_,L,q,λd s1 r M' H' v L' E' rv=>#[M',s1,as,d,_,L',rv,r,λs2 q2 O2 Lb _ _=>k.nx s2 as M' O2 H' q2 Lb (E'.grow L)]]]
end
def Xt(K:Frag)(M:Addr->Prop)(H:Hp)(d:D)(x:V)(H':Hp):Prop :=
 (H'=H/\Rep K H M d x)\/∃ p o,H p=none/\H'=upd H p o/\Rep K H' (λb=>M b\/b=p) d x
def KU(K:Frag)(M:Addr->Prop)(H:Hp)(ds:List D)(J:It):Prop:=∀ M1 H1,eT M H M1 H1 ->
 (∀ i,ds.length<=i->J.stop i H1)/\∀ i d,ds[i]?=some d->J.go i H1/\∀ x H2,J.IJ i H1 x H2->Xt K M1 H1 d x H2
def tI(K:Frag)(c:Ent)(t:gb):TI:=λO H R=>∃ M s as R0,aE K c M s as O H/\t s R0/\∀ ds s',R0 ds s'->∀ M' H' J,aE K c M' s' as O H'->Ext c as M s H M' s' H'->KU K M' H' ds J->ds.length<=sizeLine->R J H'
structure DI(X:Cx)(c:Ent)(tg iter:Expr)(t:gb):Prop where
 pi:PI X tg iter (tI X.K c t)
def mT(g:pQ)(tb:kC)(R:jb):List D->DS->Prop
 | [],s=>R.nx s
 | x::xs,s=>g x s λs1=>tb { R with nx:=λs'=>mT g tb R xs s',ct:=λs'=>mT g tb R xs s',bk:=R.nx } s1
def IC(ti:gb)(g:pQ)(tb:kC):kC:=λR s=>ti s λxs s1=>mT g tb R xs s1
theorem drop_cons{α:Type}{l:List α}{i:Nat}{x:α}(h:l[i]?=some x):l.drop i=x::l.drop (i+1):=by
 let(hl,e):=Yu.mp h;rw[ZY hl,e]
theorem MX{n:Nat}{tg iter:Expr}{body:List Stmt}{ti:gb}{g:pQ}{tb:kC}(hp:PassesOwn (model X.prog X.w) X.A X.env X.xe)(hc:X.calm=true)(hi:DI X c tg iter ti)(hg:DG X c n tg g)(hb:xT X c body tb)(hs:aaA iter X.env:=by intro _;rfl):lZ X c (.For tg iter body [] pos) (IC ti g tb):=#[(nX hp hc hi.pi hg.pg hb.ps hs).imp λE O H zz=>d7 zz λM s as R L q k=>by
 refine#[M,s,as,_,L,q,λxs s1 q1 M1 H1 J L1 E1 io hlen=>?_];refine#[λi m O' H'=>i<=xs.length/\m=xs.length - i/\∃ M' s' as',aE X.K c M' s' as' O' H'/\eT M1 H1 M' H'/\mT g tb R (xs.drop i) s',#[_,YO _,U,M1,s1,as,L1,.refl,q1],?_];rintro i m O' H' ⟨hi,rfl,M',s',as',L',G',q'⟩;let(h1,h2):=io M' H' G';by_cases kR:i < xs.length
 .refine .inr ?_;have hx:xs[i]?=some xs[i]:=YY kR;let(hgo,hy):=h2 i _ hx;rw[drop_cons hx] at q';have next:∀ s2 as2 M2 O2 H2,mT g tb R (xs.drop (i+1)) s2->aE X.K c M2 s2 as2 O2 H2->eT M1 H1 M2 H2->∃ m',m' < xs.length - i/\(i+1<=xs.length/\m'=xs.length - (i+1)/\∃ M' s' as',aE X.K c M' s' as' O2 H2/\eT M1 H1 M' H2/\mT g tb R (xs.drop (i+1)) s') :=
   λs2 as2 M2 O2 H2 f L2 G2=>#[xs.length - (i+1),by cbv,kR,U,M2,s2,as2,L2,G2,f]
  refine#[hgo,λO2 H2=>∃ s2 as2 M2,mT g tb R (xs.drop (i+1)) s2/\aE X.K c M2 s2 as2 O2 H2/\eT M1 H1 M2 H2,λO2 H2 z8q=>by let(s2,as2,M2,f,L2,G2):=z8q;exact next s2 as2 M2 O2 H2 f L2 G2,λx H2 y=>?_];have go:∀ M2,aE X.K c M2 s' as' O' H2->Rep X.K H2 M2 xs[i] x->eT M1 H1 M2 H2->eT M H M2 H2->tG X.K c n g x O' H2 λO2 H2=>tS X.K c tb { nx:=λO2 H2=>∃ s2 as2 M2,mT g tb R (xs.drop (i+1)) s2/\aE X.K c M2 s2 as2 O2 H2/\eT M1 H1 M2 H2,rt:=E.rt,bk:=E.nx,ct:=λO2 H2=>∃ s2 as2 M2,mT g tb R (xs.drop (i+1)) s2/\aE X.K c M2 s2 as2 O2 H2/\eT M1 H1 M2 H2 } O2 H2:=λM2 L2 r2 G2 G0 =>
   #[M2,s',as',_,_,L2,r2,q',λs3 q3 O3 L3 _ _=>#[M2,s3,as',_,L3,q3,#[λs4 as4 M4 O4 H4 f L4 G4=>#[s4,as4,M4,f,L4,G2.trans G4],λs4 as4 M4 O4 H4 f L4 G4=>k.nx s4 as4 M4 O4 H4 f L4 (G0.trans G4),λs4 as4 M4 O4 H4 f L4 G4=>#[s4,as4,M4,f,L4,G2.trans G4],k.rt,k.rf,k.rs]]]
  rcases hy x H2 y with ⟨rfl,r⟩ | ⟨p,o,hp,rfl,r⟩
  .exact go M' L' r G' ((E1.grow L).trans G')
  .have G2:eT M' H' (λb=>M' b\/b=p) (upd H' p o):=λb mb=>#[.inl mb,λu e=>by rw[aq (av e hp)];exact e];exact go _ (L'.fresh hp) r (G'.trans G2) (((E1.grow L).trans G').trans G2)
 .have e:i=xs.length:=by cbv
  subst e;rw[aaj] at q';exact .inl #[h1 _ (Ys _),k.nx s' as' M' O' H' q' L' ((E1.grow L).trans G')]]
def G8(tc:mG)(tb:kC):kC:=λR s=>∃ W:Nat->DS->Prop,(∃ m,W m s)/\∀ m s,W m s->tc s λb s1=>if b=true then tb { R with nx:=λs'=>∃ m',m' < m/\W m' s',ct:=λs'=>∃ m',m' < m/\W m' s',bk:=R.nx } s1 else R.nx s1
theorem uJ{x:Expr}{body:List Stmt}{tc:mG}{tb:kC}(hp:PassesOwn (model X.prog X.w) X.A X.env X.xe)(hc:DT X c x tc)(hb:xT X c body tb):lZ X c (.While x body [] pos) (G8 tc tb):=#[(xj hp hc.pt hb.ps).imp λE O H z9q=>by
 let(M,s,as,R,L,(W,(m0,w0),turn),k):=z9q;refine#[λm O' H'=>∃ M' s' as',aE X.K c M' s' as' O' H'/\eT M H M' H'/\W m s',#[m0,M,s,as,L,.refl,w0],?_];rintro m O' H' ⟨M',s',as',L',G',w'⟩;refine#[M',s',as',_,L',turn m s' w',λb s1 q1 M1 H1 L1 E1=>?_];cases b with
 | true =>
  refine mF #[λO2 H2=>∃ s2 as2 M2,(∃ m',m' < m/\W m' s2)/\aE X.K c M2 s2 as2 O2 H2/\eT M H M2 H2,λO2 H2 z0q=>by let(s2,as2,M2,(m',hm,w2),L2,G2):=z0q;exact#[m',hm,M2,s2,as2,L2,G2,w2],?_];have G1:=G'.trans (E1.grow L');exact#[M1,s1,as',{ R with nx:=λs'=>∃ m',m' < m/\W m' s',ct:=λs'=>∃ m',m' < m/\W m' s',bk:=R.nx },L1,by simpa using q1,#[λs4 as4 M4 O4 H4 f L4 G4=>#[s4,as4,M4,f,L4,G1.trans G4],λs4 as4 M4 O4 H4 f L4 G4=>k.nx s4 as4 M4 O4 H4 f L4 (G1.trans G4),λs4 as4 M4 O4 H4 f L4 G4=>#[s4,as4,M4,f,L4,G1.trans G4],k.rt,k.rf,k.rs]]
 | false=>exact sJ (k.nx s1 as' M1 O' H1 (by simpa using q1) L1 (G'.trans (E1.grow L')))]
end
abbrev aav:=List D->(D->Prop)->Prop
def aO(K:Frag)(g:A9)(t:aav):Sp:=λvs H Q _=>∃ M ds R,Base #[g,M,H] M H/\ay K H M ds vs/\t ds R/\∀ d,R d->∀ M' H' v,Base #[g,M,H] M' H'->Rep K H' M' d v->Q v H'
def hZ(K:Frag)(g:A9)(t:aav):Sp:=λvs H Q _=>∃ M ds R,Base #[g,M,H] M H/\ay K H M ds vs/\t ds R/\∀ d,R d->∀ M' H' a o,Base #[g,M,H] M' H'->H' a=some o->cG K H' M' d o->¬ M' a->¬ g.own a->H a=none->Q (.ref a) H'
section
variable{K:Frag}{c:Ent}{M M' M1:Addr->Prop}{s s' s1:DS}{as:List Addr}{O:St}{H H' H1:Hp}
theorem Base.here(B:Base c M H):Base #[c.g,M,H] M H:=#[B.lI,λ_ _ e _=>e,B.md,B.mo,λ_ m=>m,λ_ m=>.inl m]
theorem Base.CJ(B:Base c M H):Base #[.no,M,H] M H:=#[trivial,λ_ _ e _=>e,B.md,λ_ _ h=>h,λ_ m=>m,λ_ m=>.inl m]
theorem Base.yp(B:Base c M H)(B':Base #[.no,M,H] M' H'):Base #[c.g,M,H] M' H' where
 lI:=c.g.loc H H' B.lI λb o _ e=>B'.fr b o e λz=>z
 fr:=λb o e _=>B'.fr b o e λz=>z
 md:=B'.md
 mo:=λb m g=>by
  rcases B'.mn b m with m | n | ⟨xs,n⟩
  .exact B.mo b m g
  .let(o,e):=c.g.Ky H b B.lI g;have n:H b=none:=n;rw[n] at e;cases e
  .exact c.g.nt H b xs B.lI g n
 m0:=B'.m0
 mn:=B'.mn
theorem aE.after(L:aE K c M s as O H)(B:Base #[c.g,M,H] M' H'):aE K c M' s as O H' where
 base:=#[B.lI,λb o e g=>B.fr b o (L.base.fr b o e g) g,B.md,B.mo,λb m=>B.m0 b (L.base.m0 b m),λb m=>by
  rcases B.mn b m with m | n | ⟨xs,n⟩
  .exact L.base.mn b m
  .exact .inr (.inl (L.base.oN n))
  .have n:H b=some (.tup xs):=n;refine .inr ?_;cases e:c.H0 b with
   | none=>exact .inl e
   | some o =>
    have:=L.base.fr b o e λg=>c.g.nt H b xs L.base.lI g n;rw[n] at this;cases this;exact .inr #[xs,e]]
 len:=L.len
 gg:=L.gg
 dat:=λi d e=>by
  let(v,h1,h2):=L.dat i d e;exact#[v,h1,Rep.mono B.m0 (λb o m e=>B.fr b o e (L.base.mo b m)) d v h2]
 own:=L.own
 obj:=λk d a h1 h2=>by
  let((o,q1,q2),nm,ng,h0):=L.obj k d a h1 h2;refine#[#[o,B.fr a o q1 ng,q2.mono B.m0 λb o m e=>B.fr b o e (L.base.mo b m)],λm=>?_,ng,h0];rcases B.mn a m with m | n | ⟨xs,n⟩
  .exact nm m
  .have n:H a=none:=n;rw[n] at q1;cases q1
  .have n:H a=some (.tup xs):=n;rw[n] at q1;cases q1;exact q2.B9
 inj:=L.inj
 lt:=L.lt
theorem Ext.after(B:Base #[c.g,M,H] M' H'):Ext c as M s H M' s H':=#[B.m0,λb m=>by
 rcases B.mn b m with m | n
 .exact .inl m
 .exact .inr (.inl n),λb o e g _=>B.fr b o e g,λ_ h=>h]
end
section
variable{X:Cx}{c:Ent}{k:Nat}{f:Addr}{fd:FuncData}{ps:List Str}{t:aav}{x:Str}{p pos:Pos}{e:Expr}{es:List Expr}{ta:gb}
def eY(t:aav)(ta:gb):bH:=λs Q=>ta s λds s1=>t ds λd=>Q d s1
theorem Bv{O:St}{H:Hp}{Q:VK}{n:Nat}{E:XK}:tE X.K c (eY t ta) O H Q->wO (aO X.K c.g t) [] E (tA X.K c n ta) O H Q:=λzz=>d7 zz λM s as R L q kk =>
 #[M,s,as,_,L,q,λds s1 q1 M1 H1 vs L1 E1 r1 hl=>#[M1,ds,_,L1.base.here,by rw[YA];exact r1,q1,λd rd M' H' v B rv=>kk d s1 rd M' H' v (L1.after B) (E1.trans L1.base (Ext.after B)) rv]]
theorem Ga{O:St}{H:Hp}{Q:VK}{n:Nat}{E:XK}:tE X.K c (eY t ta) O H Q->wO (aO X.K .no t) [] E (tA X.K c n ta) O H Q:=λzz=>d7 zz λM s as R L q kk =>
 #[M,s,as,_,L,q,λds s1 q1 M1 H1 vs L1 E1 r1 hl=>#[M1,ds,_,L1.base.CJ,by rw[YA];exact r1,q1,λd rd M' H' v B rv=>kk d s1 rd M' H' v (L1.after (L1.base.yp B)) (E1.trans L1.base (Ext.after (L1.base.yp B))) rv]]
theorem Dg{K:Frag}{as:List Addr}{M M1 M':Addr->Prop}{s s1:DS}{O:St}{H H1 H':Hp}{a:Addr}(L:aE K c M s as O H)(L1:aE K c M1 s1 as O H1)(E1:Ext c as M s H M1 s1 H1)(B:Base #[c.g,M1,H1] M' H')(ng:¬ c.g.own a)(hn:H1 a=none) :
  ¬ d6 s1 as a/\c.H0 a=none/\(H a=none\/d6 s as a):=by
 refine#[λw=>?_,L1.base.oN hn,?_]
 .let(_,_,_,u,e):=L1.nM w;rw[hn] at e;cases e
 .cases q:H a with
  | none=>exact .inl U
  | some u =>
   by_cases w:d6 s as a
   .exact .inr w
   .have:=E1.keep a u q ng w;rw[hn] at this;cases this
theorem Eb{O:St}{H:Hp}{Q:VK}{n:Nat}{E:XK}:tN X.K c (eY t ta) O H Q->wO (hZ X.K .no t) [] E (tA X.K c n ta) O H Q:=λzz=>d7 zz λM s as R L q kk =>
 #[M,s,as,_,L,q,λds s1 q1 M1 H1 vs L1 E1 r1 hl=>#[M1,ds,_,L1.base.CJ,by rw[YA];exact r1,q1,λd rd M' H' a o B ha ro nm ng hn=>by
  have ng':¬ c.g.own a:=λg=>by
   let(u,e):=c.g.Ky H1 a L1.base.lI g;rw[hn] at e;cases e
  let(z1,z2,z3):=Dg L L1 E1 (L1.base.yp B) ng' hn;exact kk d s1 rd M' H' a o (L1.after (L1.base.yp B)) (E1.trans L1.base (Ext.after (L1.base.yp B))) ha ro nm ng' z1 z2 z3]]
section
variable(hr:cU k X.A)(hg:Gl X x)(hm:X.mg x=some (.ref f))(hk:keepIn X.K (.ref f)=true)(hb:Binds X.K fd ps [])(ha:DA X c (e::es) ta)
include hr hg hm hk hb ha
theorem Ka(F:bV X.prog X.w X.K X.mg X.base aD k f fd ps (aO X.K c.g t))(kP:aay x:=by decide)(he:aaw X.env e es:=by rfl)(fC:aax X.env pos es:=by rfl) :
  DE X c (.Call (.Name x p) (e::es) [] pos) (eY t ta):=#[(cK F hr hg hm hk hb .nil (E:=E0) fW ha.pa kP he fC).imp λ_ _ _=>Bv]
theorem F8(F:bV X.prog X.w X.K X.mg X.base aD k f fd ps (aO X.K .no t))(kP:aay x:=by decide)(he:aaw X.env e es:=by rfl)(fC:aax X.env pos es:=by rfl) :
  DE X c (.Call (.Name x p) (e::es) [] pos) (eY t ta):=#[(cK F hr hg hm hk hb .nil (E:=E0) fW ha.pa kP he fC).imp λ_ _ _=>Ga]
theorem Gp(F:bV X.prog X.w X.K X.mg X.base aD k f fd ps (hZ X.K .no t))(kP:aay x:=by decide)(he:aaw X.env e es:=by rfl)(fC:aax X.env pos es:=by rfl) :
  DN X c (.Call (.Name x p) (e::es) [] pos) (eY t ta):=#[(cK F hr hg hm hk hb .nil (E:=E0) fW ha.pa kP he fC).imp λ_ _ _=>Eb]
end
end
def fM(n nos:Nat)(ds:List D):DS:=#[ds.map .dat++List.replicate (n - ds.length) .no,List.replicate nos none]
theorem lL{K:Frag}{g:A9}{M:Addr->Prop}{H:Hp}{N:List Str}{nos:Nat}{ds:List D}{vs:List V}(B:Base #[g,M,H] M H)(r:ay K H M ds vs)(hg:g.ju=[]):aE K #[g,M,H] M (fM N.length nos ds) (List.replicate nos 0) (L2.start N vs) H where
 base:=B
 len:=by
  have:=r.length;show (ds.map Sl.dat++List.replicate (N.length - ds.length) Sl.no).length=(vs.map some++List.replicate (N.length - vs.length) none).length;simp[this]
 gg:=by simp[fM]
 dat:=λi d h=>by
  have hl:=r.length;by_cases hi:i < ds.length
  .have h':(ds.map Sl.dat)[i]?=some (.dat d):=by
    rw[fM,List.getElem?_append_left (by simpa using hi)] at h;exact h
   rw[YS] at h';let(e,h1,h2):=YK.mp h';cases h2;let(v,q1,q2):=r.get h1;refine#[v,?_,q2];rw[L2.start,List.getElem?_append_left (by simp;cbv),List.getElem?_map,q1]
   rfl
  .rw[fM,List.getElem?_append_right (by simpa using hi)] at h;have:=Yu.mp h;let(_,e):=this;simp at e
 own:=λi k h=>by
  by_cases hi:i < ds.length
  .rw[fM,List.getElem?_append_left (by simpa using hi),List.getElem?_map] at h;let(e,h1,h2):=YK.mp h;cases h2
  .rw[fM,List.getElem?_append_right (by simpa using hi)] at h;let(_,e):=Yu.mp h;simp at e
 obj:=λk d a h=>by
  let(_,e):=Yu.mp h;simp[fM] at e
 inj:=λk l d e a h=>by
  let(_,e):=Yu.mp h;simp[fM] at e
 lt:=λk a h=>by
  have h:g.ju[k]?=some a:=h;rw[hg] at h;cases h
section
variable{P:Program}{w:World}{K:Frag}{mg:Str->Option Value}{base:Heap}
theorem Ts{x qual:Str}{st:Stmt}{f:Addr}{fd:FuncData}{N ps:List Str}{k nos:Nat}{g:A9}{t:aav}(F:vk K x qual st f fd)(S:ao N ps (ag st))(len:∀ ds R,t ds R->ds.length=ps.length)(hb:∀ (a9:Value) (A:Around) (outer:List Env) (s:Shared) (H:Hp) (E:XK) (M:Addr->Prop),cU k (A.deeper (envOfC qual (ag st) ↑s f a9)) ->
   ∃ tb,xT (m9 aD P w K mg base N qual (ag st) f a9 A outer s H E).Ai #[g,M,H] (aS st) tb/\∀ ds R,t ds R->tb { nx:=λ_=>R .cw,rt:=R } (fM N.length nos ds))(hg:g.ju=[]:=by rfl):bV P w K mg base aD (k+1) f fd ps (aO K g t):=by
 refine F.ok S (λvs H Q E h=>?_) λa9 A outer s H vs Q E hr h=>?_
 .let(M,ds,R,B,r,q,_):=h;rw[r.length];exact len ds R q
 .let(M,ds,R,B,r,q,kk):=h;let(tb,h1,h2):=hb a9 A outer s H E M hr;exact#[_,h1.ps,M,_,_,_,lL B r hg,h2 ds R q,#[λs as M' O H' r L _=>kk .cw r M' H' .cw L.base U,λ_ _ _ _ _ z=>z.elim,λ_ _ _ _ _ z=>z.elim,λd M' H' v r B' rv=>kk d r M' H' v B' rv,λ_ _ _ _ _ z=>z.elim,λ_ _ _ _ _ _ _ z=>z.elim]]
theorem LZ{x qual:Str}{st:Stmt}{f:Addr}{fd:FuncData}{N ps:List Str}{k nos:Nat}{g:A9}{t:aav}(F:vk K x qual st f fd)(S:ao N ps (ag st))(len:∀ ds R,t ds R->ds.length=ps.length)(hb:∀ (a9:Value) (A:Around) (outer:List Env) (s:Shared) (H:Hp) (E:XK) (M:Addr->Prop),cU k (A.deeper (envOfC qual (ag st) ↑s f a9)) ->
   ∃ tb,xT (m9 aD P w K mg base N qual (ag st) f a9 A outer s H E).Ai #[g,M,H] (aS st) tb/\∀ ds R,t ds R->tb { nx:=λ_=>False,rt:=λ_=>False,rf:=R } (fM N.length nos ds))(hg:g.ju=[]:=by rfl):bV P w K mg base aD (k+1) f fd ps (hZ K g t):=by
 refine F.ok S (λvs H Q E h=>?_) λa9 A outer s H vs Q E hr h=>?_
 .let(M,ds,R,B,r,q,_):=h;rw[r.length];exact len ds R q
 .let(M,ds,R,B,r,q,kk):=h;let(tb,h1,h2):=hb a9 A outer s H E M hr;exact#[_,h1.ps,M,_,_,_,lL B r hg,h2 ds R q,#[λ_ _ _ _ _ z=>z.elim,λ_ _ _ _ _ z=>z.elim,λ_ _ _ _ _ z=>z.elim,λ_ _ _ _ z=>z.elim,λd M' H' a o r B' ha ro nm ng h0=>kk d r M' H' a o B' ha ro nm ng h0,λ_ _ _ _ _ _ _ z=>z.elim]]
end
section
variable{K:Frag}{c:Ent}{M M' M1 M3 M6:Addr->Prop}{s s' s1 s6:DS}{as:List Addr}{O O4:St}{H H' H1 H3 H6:Hp}{a p q:Addr}{o:HO}{d:D}{v:V}
def il(nt:Nat)(us:List Nat)(s:DS):DS:=#[List.replicate nt .no++us.map λj=>s.sl.getD j .no,s.os]
theorem ud{nt:Nat}{us:List Nat}{i:Nat}{x:Sl}(hx:x≠.no)(h:(il nt us s).sl[i]?=some x):∃ j,us[i - nt]?=some j/\nt<=i/\s.sl[j]?=some x:=by
 by_cases hi:i < nt
 .rw[il,List.getElem?_append_left (by simpa using hi)] at h;let(_,e):=Yu.mp h;simp at e;exact absurd e.symm hx
 .rw[il,List.getElem?_append_right (by simpa using hi)] at h;simp only[List.length_replicate] at h;rw[YS] at h;let(j,h1,h2):=YK.mp h;refine#[j,h1,by cbv,?_];rw[ZU] at h2;cases e:s.sl[j]? with
  | none=>rw[e] at h2;exact absurd h2.symm hx
  | some y=>rw[e] at h2;exact congrArg some h2
theorem wR{nt:Nat}{us:List Nat}{i j:Nat}{v:V}(hj:us[i - nt]?=some j)(hi:nt<=i)(h:O[j]?=some (some v)):(L2.lift nt us O)[i]?=some (some v):=by
 rw[L2.lift,List.getElem?_append_right (by simpa using hi),List.length_replicate,List.getElem?_map,hj,Option.map_some,h]
 rfl
theorem aE.inner(L:aE K c M s as O H)(nt:Nat)(us:List Nat):aE K c M (il nt us s) as (L2.lift nt us O) H where
 base:=L.base
 len:=by simp[il,L2.lift]
 gg:=L.gg
 dat:=λi d h=>by
  let(j,h1,h2,h3):=ud (by intro z;cases z) h;let(v,g1,g2):=L.dat j d h3;exact#[v,wR h1 h2 g1,g2]
 own:=λi k h=>by
  let(j,h1,h2,h3):=ud (by intro z;cases z) h;let(v,g1,g2):=L.own j k h3;exact#[v,g1,wR h1 h2 g2]
 obj:=L.obj
 inj:=L.inj
 lt:=L.lt
theorem aE.outer(L:aE K c M s as O H)(E:Ext c as M s1 H M6 s6 H6)(hs:s1.os=s.os)(L6:aE K c M6 s6 as O4 H6):aE K c M6 #[s.sl,s6.os] as O H6 where
 base:=L6.base
 len:=L.len
 gg:=L6.gg
 dat:=λi d h=>by
  let(v,g1,g2):=L.dat i d h;have E':Ext c as M s H M6 s6 H6:=#[E.sub,λb m=>by
   rcases E.new b m with h | h | ⟨k,e,h1,h2⟩
   .exact .inl h
   .exact .inr (.inl h)
   .exact .inr (.inr #[k,e,by rw[<- hs];exact h1,h2]),λb o e g w=>E.keep b o e g λ#[k,e,h1,h2]=>w #[k,e,by rw[<- hs];exact h1,h2],λb w=>by
   let(k,e,h1,h2):=E.kO b w;exact#[k,e,by rw[<- hs];exact h1,h2]]
  exact#[v,g1,E'.rep L g2]
 own:=L.own
 obj:=L6.obj
 inj:=L6.inj
 lt:=L6.lt
theorem Ext.os{s2 WZ:DS}(E:Ext c as M s H M' s' H')(hs:s.os=s2.os)(Fd:s'.os=WZ.os):Ext c as M s2 H M' WZ H':=#[E.sub,λb m=>by
   rcases E.new b m with h | h | ⟨k,e,h1,h2⟩
   .exact .inl h
   .exact .inr (.inl h)
   .exact .inr (.inr #[k,e,by rw[<- hs];exact h1,h2]),λb o e g w=>E.keep b o e g λ#[k,e,h1,h2]=>w #[k,e,by rw[<- hs];exact h1,h2],λb z7r=>by
   let(k,e,h1,h2):=z7r;let(k,e,h1,h2):=E.kO b #[k,e,by rw[Fd];exact h1,h2];exact#[k,e,by rw[<- hs];exact h1,h2]]
theorem aE.wr{ys:List V}(L:aE K c M s as O H)(hq:H q=some (.lst ys))(nm:¬ M q)(ng:¬ c.g.own q)(nw:¬ d6 s as q)(h0:c.H0 q=none):aE K c M s as O (upd H q o):=by
 have kp:∀ b u,b≠q->H b=some u->upd H q o b=some u:=λb u ne e=>by rw[aq ne];exact e
 have km:∀ b u,M b->H b=some u->upd H q o b=some u:=λb u m e=>kp b u (λz=>nm (z▸m)) e;refine#[#[c.g.loc H _ L.base.lI λb u g e=>kp b u (λz=>g.elim (λg=>ng (z▸g)) λ#[φ,f]=>by subst f;rw[z,hq] at e;cases e) e,λb u e g=>kp b u (λz=>by rw[z,h0] at e;cases e) (L.base.fr b u e g),λb m=>?_,L.base.mo,L.base.m0,L.base.mn],L.len,L.gg,λi e h=>?_,L.own,λl e b h1 h2=>?_,L.inj,L.lt]
 .let(u,e):=L.base.md b m;exact#[u,km b u m e]
 .let(w,h1,h2):=L.dat i e h;exact#[w,h1,Rep.mono (λ_ m=>m) km e w h2]
 .let((u,q1,q2),q3):=L.obj l e b h1 h2;refine#[#[u,kp b u (λz=>?_) q1,q2.mono (λ_ m=>m) km],q3];subst z;exact nw #[l,e,h1,h2]
theorem Ext.wr(hn:H q=none)(E:Ext c as M s H M' s' H'):Ext c as M s H M' s' (upd H' q o):=#[E.sub,E.new,λb u e g w=>by
 rw[aq (av e hn)];exact E.keep b u e g w,E.kO]
theorem Dd(L:aE K c M s as O H)(E1:Ext c as M s H M1 s1 H1)(ng:¬ c.g.own a)(hn:H1 a=none):H a=none\/d6 s as a:=by
 cases q:H a with
 | none=>exact .inl U
 | some u =>
  by_cases w:d6 s as a
  .exact .inr w
  .have:=E1.keep a u q ng w;rw[hn] at this;cases this
end
def c9(nt:Nat)(us:List Nat)(g:pQ)(ti:mG)(te:bH):List D->List D->DS->(List D->DS->Prop)->Prop
 | [],acc,s,Q=>Q acc s
 | x::xs,acc,s,Q=>g x (il nt us s) λs1=>ti s1 λb s2=>if b=true then te s2 λy s3=>c9 nt us g ti te xs (acc++[y]) #[s.sl,s3.os] Q else c9 nt us g ti te xs acc #[s.sl,s2.os] Q
def vc(nt:Nat)(us:List Nat)(tx:gb)(g:pQ)(ti:mG)(te:bH):bH:=λs Q=>tx s λxs s1=>c9 nt us g ti te xs [] s1 λys s2=>Q (.lst ys) s2
structure Q7(X:Cx)(c:Ent)(ifs:List Expr)(t:mG):Prop where
 VG:LO X ifs (tT X.K c t)
section
variable{X:Cx}{c:Ent}{e:Expr}{pos:Pos}
def cf:mG:=λs Q=>Q true s
theorem bh:Q7 X c [] cf:=#[λpins s O H Q I z4q=>by let(M,s',as,R,L,q,k):=z4q;exact uW pins s O H Q I (k true s' q M H L .refl)]
end
section
variable{X:Cx}{c:Ent}{ts:List Str}{us:List Nat}{scope:Scope}{tg elt iter:Expr}{ifs:List Expr}{pos:Pos}{tx:gb}{g:pQ}{ti:mG}{te:bH}
theorem zx{O:St}{H:Hp}{Q:VK}:tN X.K c (vc ts.length us tx g ti te) O H Q->xi ts.length us (tI X.K c tx) (tG X.K c ts.length g) (tT X.K c ti) (tE X.K c te) O H Q:=λzz=>d7 zz λM s as R L q k=>by
 refine#[M,s,as,_,L,q,λxs s1 q1 M1 H1 J L1 E1 io hlen=>?_];intro A hA;let(n1,n2,n3,n4):=notM L1 hA;refine#[λi m ys H2=>i<=xs.length/\m=xs.length - i/\ys.length<=i/\∃ M' s' zs,aE X.K c M' s' as O H2/\Ext c as M1 s1 H1 M' s' H2/\H2 A=some (.lst ys)/\ay X.K H2 M' zs ys/\¬ M' A/\c9 ts.length us g ti te (xs.drop i) zs s' λys s2=>R (.lst ys) s2,
  #[_,YO _,U,Ys _,M1,s1,[],L1.laid hA,Ext.laid hA,au,U,n1,q1],?_]
 rintro i m ys H2 ⟨hi,rfl,hy,M',s',zs,L',E',hD,rz,nm,q'⟩;have nw:∀ {FX:DS},(∀ b,d6 FX as b->d6 s' as b)->¬ d6 FX as A:=λh w=>n3 (E'.kO A (h A w));refine#[hD,?_];have G':eT M1 H1 M' H2:=E'.grow L1;let(h1,h2):=io M' H2 G';by_cases kR:i < xs.length
 .refine .inr ?_;have hx:xs[i]?=some xs[i]:=YY kR;let(hgo,hyl):=h2 i _ hx;rw[drop_cons hx] at q';refine#[hgo,by cbv,λx H3 y=>?_];have go:∀ M3,aE X.K c M3 s' as O H3->Rep X.K H3 M3 xs[i] x->Ext c as M' s' H2 M3 s' H3->H3 A=some (.lst ys)->¬ M3 A->tG X.K c ts.length g x (L2.lift ts.length us O) H3 λO4 H4=>Cw (L2.lift ts.length us O) O4/\tT X.K c ti O4 H4 λb H5 =>
    if b=true then tE X.K c te O4 H5 λy H6=>H6 A=some (.lst ys)/\∃ m',m' < xs.length - i/\(i+1<=xs.length/\m'=xs.length - (i+1)/\(ys++[y]).length<=i+1/\∃ M' s' zs,aE X.K c M' s' as O (upd H6 A (.lst (ys++[y])))/\Ext c as M1 s1 H1 M' s' (upd H6 A (.lst (ys++[y])))/\upd H6 A (.lst (ys++[y])) A=some (.lst (ys++[y]))/\ay X.K (upd H6 A (.lst (ys++[y]))) M' zs (ys++[y])/\¬ M' A/\c9 ts.length us g ti te (xs.drop (i+1)) zs s' λys s2=>R (.lst ys) s2)
    else ∃ m',m' < xs.length - i/\(i+1<=xs.length/\m'=xs.length - (i+1)/\ys.length<=i+1/\∃ M' s' zs,aE X.K c M' s' as O H5/\Ext c as M1 s1 H1 M' s' H5/\H5 A=some (.lst ys)/\ay X.K H5 M' zs ys/\¬ M' A/\c9 ts.length us g ti te (xs.drop (i+1)) zs s' λys s2=>R (.lst ys) s2):=by
   intro M3 L3 r3 E3 hD3 nm3;refine#[M3,_,as,_,_,L3.inner ts.length us,r3,q',λs4 q4 O4 L4 e4 o4=>#[λj v hj=>?_,M3,s4,as,_,L4,q4,λb s5 r5 M5 H5 L5 E5=>?_]]
   .by_cases hjn:j < ts.length
    .rw[L2.lift,List.getElem?_append_left (by simpa using hjn)] at hj;let(_,e):=Yu.mp hj;simp at e
    .rw[e4 j (by cbv)];exact hj
   .have E5':Ext c as M3 s' H3 M5 #[s'.sl,s5.os] H5:=E5.os o4 U;have L5':aE X.K c M5 #[s'.sl,s5.os] as O H5:=L3.outer E5 o4 L5;have F5:Ext c as M' s' H2 M5 #[s'.sl,s5.os] H5:=E3.trans L3.base E5';have hD5:H5 A=some (.lst ys):=E5'.keep A _ hD3 n2 (nw λ_ h=>h);have nm5:¬ M5 A:=λm=>by
     rcases E5'.new A m with m | (m | ⟨_,m⟩) | m
     .exact nm3 m
     .rw[hD3] at m;cases m
     .rw[hD3] at m;cases m
     .exact nw (λ_ h=>h) m
    cases b with
    | false =>
     rw[if_neg Yy] at r5;refine sJ ?_;exact#[xs.length - (i+1),by cbv,kR,U,by cbv,M5,_,zs,L5',E'.trans L'.base F5,hD5,F5.lK L' rz,nm5,r5]
    | true =>
     rw[if_pos U] at r5;refine mF ?_;refine#[M5,s5,as,_,L5,r5,λy s6 r6 M6 H6 v L6 E6 rv=>?_];have E6':Ext c as M5 #[s'.sl,s5.os] H5 M6 #[s'.sl,s6.os] H6:=E6.os U U;have L6':aE X.K c M6 #[s'.sl,s6.os] as O H6:=L5'.outer E6 U L6;have F6:Ext c as M' s' H2 M6 #[s'.sl,s6.os] H6:=F5.trans L5'.base E6';have hD6:H6 A=some (.lst ys):=E6'.keep A _ hD5 n2 (nw F5.kO);have nm6:¬ M6 A:=λm=>by
      rcases E6'.new A m with m | (m | ⟨_,m⟩) | m
      .exact nm5 m
      .rw[hD5] at m;cases m
      .rw[hD5] at m;cases m
      .exact nw F5.kO m
     have kM:∀ b u,M6 b->H6 b=some u->upd H6 A (.lst (ys++[v])) b=some u:=λb u mb e=>by
      have ne:b≠A:=λz=>by
       subst z;exact nm6 mb
      rw[aq ne];exact e
     refine#[hD6,xs.length - (i+1),by cbv,kR,U,by simp;cbv,M6,_,zs++[y],L6'.wr hD6 nm6 n2 (nw F6.kO) n4,(E'.trans L'.base F6).wr hA,au,?_,nm6,r6];exact ay.mono (λ_ h=>h) kM _ _ ((F6.lK L' rz).append (ay.one rv))
  rcases hyl x H3 y with ⟨rfl,r⟩ | ⟨p,o,hp,rfl,r⟩
  .exact go M' L' r .refl hD nm
  .have hpA:A≠p:=av hD hp;exact go _ (L'.fresh hp) r (Ext.fresh hp) (by rw[aq hpA];exact hD) λm=>by
    rcases m with m | m
    .exact nm m
    .exact hpA m
 .have e:i=xs.length:=by cbv
  subst e;rw[aaj] at q';refine .inl #[h1 _ (Ys _),k _ s' q' M' H2 A _ L' (E1.trans L1.base E') hD rz nm n2 (nw λ_ h=>h) n4 (Dd L E1 n2 hA)]
theorem Ks(S:bP X ts us scope)(hc:X.calm=true)(hi:DI X c tg iter tx)(hg:∀ C s H fp,DG (X.comp ts us scope C s H fp) c ts.length tg g)(CM:∀ C s H fp,Q7 (X.comp ts us scope C s H fp) c ifs ti)(he:∀ C s H fp,DE (X.comp ts us scope C s H fp) c elt te)(hs:aaA iter X.env:=by intro _;rfl):DN X c (.ListComp elt [#[tg,iter,ifs,0]] scope pos) (vc ts.length us tx g ti te) :=
 #[(vh S hc hi.pi (λC s H fp=>(hg C s H fp).pg) (λC s H fp=>(CM C s H fp).VG) (λC s H fp=>(he C s H fp).pe) hs).imp λ_ _ _=>zx]
theorem nZ{i:Nat}{x:Str}{px EG:Pos}(hN:X.N.Nodup)(zt:X.N[i]?=some x)(hx:X.env.scope.names.lookup x=some .local)(S:bP X ts us scope)(hc:X.calm=true)(hi:DI X c tg iter tx)(hg:∀ C s H fp,DG (X.comp ts us scope C s H fp) c ts.length tg g)(CM:∀ C s H fp,Q7 (X.comp ts us scope C s H fp) c ifs ti)(he:∀ C s H fp,DE (X.comp ts us scope C s H fp) c elt te)(MN:swapsWith (.ListComp elt [#[tg,iter,ifs,0]] scope pos) (some (.Name x px)) EG.line X.env=pure true:=by rfl)(hs:aaA iter X.env:=by intro _;rfl):PS X (.Assign [.Name x px] (.ListComp elt [#[tg,iter,ifs,0]] scope pos) EG) (kQ (tN X.K c (vc ts.length us tx g ti te)) (eC i)) :=
 (Ad hN zt hx S hc hi.pi (λC s H fp=>(hg C s H fp).pg) (λC s H fp=>(CM C s H fp).VG) (λC s H fp=>(he C s H fp).pe) MN hs).imp λE O H q=>zx q
theorem ux{i:Nat}{st:Stmt}{te:bH}(h:PS X st (kQ (tN X.K c te) (eC i))):PS X st (kQ (tE X.K c te) (eC i)):=h.imp λE O H zz=>d7 zz λM s as R L q k =>
 #[M,s,as,R,L,q,λd s' r M' H' a o L' E ha ro nm ng nw h0 hn =>
  k d s' r _ H' (.ref a) (L'.grown ha ng nw h0) (E.plus hn) ((ro.mono (λ_ h=>.inl h) λ_ _ _ e=>e).rep ha (.inr U))]
end
end DL
namespace HT
open PySem PyProof.Rows
variable{prog:Program}{w:World}{A:Around}{E:aat}{s:Shared}
theorem kT{t sl:Addr}{items:Array Value}{vl vu:Value}{lo hi:Option Int}{Q:aat}(ht:IsTup s.heap t items)(hs:s.heap.IsSliceOf sl vl vu .none)(pl:IsPart vl lo)(pu:IsPart vu hi)(hw:cz items.size 0 lo=0/\cz items.size items.size hi=items.size)(h:Q (.ref t) s):wpAny (model prog w) A (getItem (.ref t) (.ref sl)) Q E s:=by
 let(os,hos,hcs,mK):=id hs;have hTs:s.TypeIs (.ref sl) "slice":=#[os,hos,hcs];unfold getItem
 try with_reducible refine wpAny_holding ?_
 first | refine wpAny_bind (wpAny_pure ?_) | skip
 refine wpAny_bind (wpAny_sequenceKey ht.typeIs (by decide) ?_);refine wpAny_bind (wpAny_callSpecial?_slot (name:=Str.ofString "__getitem__") ht.typeIs PyProof.Rows.slot_tuple_getitem
  (wpAny_call_entry PyProof.Rows.slot_tuple_getitem ht.typeIs entry_tuple_getitem ?_ (args_tuple_getitem _ _)))
 show wpAny _ _ (Builtin.Tuple.tupleItemsOf (.ref t) >>= _) _ _ s;refine wpAny_bind (tupleItemsOf_ ht ?_);refine wpAny_bind (wpAny_typeOf hTs ?_);rw[if_pos (by decide)];refine wpAny_bind (ip hs pl pu ?_);have hno:(((cz items.size 0 lo:Nat):Int) == 0&&(1:Int) == 1&&(cz items.size items.size hi - cz items.size 0 lo) == items.size)=true:=by
  rw[hw.1,hw.2];simp
 show wpAny _ _ (if (((cz items.size 0 lo:Nat):Int) == 0&&(1:Int) == 1&&(cz items.size items.size hi - cz items.size 0 lo) == items.size)=true then _ else _) _ _ s;rw[if_pos hno];refine wpAny_bind (m:=Builtin.Tuple.tupleIsExact (.ref t)) (wpAny_bind (wpAny_typeOf ht.typeIs (wpAny_pure ?_)));rw[if_pos (by decide)];exact wpAny_bind (wpAny_rule (wpAny_pure #[_,U,wpAny_pure h]))
end HT
namespace L2
open PySem PySem.Spec PyProof.Rows
section
variable{X:Cx}
def Nd(K:Frag):V->Option Int->Option Int->Hp->VK->Prop:=λx lo hi H Q=>∃ a xs,x=.ref a/\gZ K H a xs /\
 ((HT.cz xs.length 0 lo=0/\HT.cz xs.length xs.length hi=xs.length)->Q (.ref a) H)/\(¬ (HT.cz xs.length 0 lo=0/\HT.cz xs.length xs.length hi=xs.length)->∀ p,H p=none->Q (.ref p) (upd H p (.tup (nO xs lo hi))))
theorem G9:MM X (Nd X.K):=by
 intro pins s O H x v vl vu lo hi sl Q I rx hs pl pu h;let(a,xs,rfl,hx,q1,q2):=h;by_cases hw:HT.cz xs.length 0 lo=0/\HT.cz xs.length xs.length hi=xs.length
 .cases rx;let(its,r,ht,hz):=I.tuple hx;have hlen:its.toArray.size=xs.length:=by rw[YH];exact r.length.symm
  exact#["tuple",_,PyProof.Rows.slot_tuple_getitem.lookup,ht.typeIs,HT.kT ht hs pl pu (by rw[hlen];exact hw) #[.ref a,H,I,U,q1 hw]]
 .exact K2 pins s O H _ v vl vu lo hi sl Q I rx hs pl pu #[a,xs,U,hx,hw,q2 hw]
def UZ(K:Frag)(tl:TE):TI:=λO H R=>tl O H λx H1=>∃ a,x=.ref a/\((∃ xs,cn K H1 a xs/\(xs.length<=sizeLine->R (Lo K a) H1))\/∃ xs,gZ K H1 a xs/\(xs.length<=sizeLine->R (Vd K a) H1))
theorem J3{tg l:Expr}{tl:TE}(hl:PE X l tl):PI X tg l (UZ X.K tl):=by
 intro pins s O H R I h;refine b9 (hl pins s O H _ I h) λv s1 zz=>el2 zz λx H1 I1 r1 q1=>?_;let(a,e,q1):=q1;subst e;cases r1;have fp:∀ b∈[↑s1],jw X pins H1 b:=λb hb=>by
  have e:b=↑s1:=by simpa using hb
  subst e;exact I1.vL (Ys _) (I1.aN.fresh (Ys _))
 rcases q1 with ⟨xs,hq,q⟩ | ⟨xs,hq,q⟩
 .let(its,rv,p,hz):=I1.list hq;refine wpAny_pyIter_list p.isList ?_;exact#[↑s1,[↑s1],_,_,H1,U,I1.kept (t':=s1.toks) λb o e=>Yq _ e,tp a _,#[_,YD _ U,U,U],fp,q hz]
 .let(its,rv,p,hz):=I1.tuple hq;refine wpAny_pyIter_tuple (show s1.heap.IsTuple a its.toArray from p) ?_;exact#[↑s1,[↑s1],_,_,H1,U,I1.kept (t':=s1.toks) λb o e=>Yq _ e,y4 a _,#[_,YD _ U,U,U],fp,q hz]
end
end L2
namespace DL
open PySem PySem.Spec L2
open PyProof.Rows hiding St
section
variable{X:Cx}{c:Ent}
def cI(P:Int->Int->Prop)(f:Int->Int->Int):D->D->(D->Prop)->Prop:=λa b k=>∃ i j,a=.int i/\b=.int j/\P i j/\k (.int (f i j))
def XI(f:Int->Int->Int):D->D->(D->Prop)->Prop:=λa b k=>∃ i j,a=.int i/\b=.int j/\k (.int (f i j))
def Ya(f:Int->Int->Bool):D->D->(D->Prop)->Prop:=λa b k=>∃ i j,a=.int i/\b=.int j/\k (.bl (f i j))
theorem NJ{P:Int->Int->Prop}{f:Int->Int->Int}:sA X c (rI P λi j=>.int (f i j)) (cI P f):=λM s as O H x y dx dy k Q L rx ry z8r kk=>by
 let(i,j,e1,e2,hp,hk):=z8r;subst e1;subst e2;exact#[i,j,rx,ry,hp,kk _ hk M H _ L .refl U]
theorem jg{f:Int->Int->Int}:sA X c (vo λi j=>.int (f i j)) (XI f):=λM s as O H x y dx dy k Q L rx ry z9r kk=>by
 let(i,j,e1,e2,hk):=z9r;subst e1;subst e2;exact#[i,j,rx,ry,kk _ hk M H _ L .refl U]
theorem mE{f:Int->Int->Bool}:sA X c (vo λi j=>.bl (f i j)) (Ya f):=λM s as O H x y dx dy k Q L rx ry z0r kk=>by
 let(i,j,e1,e2,hk):=z0r;subst e1;subst e2;exact#[i,j,rx,ry,kk _ hk M H _ L .refl U]
def fv:D->V
 | .cw=>.cw
 | .bl b=>.bl b
 | .int i=>.int i
 | .str x=>.str x
 | .ty n=>.ty n
 | .fN a=>.ref a
 | _=>.ref 0
def hW:D->Bool
 | .cw=>true
 | .bl _=>true
 | .int _=>true
 | .str _=>true
 | _=>false
theorem Rep.flat{K:Frag}{H:Hp}{M:Addr->Prop}{d:D}{v:V}(f:hW d=true)(r:Rep K H M d v):v=fv d:=by
 cases d<;>first | exact r | (cases f)
theorem qy{d:D}(f:hW d=true):lj (fv d)=true:=by
 cases d<;>first | rfl | (cases f)
theorem ay.flat{K:Frag}{H:Hp}{M:Addr->Prop}:∀ {ds:List D} {vs:List V},ds.all hW=true->ay K H M ds vs->vs=ds.map fv/\vs.all lj=true
 | [],vs,f,r=>by
  have r:vs=[]:=r;subst r;exact#[U,U]
 | d::ds,vs,f,r=>by
  let(x,xr,rfl,r1,r2):=r;rw[ZS,YG] at f;let(h1,h2):=ay.flat f.2 r2;have e:=r1.flat f.1;subst e;exact#[by rw[Yp,h1],by rw[ZS,h2,qy f.1];rfl]
def XR:D->D->(D->Prop)->Prop:=λa b k=>(hW a=true/\hW b=true/\Gy (fv a) (fv b)=true)/\k (.bl (decide (fv a=fv b)))
def W8:D->D->(D->Prop)->Prop:=λa b k=>(hW a=true/\hW b=true/\Gy (fv a) (fv b)=true)/\k (.bl (!decide (fv a=fv b)))
theorem bx:sA X c R4 XR:=λM s as O H x y dx dy k Q L rx ry z1r kk=>by
 let((f1,f2,hs),hk):=z1r;have e1:=rx.flat f1;have e2:=ry.flat f2;subst e1;subst e2;exact#[hs,kk _ hk M H _ L .refl U]
theorem FK:sA X c Wa W8:=λM s as O H x y dx dy k Q L rx ry z2r kk=>by
 let((f1,f2,hs),hk):=z2r;have e1:=rx.flat f1;have e2:=ry.flat f2;subst e1;subst e2;exact#[hs,kk _ hk M H _ L .refl U]
def Xx(neg:Bool):D->D->(D->Prop)->Prop:=λa b k=>∃ ds,(b=.lst ds\/b=.tup ds)/\(hW a=true/\ds.all hW=true)/\k (.bl (if neg then !lz (fv a) (ds.map fv) else lz (fv a) (ds.map fv)))
theorem okIn{neg:Bool}:sA X c (LS X.K neg) (Xx neg):=λM s as O H x y dx dy k Q L rx ry z3r kk=>by
 let(ds,hb,(f1,f2),hk):=z3r;have e1:=rx.flat f1;subst e1;have go:∀ {p xs},ay X.K H M ds xs->(cn X.K H p xs\/gZ X.K H p xs)->LS X.K neg (fv dx) (.ref p) H Q:=λ{p xs} r h=>by
  let(e,f):=r.flat f2;refine#[p,xs,U,h,qy f1,f,?_];rw[e];exact kk _ hk M H _ L .refl U
 rcases hb with rfl | rfl
 .let(p,xs,rfl,(m,h),r):=ry;exact go r (.inl (.of h))
 .let(p,xs,rfl,h,r):=ry;exact go r (.inr h.sq)
theorem ay.at{K:Frag}{H:Hp}{M:Addr->Prop}{ds:List D}{vs:List V}{i:Int}{d:D}(r:ay K H M ds vs)(h:iz ds i=some d):∃ v,iz vs i=some v/\Rep K H M d v:=by
 unfold iz at h ⊢;rw[r.length];cases e:xZ ds.length i with
 | none=>rw[e] at h;cases h
 | some j =>
  rw[e] at h;exact r.get h
def GC:D->D->(D->Prop)->Prop:=λa b k=>∃ ds i d,a=.tup ds/\b=.int i/\iz ds i=some d/\k d
def Ob:D->D->(D->Prop)->Prop:=λa b k=>∃ ds i d,a=.lst ds/\b=.int i/\iz ds i=some d/\k d
def U1:D->D->(D->Prop)->Prop:=λa b k=>∃ z i ch,a=.str z/\b=.int i/\z.length<=sizeLine/\iz z.cps.toList i=some ch/\k (.str #[#v[ch]])
theorem HP:sA X c (La X.K) GC:=λM s as O H x y dx dy k Q L rx ry z4r kk=>by
 let(ds,i,d,e1,e2,h,hk):=z4r;subst e1;subst e2;let(p,xs,rfl,t,r):=rx;let(v,h1,h2):=r.at h;exact#[p,xs,i,v,U,ry,t.sq,h1,kk _ hk M H _ L .refl h2]
theorem HX:sA X c (AR X.K) Ob:=λM s as O H x y dx dy k Q L rx ry z5r kk=>by
 let(ds,i,d,e1,e2,h,hk):=z5r;subst e1;subst e2;let(p,xs,rfl,(m,t),r):=rx;let(v,h1,h2):=r.at h;exact#[p,xs,i,v,U,ry,.of t,h1,kk _ hk M H _ L .refl h2]
theorem DV:sA X c NS U1:=λM s as O H x y dx dy k Q L rx ry z6r kk=>by
 let(z,i,ch,e1,e2,hz,h,hk):=z6r;subst e1;subst e2;exact#[z,i,ch,rx,ry,hz,h,kk _ hk M H _ L .refl U]
def NV:D->D->(D->Prop)->Prop:=λa b k=>∃ xs ys,a=.lst xs/\b=.lst ys/\xs.length+ys.length<=sizeLine/\k (.lst (xs++ys))
theorem br:Lf X c Nt NV:=λM s as O H x y dx dy k Q L rx ry z7r kk=>by
 let(xs,ys,e1,e2,hl,hk):=z7r;subst e1;subst e2;let(p,vs,rfl,(m,t),r):=rx;let(p',vs',rfl,(m',t'),r'):=ry;exact#[p,p',vs,vs',U,U,t,t',by rw[r.length,r'.length];exact hl,λq hq=>kk _ hk q _ hq (r.append r')]
def Py:D->D->(D->Prop)->Prop:=λa b k=>∃ xs ys,a=.tup xs/\b=.tup ys/\xs≠[]/\xs.length+ys.length<=sizeLine/\k (.tup (xs++ys))
theorem qC:sA X c (Ii X.K) Py:=λM s as O H x y dx dy k Q L rx ry z8r kk=>by
 let(xs,ys,e1,e2,hn,hl,hk):=z8r;subst e1;subst e2;let(p,vs,rfl,t,r):=rx;let(p',vs',rfl,t',r'):=ry;refine#[p,p',vs,vs',U,U,t.sq,t'.sq,λz=>?_,by rw[r.length,r'.length];exact hl,λz=>?_,λz q hq=>?_]
 .have:=r.length;rw[z] at this;exact hn (Y3 this.symm)
 .have:=r'.length;rw[z] at this;have e:ys=[]:=Y3 this.symm;subst e;rw[YA] at hk;exact kk _ hk M H _ L .refl #[p,vs,U,t,r]
 .exact kk _ hk _ _ _ (L.fresh hq) (Ext.fresh hq) #[q,vs++vs',U,#[.inr U,au],kl hq (r.append r')]
abbrev Fs:=DS->(Option Int->DS->Prop)->Prop
def tO(K:Frag)(c:Ent)(t:Fs):TO:=λO H Q=>∃ M s as R,aE K c M s as O H/\t s R/\∀ o s',R o s'->∀ M' H',aE K c M' s' as O H'->Ext c as M s H M' s' H'->Q o H'
structure DO(X:Cx)(c:Ent)(e:Option Expr)(t:Fs):Prop where
 po:PO X e (tO X.K c t)
theorem _root_.L2.PO.imp{e:Option Expr}{t t':TO}(h:PO X e t)(w:∀ O H Q,t' O H Q->t O H Q):PO X e t':=λpins s O H Q I q=>h pins s O H Q I (w O H Q q)
def JT:Fs:=λs Q=>Q none s
def yk(te:bH):Fs:=λs Q=>te s λd s1=>∃ i,d=.int i/\Q (some i) s1
theorem bD:DO X c none JT:=#[vf.imp λO H Q zz=>d7 zz λM s as R L q k=>k none s q M H L .refl]
theorem bA{e:Expr}{te:bH}(h:DE X c e te):DO X c (some e) (yk te):=#[(mB h.pe).imp λO H Q zz=>d7 zz λM s as R L q k =>
 #[M,s,as,_,L,q,λd s1 z9r M' H' v L' E' rv=>by
  let(i,e,r):=z9r;subst e;exact#[i,rv,k (some i) s1 r M' H' L' E']]]
def cutD(xs:List D)(lo hi:Option Int):List D:=(xs.drop (HT.cz xs.length 0 lo)).take (HT.cz xs.length xs.length hi - HT.cz xs.length 0 lo)
theorem ay.cut{K:Frag}{H:Hp}{M:Addr->Prop}{ds:List D}{vs:List V}(lo hi:Option Int)(r:ay K H M ds vs):ay K H M (cutD ds lo hi) (nO vs lo hi):=by
 unfold cutD nO;rw[r.length];exact (r.drop _).take _
def Gf(te:bH)(tl th:Fs)(k:List D->Option Int->Option Int->(D->Prop)->D->Prop):bH:=λs Q=>te s λa s1=>tl s1 λl s2=>th s2 λu s3=>∃ ds,k ds l u (λd=>Q d s3) a
def Us:List D->Option Int->Option Int->(D->Prop)->D->Prop:=λds l u Q a=>a=.lst ds/\Q (.lst (cutD ds l u))
def Se:List D->Option Int->Option Int->(D->Prop)->D->Prop:=λds l u Q a=>a=.tup ds/\Q (.tup (cutD ds l u))
theorem cm{e:Expr}{lo hi:Option Expr}{te:bH}{tl th:Fs}{p2 pos:Pos}(he:DE X c e te)(hl:DO X c lo tl)(hu:DO X c hi th):DN X c (.Subscript e (.Slice lo hi none p2) pos) (Gf te tl th Us):=#[(iy vj he.pe hl.po hu.po).imp λO H Q zz=>d7 zz λM s as R L q k =>
 #[M,s,as,_,L,q,λd s1 q1 M1 H1 v L1 E1 rv=>#[M1,s1,as,_,L1,q1,λl s2 q2 M2 H2 Lb E2=>#[M2,s2,as,_,Lb,q2,λu s3 q3 M3 H3 Lc E3=>by
  let(ds,e,q):=q3;subst e;have E13:=E2.trans Lb.base E3;let(p,xs,rfl,(m,t),r):=E13.rep L1 rv;exact#[p,xs,U,.of t,λb hb=>j5 (d:=.lst _) L Lc (E1.trans L1.base E13) hb (r.cut l u) (k _ s3 q)]]]]]
theorem fk{e:Expr}{lo hi:Option Expr}{te:bH}{tl th:Fs}{p2 pos:Pos}(he:DE X c e te)(hl:DO X c lo tl)(hu:DO X c hi th):DE X c (.Subscript e (.Slice lo hi none p2) pos) (Gf te tl th Se):=#[(iy G9 he.pe hl.po hu.po).imp λO H Q zz=>d7 zz λM s as R L q k =>
 #[M,s,as,_,L,q,λd s1 q1 M1 H1 v L1 E1 rv=>#[M1,s1,as,_,L1,q1,λl s2 q2 M2 H2 Lb E2=>#[M2,s2,as,_,Lb,q2,λu s3 q3 M3 H3 Lc E3=>by
  let(ds,e,q):=q3;subst e;have E13:=E2.trans Lb.base E3;have E0:=E1.trans L1.base E13;let(p,xs,rfl,t,r):=E13.rep L1 rv;refine#[p,xs,U,t.sq,λhw=>?_,λhw b hb=>?_]
  .have e:cutD ds l u=ds:=by
    unfold cutD;rw[<- r.length,hw.1,hw.2,ZA,r.length,Z3,ZP]
   rw[e] at q;exact k _ s3 q M3 H3 _ Lc E0 #[p,xs,U,t,r]
  .exact k _ s3 q _ _ _ (Lc.fresh hb) (E0.trans Lc.base (Ext.fresh hb)) #[b,_,U,#[.inr U,au],kl hb (r.cut l u)]]]]]
def SW:D->(D->Prop)->Prop:=λa k=>∃ ds,a=.lst ds/\k (.lst ds.reverse)
theorem Dz{e st:Expr}{te:bH}{p2 pos:Pos}(he:DE X c e te)(kX:PE X st (tC (.int (-1)))):DN X c (.Subscript e (.Slice none none (some st) p2) pos) (T6 SW te):=#[(BU he.pe kX).imp λO H Q zz=>d7 zz λM s as R L q k =>
 #[M,s,as,_,L,q,λd s1 z0r M1 H1 v L1 E1 rv=>by
  let(ds,e,q1):=z0r;subst e;let(p,xs,rfl,(m,t),r):=rv;exact#[p,xs,U,.of t,λb hb=>j5 (d:=.lst _) L L1 E1 hb r.reverse (k _ s1 q1)]]]
def o8(C:aav)(t:gb):bH:=λs Q=>t s λds s1=>C ds λd=>Q d s1
def AE(X:Cx)(c:Ent)(r:List V->Hp->VK->Prop)(C:aav):Prop:=∀ (M:Addr->Prop) (s:DS) (as:List Addr) (O:St) (H:Hp) (xs:List V) (ds:List D) (k:D->Prop) (Q:VK),aE X.K c M s as O H->ay X.K H M ds xs->C ds k ->
 (∀ d,k d->∀ M' H' v,aE X.K c M' s as O H'->Ext c as M s H M' s H'->Rep X.K H' M' d v->Q v H')->r xs H Q
def JR(X:Cx)(c:Ent)(r:List V->Hp->VK->Prop)(C:aav):Prop:=∀ (M:Addr->Prop) (s:DS) (as:List Addr) (O:St) (H:Hp) (xs:List V) (ds:List D) (k:D->Prop) (Q:VK),aE X.K c M s as O H->ay X.K H M ds xs->C ds k ->
 (∀ d,k d->∀ p o,H p=none->cG X.K H M d o->Q (.ref p) (upd H p o))->r xs H Q
section
variable{x:Str}{p pos:Pos}{e:Expr}{es:List Expr}{t:gb}{id T:String}{r:List V->Hp->VK->Prop}{C:aav}
theorem HI{n:Nat}(k:AE X c r C){O:St}{H:Hp}{Q:VK}:tE X.K c (o8 C t) O H Q->FP r (tA X.K c n t) O H Q:=λzz=>d7 zz λM s as R L q kk =>
 #[M,s,as,_,L,q,λds s1 q1 M1 H1 vs L1 E1 r1 hl=>k M1 s1 as O H1 vs ds (λd=>R d s1) Q L1 r1 q1 λd rd M' H' v L' E' rv=>kk d s1 rd M' H' v L' (E1.trans L1.base E') rv]
theorem KN{n:Nat}(k:JR X c r C){O:St}{H:Hp}{Q:VK}:tN X.K c (o8 C t) O H Q->FP r (tA X.K c n t) O H Q:=λzz=>d7 zz λM s as R L q kk =>
 #[M,s,as,_,L,q,λds s1 q1 M1 H1 vs L1 E1 r1 hl=>k M1 s1 as O H1 vs ds (λd=>R d s1) Q L1 r1 q1 λd rd p o hp ro=>j5 L L1 E1 hp ro (kk d s1 rd)]
theorem a8(hc:fH X (.builtin id) r)(k:AE X c r C)(hg:Gl X x)(hm:X.mg x=none)(hv:bootBuiltins x=some (.builtin id))(ha:DA X c (e::es) t)(hn:x≠"__name__":=by decide)(kP:aay x:=by decide)(he:aaw X.env e es:=by rfl)(fC:aax X.env pos es:=by rfl):DE X c (.Call (.Name x p) (e::es) [] pos) (o8 C t):=#[(dm hc hg hm hv ha.pa hn kP he fC).imp λ_ _ _=>HI k]
theorem er(hc:fH X (.type T) r)(k:AE X c r C)(hg:Gl X x)(hm:X.mg x=none)(hv:bootBuiltins x=some (.type T))(ha:DA X c (e::es) t)(hn:x≠"__name__":=by decide)(kP:aay x:=by decide)(he:aaw X.env e es:=by rfl)(fC:aax X.env pos es:=by rfl):DE X c (.Call (.Name x p) (e::es) [] pos) (o8 C t):=#[(nH hc hg hm hv ha.pa hn kP he fC).imp λ_ _ _=>HI k]
theorem ix(hc:fH X (.type T) r)(k:JR X c r C)(hg:Gl X x)(hm:X.mg x=none)(hv:bootBuiltins x=some (.type T))(ha:DA X c (e::es) t)(hn:x≠"__name__":=by decide)(kP:aay x:=by decide)(he:aaw X.env e es:=by rfl)(fC:aax X.env pos es:=by rfl):DN X c (.Call (.Name x p) (e::es) [] pos) (o8 C t):=#[(nH hc hg hm hv ha.pa hn kP he fC).imp λ_ _ _=>KN k]
end
theorem cH{K:Frag}{H:Hp}{M:Addr->Prop}{d:D}{vs:List V}(r:ay K H M [d] vs):∃ v,vs=[v]/\Rep K H M d v:=by
 let(x,xr,rfl,r1,r2):=r;have r2:xr=[]:=r2;subst r2;exact#[x,U,r1]
theorem tD{K:Frag}{H:Hp}{M:Addr->Prop}{d e:D}{vs:List V}(r:ay K H M [d,e] vs):∃ v w,vs=[v,w]/\Rep K H M d v/\Rep K H M e w:=by
 let(x,xr,rfl,r1,r2):=r;let(y,rfl,r3):=cH r2;exact#[x,y,U,r1,r3]
def O9:aav:=λas k=>∃ ds,(as=[.lst ds]\/as=[.tup ds])/\k (.int ds.length)
theorem P8:AE X c (λxs H Q=>∃ p ys,xs=[.ref p]/\(cn X.K H p ys\/gZ X.K H p ys)/\Q (.int ys.length) H) O9:=λM s as O H xs ds k Q L r z1r kk=>by
 let(es,hb,hk):=z1r;rcases hb with rfl | rfl
 .let(v,rfl,p,ys,rfl,(m,h),r'):=cH r;refine#[p,ys,U,.inl (.of h),?_];rw[r'.length];exact kk _ hk M H _ L .refl U
 .let(v,rfl,p,ys,rfl,h,r'):=cH r;refine#[p,ys,U,.inr h.sq,?_];rw[r'.length];exact kk _ hk M H _ L .refl U
def Oo:aav:=λas k=>∃ z,as=[.str z]/\z.length<=sizeLine/\k (.int z.length)
theorem IM:AE X c (λxs H Q=>∃ z,xs=[.str z]/\z.length<=sizeLine/\Q (.int z.length) H) Oo:=λM s as O H xs ds k Q L r z2r kk=>by
 let(z,e,hz,hk):=z2r;subst e;let(v,rfl,e):=cH r;have e:v=.str z:=e;subst e;exact#[z,U,hz,kk _ hk M H _ L .refl U]
def UE:aav:=λas k=>∃ i j,as=[.int i,.int j]/\k (.int (if j > i then j else i))
theorem N6:AE X c (λxs H Q=>∃ i j,xs=[.int i,.int j]/\Q (.int (if j > i then j else i)) H) UE:=λM s as O H xs ds k Q L r z3r kk=>by
 let(i,j,e,hk):=z3r;subst e;let(v,w,rfl,e1,e2):=tD r;have e1:v=.int i:=e1;have e2:w=.int j:=e2;subst e1;subst e2;exact#[i,j,U,kk _ hk M H _ L .refl U]
def Nk:aav:=λas k=>(∃ i,as=[.int i]/\k (.int i))\/∃ b,as=[.bl b]/\k (.int (if b then 1 else 0))
theorem qM:AE X c (λxs H Q=>(∃ i,xs=[.int i]/\Q (.int i) H)\/∃ k,xs=[.bl k]/\Q (.int (if k then 1 else 0)) H) Nk:=λM s as O H xs ds k Q L r h kk=>by
 rcases h with ⟨i,rfl,hk⟩ | ⟨i,rfl,hk⟩
 .let(v,rfl,e1):=cH r;have e1:v=.int i:=e1;subst e1;exact .inl #[i,U,kk _ hk M H _ L .refl U]
 .let(v,rfl,e1):=cH r;have e1:v=.bl i:=e1;subst e1;exact .inr #[i,U,kk _ hk M H _ L .refl U]
def Im:aav:=λas k=>∃ ds,(as=[.lst ds]\/as=[.tup ds])/\k (.lst ds)
theorem ig:JR X c (λxs H Q=>∃ p ys,xs=[.ref p]/\(cn X.K H p ys\/gZ X.K H p ys)/\∀ l,H l=none->Q (.ref l) (upd H l (.lst ys))) Im:=λM s as O H xs ds k Q L r z4r kk=>by
 let(es,hb,hk):=z4r;rcases hb with rfl | rfl
 .let(v,rfl,p,ys,rfl,(m,h),r'):=cH r;exact#[p,ys,U,.inl (.of h),λl hl=>kk _ hk l _ hl r']
 .let(v,rfl,p,ys,rfl,h,r'):=cH r;exact#[p,ys,U,.inr h.sq,λl hl=>kk _ hk l _ hl r']
def MU:aav:=λas k=>∃ ds,(as=[.lst ds]\/as=[.tup ds])/\k (.tup ds)
theorem MY:AE X c (λxs H Q=>∃ p ys,xs=[.ref p]/\((cn X.K H p ys/\∀ l,H l=none->Q (.ref l) (upd H l (.tup ys)))\/(gZ X.K H p ys/\Q (.ref p) H))) MU:=λM s as O H xs ds k Q L r z5r kk=>by
 let(es,hb,hk):=z5r;rcases hb with rfl | rfl
 .let(v,rfl,p,ys,rfl,(m,h),r'):=cH r;exact#[p,ys,U,.inl #[.of h,λl hl=>kk _ hk _ _ _ (L.fresh hl) (Ext.fresh hl) #[l,ys,U,#[.inr U,au],kl hl r']]]
 .let(v,rfl,p,ys,rfl,h,r'):=cH r;exact#[p,ys,U,.inr #[h.sq,kk _ hk M H _ L .refl #[p,ys,U,h,r']]]
def S0:aav:=λas k=>∃ bs:List Bool,as=[.lst (bs.map .bl)]/\k (.bl (bs.all id))
theorem AJ{K:Frag}{H:Hp}{M:Addr->Prop}:∀ {bs:List Bool} {vs:List V},ay K H M (bs.map .bl) vs->vs=bs.map V.bl
 | [],vs,r=>r
 | b::bs,vs,r=>by
  let(x,xr,rfl,r1,r2):=r;have r1:x=.bl b:=r1;rw[r1,AJ r2,Yp]
theorem Iy:AE X c (λxs H Q=>∃ (p:Addr) (bs:List Bool),xs=[.ref p]/\cn X.K H p (bs.map V.bl)/\Q (.bl (bs.all id)) H) S0:=λM s as O H xs ds k Q L r z6r kk=>by
 let(bs,e,hk):=z6r;subst e;let(v,rfl,p,ys,rfl,(m,h),r'):=cH r;rw[AJ r'] at h;exact#[p,bs,U,.of h,kk _ hk M H _ L .refl U]
def Ot(te:bH):gb:=λs Q=>te s λd s1=>∃ ds,(d=.lst ds\/d=.tup ds)/\Q ds s1
theorem bf{tg e:Expr}{te:bH}(he:DE X c e te):DI X c tg e (Ot te):=#[λpins s O H R I zz=>d7 zz λM s0 as R0 L q k=>J3 he.pe pins s O H R I
 #[M,s0,as,_,L,q,λd s1 z7r M1 H1 v L1 E1 rv=>by
  let(ds,hd,q1):=z7r;rcases hd with rfl | rfl
  .let(p,xs,rfl,(m,h),r):=rv;refine#[p,U,.inl #[xs,.of h,λhl=>k ds s1 q1 M1 H1 _ L1 E1 (λM2 H2 G=>?_) (by rw[<- r.length];exact hl)]];have h2:H2 p=some (.lst xs):=(G p m).2 _ h;have r2:=G.lK r;refine#[λi hi=>#[xs,.of h2,by rw[r.length];exact hi],λi d hd=>?_];let(v,g1,g2):=r2.get hd;refine#[#[xs,v,.of h2,g1],λx H3 #[e,hx]=>.inl #[e,?_]];have:=hx xs (.of h2);rw[g1] at this;cases this;exact g2
  .let(p,xs,rfl,h,r):=rv;refine#[p,U,.inr #[xs,h.sq,λhl=>k ds s1 q1 M1 H1 _ L1 E1 (λM2 H2 G=>?_) (by rw[<- r.length];exact hl)]];have h2:gZ X.K H2 p xs:=(h.mono (λb m=>(G b m).1) λb o m e=>(G b m).2 o e).sq;have r2:=G.lK r;refine#[λi hi=>#[xs,h2,by rw[r.length];exact hi],λi d hd=>?_];let(v,g1,g2):=r2.get hd;refine#[#[xs,v,h2,g1],λx H3 #[e,hx]=>.inl #[e,?_]];have:=hx xs h2;rw[g1] at this;cases this;exact g2]]
def dQ(lo:Int)(n:Nat):List D:=(List.range n).map λi=>.int (lo+(i:Nat))
def Qm(t:gb):gb:=λs Q=>t s λds s1=>∃ j:Int,ds=[.int j]/\(-(2 ^ 62)<=j/\j<=16777216)/\Q (dQ 0 j.toNat) s1
theorem EM{K:Frag}{M:Addr->Prop}{H:Hp}{lo:Int}{n:Nat}:KU K M H (dQ lo n) (Jt lo n):=λM1 H1 G =>
 #[λi hi=>by
  show n<=i;simpa [dQ] using hi,λi d hd=>by
  unfold dQ at hd;rw[YS] at hd;let(j,h1,h2):=YK.mp hd;let(hl,e):=Yu.mp h1;simp at hl e;subst e;subst h2;exact#[hl,λx H2 #[e,hx]=>.inl #[e,hx]]]
section
variable{tg a b:Expr}{t:gb}{p pos:Pos}
theorem dN(hg:Gl X "range")(hm:X.mg "range"=none)(ha:DA X c [a] t)(hs:starEach [a] X.env=[(false,eval a X.env)]:=by rfl):DI X c tg (.Call (.Name "range" p) [a] [] pos) (Qm t):=#[λpins s O H R I zz=>d7 zz λM s0 as R0 L q k=>tZ hg hm ha.pa hs pins s O H R I
 #[M,s0,as,_,L,q,λds s1 z8r M1 H1 vs L1 E1 r _=>by
  let(j,e,(h1,h2),q1):=z8r;subst e;let(v,rfl,e):=cH r;have e:v=.int j:=e;subst e;exact#[j,U,h1,by cbv,k _ s1 q1 M1 H1 _ L1 E1 EM (by simp[dQ,sizeLine];cbv)]]]
end
end
section
variable{X:Cx}{c:Ent}
def Vm:D->Bool
 | .lst _=>true
 | _=>false
def GR:D->Bool
 | .zM _ _=>true
 | .sC _ _=>true
 | _=>false
theorem Et{K:Frag}{H:Hp}{M:Addr->Prop}{d:D}{o:HO}(h:Vm d=true)(r:cG K H M d o):∃ xs,o=.lst xs:=by
 cases d<;>first | (cases h;done) | (cases o<;>first | exact#[_,U] | exact r.elim)
def LC(i:Nat)(C:D->List D->(D->D->Prop)->Prop)(ta:gb):bH:=λs Q=>∃ k d0,s.sl[i]?=some (.own k)/\s.os[k]?=some (some d0)/\Vm d0=true/\ta s λds s1=>∃ d1,s1.os[k]?=some (some d1)/\C d1 ds λdr d2=>Q dr (s1.put k d2)
def KQ(X:Cx)(r:V->List V->Hp->VK->Prop)(C:D->List D->(D->D->Prop)->Prop):Prop:=∀ (M:Addr->Prop) (H:Hp) (a:Addr) (o:HO) (d1:D) (ds:List D) (vs:List V) (k:D->D->Prop) (Q:VK),H a=some o->cG X.K H M d1 o->ay X.K H M ds vs->¬ M a->C d1 ds k ->
 (∀ dr d2,k dr d2->∀ o' v,cG X.K H M d2 o'->Rep X.K H M dr v->Q v (upd H a o'))->r (.ref a) vs H Q
theorem N3{i n:Nat}{r:V->List V->Hp->VK->Prop}{C:D->List D->(D->D->Prop)->Prop}{ta:gb}(ok:KQ X r C){O:St}{H:Hp}{Q:VK}:tE X.K c (LC i C ta) O H Q->Qx X.K "list" r (bz i) (tA X.K c n ta) O H Q:=λz9q=>by
 let(M,s,as,R,L,(k,d0,h1,h2,h3,q),kk):=z9q;let(a,o,g1,g2,g3,g4):=L.slot h1 h2;let(xs,rfl):=Et h3 g4;refine#[.ref a,g2,.inl #[U,xs,.of g3],M,s,as,_,L,q,λds s1 z0q M1 H1 vs L1 E1 r1 hl=>?_];let(d1,e1,q1):=z0q;let((o1,f1,f2),nm,ng,h0):=L1.obj k d1 a e1 g1;refine ok M1 H1 a o1 d1 ds vs _ Q f1 f2 r1 nm q1 λdr d2 hk o' v ro rv=>?_;have E2:Ext c as M1 s1 H1 M1 (s1.put k d2) (upd H1 a o'):=Ext.vK e1 g1;exact kk dr _ hk M1 _ v (L1.vK e1 g1 ro) (E1.trans L1.base E2) (E2.rep L1 rv)
def IG:gb:=λs Q=>Q [] s
theorem IL{i:Nat}{r:V->List V->Hp->VK->Prop}{C:D->List D->(D->D->Prop)->Prop}(ok:KQ X r C){O:St}{H:Hp}{Q:VK}:tE X.K c (LC i C IG) O H Q->IZ X.K "list" r (bz i) O H Q:=λz1q=>by
 let(M,s,as,R,L,(k,d0,h1,h2,h3,d1,e1,q1),kk):=z1q;let(a,o,g1,g2,g3,g4):=L.slot h1 h2;let(xs,rfl):=Et h3 g4;refine#[.ref a,g2,.inl #[U,xs,.of g3],?_];let((o1,f1,f2),nm,ng,h0):=L.obj k d1 a e1 g1;refine ok M H a o1 d1 [] [] _ Q f1 f2 U nm q1 λdr d2 hk o' v ro rv=>?_;have E2:Ext c as M s H M (s.put k d2) (upd H a o'):=Ext.vK e1 g1;exact kk dr _ hk M _ v (L.vK e1 g1 ro) E2 (E2.rep L rv)
section
variable{o e:Expr}{es:List Expr}{i:Nat}{t:gb}{name:Str}{apos cB:Pos}{id:String}{r:V->List V->Hp->VK->Prop}{C:D->List D->(D->D->Prop)->Prop}
theorem pJ(slot:Slot "list" name id)(Je:typeOf (.builtin id)=pure (.type "method_descriptor"))(hm:QP X id r)(ok:KQ X r C)(ho:PE X o (bz i))(ha:DA X c (e::es) t)(iu:attributeBase o name X.env (eval o X.env)=eval o X.env:=by rfl)(u6:((backTo cB (starEach (e::es) X.env)).all (λx=>!x.1)&&(backToKw cB (keywordEach [] X.env)).all (λx=>x.1.isSome)
   && decide ((e::es).length+([]:List Keyword).length+(if ([]:List Keyword).isEmpty then 0 else 1) < 30))=true:=by rfl)(gW:(apos.endLine == cB.line)=true:=by rfl)(hs:aaw X.env e es:=by rfl)(iK:(backTo cB (starEach es X.env)).any (·.1)=false:=by rfl) :
  DE X c (.Call (.Attribute o name apos) (e::es) [] cB) (LC i C t):=#[(gx YR slot Je hm ho ha.pa iu u6 gW hs iK).imp λ_ _ _=>N3 ok]
theorem EX(slot:Slot "list" name id)(Je:typeOf (.builtin id)=pure (.type "method_descriptor"))(hm:QP X id r)(ok:KQ X r C)(ho:PE X o (bz i))(iu:attributeBase o name X.env (eval o X.env)=eval o X.env:=by rfl)(gW:(apos.endLine == cB.line)=true:=by rfl):DE X c (.Call (.Attribute o name apos) [] [] cB) (LC i C IG) :=
 #[(yh YR slot Je hm ho iu gW).imp λ_ _ _=>IL ok]
end
def Jg:D->List D->(D->D->Prop)->Prop:=λd ds k=>∃ xs x,d=.lst xs/\ds=[x]/\xs.length < sizeLine/\k .cw (.lst (xs++[x]))
theorem NF:KQ X pW Jg:=λM H a o d ds vs k Q ha ro rv nm z9r kk=>by
 let(xs,x,e1,e2,hl,hk):=z9r;subst e1;subst e2;cases o with
 | lst ys =>
  have ro:ay X.K H M xs ys:=ro;let(v,rfl,rx):=cH rv;exact#[a,ys,v,U,U,ha,by rw[ro.length];exact hl,kk _ _ hk _ _ (show cG X.K H M (.lst _) (.lst _) from ro.append (.one rx)) U]
 | _=>exact ro.elim
def Rm:D->List D->(D->D->Prop)->Prop:=λd ds k=>∃ xs ys,d=.lst xs/\ds=[.lst ys]/\xs.length+ys.length<=sizeLine/\k .cw (.lst (xs++ys))
theorem jF:KQ X Ap Rm:=λM H a o d ds vs k Q ha ro rv nm z0r kk=>by
 let(xs,ys,e1,e2,hl,hk):=z0r;subst e1;subst e2;cases o with
 | lst us =>
  have ro:ay X.K H M xs us:=ro;let(v,rfl,b,zs,rfl,(m,hb),rz):=cH rv;exact#[a,b,us,zs,U,U,ha,hb,by rw[ro.length,rz.length];exact hl,kk _ _ hk _ _ (show cG X.K H M (.lst _) (.lst _) from ro.append rz) U]
 | _=>exact ro.elim
theorem ay.snoc{K:Frag}{H:Hp}{M:Addr->Prop}:∀ {ds:List D} {x:D} {vs:List V},ay K H M (ds++[x]) vs->∃ us v,vs=us++[v]/\ay K H M ds us/\Rep K H M x v
 | [],x,vs,r=>by
  let(v,rfl,h):=cH r;exact#[[],v,U,U,h]
 | d::ds,x,vs,r=>by
  let(y,yr,rfl,r1,r2):=r;let(us,v,rfl,h1,h2):=ay.snoc (ds:=ds) r2;exact#[y::us,v,U,#[y,us,U,r1,h1],h2]
def R9:D->List D->(D->D->Prop)->Prop:=λd ds k=>∃ xs x,d=.lst (xs++[x])/\ds=[]/\k x (.lst xs)
theorem DZ:KQ X JU R9:=λM H a o d ds vs k Q ha ro rv nm z1r kk=>by
 let(xs,x,e1,e2,hk):=z1r;subst e1;subst e2;cases o with
 | lst us =>
  let(ws,v,rfl,r1,r2):=ay.snoc (show ay X.K H M (xs++[x]) us from ro);have rv:vs=[]:=rv;subst rv;refine#[a,ws++[v],v,U,U,ha,by simp,?_];rw[aaq];exact kk _ _ hk _ _ (show cG X.K H M (.lst _) (.lst _) from r1) r2
 | _=>exact ro.elim
def Lr(i:Nat)(te ti:bH):kC:=λR s=>te s λd s1=>∃ k,s1.sl[i]?=some (.own k)/\ti s1 λdi s2=>∃ xs z j,s2.os[k]?=some (some (.lst xs))/\di=.int z/\xZ xs.length z=some j/\R.nx (s2.put k (.lst (xs.set j d)))
theorem pR{i:Nat}{st:Stmt}{te ti:bH}(h:PS X st (kQ (tE X.K c te) (Qc (bz i) (tE X.K c ti) Ip))):lZ X c st (Lr i te ti):=#[h.imp λE O H zz=>d7 zz λM s as R L q kk =>
 #[M,s,as,_,L,q,λd s1 z3q M1 H1 v L1 E1 rv=>by
  let(k,h1,q1):=z3q;let(a,g1,g2):=L1.own i k h1;refine#[.ref a,g2,M1,s1,as,_,L1,q1,λdi s2 z4q M2 H2 w Lb E2 rw=>?_];let(xs,z,j,h2,e,hj,q2):=z4q;subst e;let((o,f1,f2),nm,ng,h0):=Lb.obj k _ a h2 g1;cases o with
  | lst us =>
   have f2:ay X.K H2 M2 xs us:=f2;have rw:w=.int z:=rw;subst rw;have rv2:=E2.rep L1 rv;have hG:eT M H M2 (upd H2 a (.lst (us.set j v))):=(E1.grow L).trans ((E2.grow L1).trans ((Ext.vK (c:=c) (M:=M2) (d:=.lst (xs.set j d)) h2 g1).grow Lb));exact#[a,us,z,j,U,U,f1,by rw[f2.length];exact hj,kk.nx _ as M2 O _ q2 (Lb.vK h2 g1 (show cG X.K H2 M2 (.lst _) (.lst _) from f2.set rv2 j)) hG]
  | _=>exact f2.elim]]
def PQ(i:Nat):mG:=λs Q=>∃ k xs,s.sl[i]?=some (.own k)/\s.os[k]?=some (some (.lst xs))/\Q (!xs.isEmpty) s
theorem jr{α β:Type}{l:List α}{m:List β}(h:l.length=m.length):l.isEmpty=m.isEmpty:=by
 cases l<;>cases m<;>first | rfl | simp at h
theorem zA{i:Nat}{e:Expr}(he:PE X e (bz i))(hw:∀ whole,isTrue e X.env whole=(do let v <- whole;standAt e.pos;holding [v] (truthy v)):=by intro _;rfl):DT X c e (PQ i):=#[(mC he hw).imp λO H Q z5q=>by
 let(M,s,as,R,L,(k,xs,h1,h2,q),kk):=z5q;let(a,o,g1,g2,g3,g4):=L.slot h1 h2;cases o with
 | lst us =>
  have g4:ay X.K H M xs us:=g4;refine#[_,g2,!us.isEmpty,.inl #[us,.of g3,U],?_];rw[jr g4.length];exact kk _ s q M H L .refl
 | _=>exact g4.elim]
def Qb(te:bH):mG:=λs Q=>te s λd s1=>∃ xs,(d=.lst xs\/d=.tup xs)/\Q (!xs.isEmpty) s1
theorem Jb{e:Expr}{te:bH}(he:DE X c e te)(hw:∀ whole,isTrue e X.env whole=(do let v <- whole;standAt e.pos;holding [v] (truthy v)):=by intro _;rfl):DT X c e (Qb te):=#[(mC he.pe hw).imp λO H Q zz=>d7 zz λM s as R L q kk =>
 #[M,s,as,_,L,q,λd s1 z2r M1 H1 v L1 E1 rv=>by
  let(xs,hd,q1):=z2r;rcases hd with rfl | rfl
  .let(p,us,rfl,(m,t),r):=rv;refine#[!us.isEmpty,.inl #[us,.of t,U],?_];rw[jr r.length];exact kk _ s1 q1 M1 H1 L1 E1
  .let(p,us,rfl,t,r):=rv;refine#[!us.isEmpty,.inr (.inl #[us,t.sq,U]),?_];rw[jr r.length];exact kk _ s1 q1 M1 H1 L1 E1]]
def iX(k:Nat)(d:D):Sl->Sl
 | .own j=>if j=k then .dat d else .own j
 | x=>x
def DS.freeze(s:DS)(k:Nat)(d:D):DS:=#[s.sl.map (iX k d),s.os.set k none]
def OY(i:Nat):bH:=λs Q=>∃ k d,s.sl[i]?=some (.own k)/\s.os[k]?=some (some d)/\Q d (s.freeze k d)
theorem UM{i:Nat}{e:Expr}(h:PE X e (bz i)):DE X c e (OY i):=#[h.imp λO H Q z6q=>by
 let(M,s,as,R,L,(k,d,h1,h2,q),kk):=z6q;let(a,o,g1,g2,g3,g4):=L.slot h1 h2;let(_,nm,ng,h0):=L.obj k d a h2 g1;refine#[_,g2,?_];have mk:∀ b u,M b->H b=some u->H b=some u:=λ_ _ _ e=>e;have ra:Rep X.K H (λb=>M b\/b=a) d (.ref a):=(g4.mono (λ_ m=>.inl m) mk).rep g3 (.inr U);have hos:∀ {l:Nat} {e:D},(s.freeze k d).os[l]?=some (some e)->l≠k/\s.os[l]?=some (some e):=λ{l e} h=>by
  rcases bN h with ⟨rfl,hl,q⟩ | ⟨ne,q⟩
  .cases q
  .exact#[λz=>ne z.symm,q]
 refine kk d _ q (λb=>M b\/b=a) H (.ref a) #[#[L.base.lI,L.base.fr,λb m=>?_,λb m=>?_,λb m=>.inl (L.base.m0 b m),λb m=>?_],?_,?_,λj e he=>?_,λj l hj=>?_,λl e b e1 e2=>?_,λl m e f b e1 e2 f1 f2=>?_,L.lt] #[λ_ m=>.inl m,λb m=>?_,λ_ _ e _ _=>e,λb z7q=>by let(l,e,e1,e2):=z7q;exact#[l,e,(hos e1).2,e2]] ra
 .rcases m with m | rfl
  .exact L.base.md b m
  .exact#[o,g3]
 .rcases m with m | rfl
  .exact L.base.mo b m
  .exact ng
 .rcases m with m | rfl
  .exact L.base.mn b m
  .exact .inr (.inl h0)
 .show (s.sl.map _).length=_;rw[Yk];exact L.len
 .show as.length=(s.os.set k none).length;rw[Y7];exact L.gg
 .have he:(s.sl.map (iX k d))[j]?=some (.dat e):=he;rw[YS] at he;let(x,hx,hy):=YK.mp he;cases x with
  | no=>cases hy
  | dat y =>
   cases hy;let(v,w1,w2):=L.dat j e hx;exact#[v,w1,Rep.mono (λ_ m=>.inl m) mk e v w2]
  | own l =>
   replace hy:(if l=k then Sl.dat d else Sl.own l)=.dat e:=hy
   by_cases z:l=k
   .rw[if_pos z] at hy;cases hy;subst z;let(b,w1,w2):=L.own j l hx;rw[g1] at w1;cases w1;exact#[_,w2,ra]
   .rw[if_neg z] at hy;cases hy
 .have hj:(s.sl.map (iX k d))[j]?=some (.own l):=hj;rw[YS] at hj;let(x,hx,hy):=YK.mp hj;cases x with
  | no=>cases hy
  | dat y=>cases hy
  | own l' =>
   replace hy:(if l'=k then Sl.dat d else Sl.own l')=.own l:=hy
   by_cases z:l'=k
   .rw[if_pos z] at hy;cases hy
   .rw[if_neg z] at hy;cases hy;exact L.own j l hx
 .let(ne,e1'):=hos e1;let((u,w1,w2),w3,w4):=L.obj l e b e1' e2;refine#[#[u,w1,w2.mono (λ_ m=>.inl m) mk],λm=>?_,w4];rcases m with m | rfl
  .exact w3 m
  .exact ne (L.inj l k e d b e1' h2 e2 g1)
 .exact L.inj l m e f b (hos e1).2 (hos e2).2 f1 f2
 .rcases m with m | rfl
  .exact .inl m
  .exact .inr (.inr #[k,d,h2,g1])]
def PU(i:Nat):bH:=λs Q=>∃ k xs,s.sl[i]?=some (.own k)/\s.os[k]?=some (some (.lst xs))/\Q (.int xs.length) s
theorem Jh{i:Nat}{e:Expr}(h:PE X e (FP (λxs H Q=>∃ p ys,xs=[.ref p]/\(cn X.K H p ys\/gZ X.K H p ys)/\Q (.int ys.length) H) (gH (bz i) sI))):DE X c e (PU i):=#[h.imp λO H Q z8q=>by
 let(M,s,as,R,L,(k,xs,h1,h2,q),kk):=z8q;let(a,o,g1,g2,g3,g4):=L.slot h1 h2;cases o with
 | lst us =>
  have g4:ay X.K H M xs us:=g4;refine#[_,g2,a,us,U,.inl (.of g3),?_];rw[g4.length];exact kk _ s q M H _ L .refl U
 | _=>exact g4.elim]
def RI(i:Nat)(ti:bH):bH:=λs Q=>∃ k,s.sl[i]?=some (.own k)/\ti s λdi s1=>∃ xs z d,s1.os[k]?=some (some (.lst xs))/\di=.int z/\iz xs z=some d/\Q d s1
theorem qU{i:Nat}{e:Expr}{ti:bH}(h:PE X e (jh (AR X.K) (bz i) (tE X.K c ti))):DE X c e (RI i ti):=#[h.imp λO H Q z9q=>by
 let(M,s,as,R,L,(k,h1,q),kk):=z9q;let(a,g1,g2):=L.own i k h1;refine#[_,g2,M,s,as,_,L,q,λdi s1 z0q M1 H1 v L1 E1 rv=>?_];let(xs,z,d,e1,e2,e3,q1):=z0q;subst e2;have rv:v=.int z:=rv;subst rv;let((o,f1,f2),nm,ng,h0):=L1.obj k _ a e1 g1;cases o with
 | lst us =>
  have f2:ay X.K H1 M1 xs us:=f2;let(w,w1,w2):=f2.at e3;exact#[a,us,z,w,U,U,.of f1,w1,kk _ s1 q1 M1 H1 w L1 E1 w2]
 | _=>exact f2.elim]
def EB:D->Option Key
 | .int i=>some (.inl i)
 | .str x=>some (.inr x)
 | _=>none
def t8:List D->Option (List Key)
 | []=>some []
 | d::r=>match EB d,t8 r with
  | some k,some ks=>some (k::ks)
  | _,_=>none
theorem rG{K:Frag}{H:Hp}{M:Addr->Prop}{d:D}{k:Key}{v:V}(h:EB d=some k)(r:Rep K H M d v):v=kV k:=by
 cases d<;>first | (cases h;exact r) | cases h
theorem oD{K:Frag}{H:Hp}{M:Addr->Prop}:∀ {ds:List D} {ks:List Key} {vs:List V},t8 ds=some ks->ay K H M ds vs->vs=ks.map kV
 | [],ks,vs,h,r=>by
  cases h;exact r
 | d::ds,ks,vs,h,r=>by
  let(x,xr,rfl,r1,r2):=r;unfold t8 at h;cases e1:EB d with
  | none=>rw[e1] at h;cases h
  | some k =>
   cases e2:t8 ds with
   | none=>rw[e1,e2] at h;cases h
   | some l =>
    rw[e1,e2] at h;cases h;rw[rG e1 r1,oD e2 r2,Yp]
section
variable{κ:Type}[DecidableEq κ]
def jy:List κ->List D->κ->Option D
 | k::ks,d::ds,q=>if k=q then some d else jy ks ds q
 | _,_,_=>none
def va(ks:List κ)(q:κ):Bool:=ks.any λk=>decide (k=q)
def uc:List κ->List D->κ->D->List D
 | k::ks,d::ds,q,x=>(if k=q then x else d)::uc ks ds q x
 | _,_,_,_=>[]
def jD(ks:List κ)(q:κ):List κ:=if va ks q=true then ks else ks++[q]
def jB(ks:List κ)(vs:List D)(q:κ)(x:D):List D:=if va ks q=true then uc ks vs q x else vs++[x]
variable{K:Frag}{H:Hp}{M:Addr->Prop}
theorem vw{q:κ}:∀ {kvs:List (κ×V)} {ks:List κ} {vs:List D},kvs.map (·.1)=ks->ay K H M vs (kvs.map (·.2))->(iN kvs q=none/\jy ks vs q=none)\/∃ v d,iN kvs q=some v/\jy ks vs q=some d/\Rep K H M d v
 | [],ks,vs,h,r=>by
  subst h;exact .inl #[U,by cases vs<;>rfl]
 | p::kvs,ks,vs,h,r=>by
  subst h;cases vs with
  | nil=>exact absurd (show (p::kvs).map (·.2)=[] from r) (by simp)
  | cons d ds =>
   let(x,xr,e,r1,r2):=r;rw[Yp] at e;cases e;by_cases z:p.1=q
   .refine .inr #[p.2,d,gC z,?_,r1];show (if p.1=q then some d else _)=_;rw[if_pos z]
   .rw[eD z];have e2:jy (((p::kvs).map (·.1))) (d::ds) q=jy (kvs.map (·.1)) ds q:=by
     show (if p.1=q then some d else _)=_;rw[if_neg z]
    rw[e2];exact vw U r2
theorem has_any{q:κ}:∀ {kvs:List (κ×V)},(kvs.any λkv=>decide (kv.1=q))=va (kvs.map (·.1)) q
 | []=>rfl
 | p::kvs=>by
  unfold va;rw[Zh,Yp,Zh,has_any (kvs:=kvs)]
  rfl
theorem CB{q:κ}{x:D}{y:V}(ry:Rep K H M x y){kvs:List (κ×V)}{vs:List D}(r:ay K H M vs (kvs.map (·.2))):(putK kvs q y).map (·.1)=jD (kvs.map (·.1)) q/\ay K H M (jB (kvs.map (·.1)) vs q x) ((putK kvs q y).map (·.2)):=by
 unfold putK jD jB;rw[has_any];by_cases h:va (kvs.map (·.1)) q=true
 .rw[if_pos h,if_pos h,if_pos h];clear h;refine#[?_,?_]
  .rw[YF];refine Zl λp _=>?_;show (if p.1=q then (p.1,y) else p).1=p.1;split<;>rfl
  .induction kvs generalizing vs with
   | nil =>
    cases vs with
    | nil=>rfl
    | cons d ds =>
     let(_,_,e,_):=r;cases e
   | cons p kvs ih =>
    cases vs with
    | nil=>exact absurd (show (p::kvs).map (·.2)=[] from r) (by simp)
    | cons d ds =>
     let(v,vr,e,r1,r2):=r;rw[Yp] at e;cases e;refine#[_,_,U,?_,ih r2];show Rep K H M (if p.1=q then x else d) (if p.1=q then (p.1,y) else p).2;by_cases z:p.1=q
     .rw[if_pos z,if_pos z];exact ry
     .rw[if_neg z,if_neg z];exact r1
 .rw[if_neg h,if_neg h,if_neg h];rw[Yr,Yr];exact#[U,r.append (.one ry)]
end
def Jd(d dy:D)(k:Option D->Prop):Prop:=(∃ ks vs q,d=.zM ks vs/\EB dy=some q/\k (jy ks vs q))\/∃ ks vs ts q,d=.sC ks vs/\dy=.tup ts/\t8 ts=some q/\k (jy ks vs q)
def OO(d dy x:D)(k:D->Prop):Prop:=(∃ ks vs q,d=.zM ks vs/\EB dy=some q/\ks.length < sizeLine/\k (.zM (jD ks q) (jB ks vs q x)))\/∃ ks vs ts q,d=.sC ks vs/\dy=.tup ts/\t8 ts=some q/\ks.length < sizeLine/\k (.sC (jD ks q) (jB ks vs q x))
theorem zH{H:Hp}{M:Addr->Prop}{d dy:D}{k:Option D->Prop}{a:Addr}{o:HO}{y:V}(h:Jd d dy k)(ha:H a=some o)(ro:cG X.K H M d o)(ry:Rep X.K H M dy y):∃ ov od,jd H a y ov/\k od/\((ov=none/\od=none)\/∃ v e,ov=some v/\od=some e/\Rep X.K H M e v):=by
 rcases h with ⟨ks,vs,q,rfl,hq,hk⟩ | ⟨ks,vs,ts,q,rfl,rfl,hq,hk⟩
 .cases o with
  | dK kvs =>
   let(e,r):=(show kvs.map (·.1)=ks/\ay X.K H M vs (kvs.map (·.2)) from ro);have ey:=rG hq ry;subst ey;refine#[_,_,jd.k ha,hk,?_];rcases vw (q:=q) e r with ⟨h1,h2⟩ | ⟨v,x,h1,h2,h3⟩
   .exact .inl #[h1,h2]
   .exact .inr #[v,x,h1,h2,h3]
  | _=>exact ro.elim
 .cases o with
  | dT kvs =>
   let(e,r):=(show kvs.map (·.1)=ks/\ay X.K H M vs (kvs.map (·.2)) from ro);let(b,xs,rfl,(m,hb),rx):=ry;have ex:=oD hq rx;subst ex;refine#[_,_,jd.t ha hb,hk,?_];rcases vw (q:=q) e r with ⟨h1,h2⟩ | ⟨v,x,h1,h2,h3⟩
   .exact .inl #[h1,h2]
   .exact .inr #[v,x,h1,h2,h3]
  | _=>exact ro.elim
theorem GB{H:Hp}{M:Addr->Prop}{d dy x:D}{k:D->Prop}{a:Addr}{o:HO}{y z:V}(h:OO d dy x k)(ha:H a=some o)(ro:cG X.K H M d o)(ry:Rep X.K H M dy y)(rz:Rep X.K H M x z):∃ d2 o2,nV H a y z (upd H a o2)/\k d2/\cG X.K H M d2 o2:=by
 rcases h with ⟨ks,vs,q,rfl,hq,hl,hk⟩ | ⟨ks,vs,ts,q,rfl,rfl,hq,hl,hk⟩
 .cases o with
  | dK kvs =>
   let(e,r):=(show kvs.map (·.1)=ks/\ay X.K H M vs (kvs.map (·.2)) from ro);subst e;have ey:=rG hq ry;subst ey;exact#[_,_,nV.k ha (by simpa using hl),hk,(show cG X.K H M (.zM _ _) (.dK _) from CB rz r)]
  | _=>exact ro.elim
 .cases o with
  | dT kvs =>
   let(e,r):=(show kvs.map (·.1)=ks/\ay X.K H M vs (kvs.map (·.2)) from ro);subst e;let(b,xs,rfl,(m,hb),rx):=ry;have ex:=oD hq rx;subst ex;exact#[_,_,nV.t ha hb (by simpa using hl),hk,(show cG X.K H M (.sC _ _) (.dT _) from CB rz r)]
  | _=>exact ro.elim
theorem Dj{H:Hp}{M:Addr->Prop}{d:D}{o:HO}{a:Addr}(hd:GR d=true)(ha:H a=some o)(ro:cG X.K H M d o):Sw H a:=by
 cases d<;>first | (cases hd;done) | (cases o<;>first | exact .inl #[_,.inl ha] | exact .inr #[_,.inl ha] | exact ro.elim)
def Ku(i:Nat)(ty tv:bH):kC:=λR s=>tv s λd s1=>∃ k,s1.sl[i]?=some (.own k)/\ty s1 λdy s2=>∃ d1,s2.os[k]?=some (some d1)/\OO d1 dy d λd2=>R.nx (s2.put k d2)
theorem vO{i:Nat}{st:Stmt}{ty tv:bH}(h:PS X st (wm (bz i) (tE X.K c ty) (tE X.K c tv))):lZ X c st (Ku i ty tv):=#[h.imp λE O H zz=>d7 zz λM s as R L q kk =>
 #[M,s,as,_,L,q,λd s1 z3r M1 H1 v L1 E1 rv=>by
  let(k,h1,q1):=z3r;let(a,g1,g2):=L1.own i k h1;refine#[.ref a,g2,M1,s1,as,_,L1,q1,λdy s2 #[d1,h2,q2] M2 H2 w Lb E2 rw=>?_];let((o,f1,f2),nm,ng,h0):=Lb.obj k _ a h2 g1;let(d2,o2,p1,p2,p3):=GB q2 f1 f2 rw (E2.rep L1 rv);exact#[a,_,U,p1,kk.nx _ as M2 O _ p2 (Lb.vK h2 g1 p3) ((E1.grow L).trans ((E2.grow L1).trans ((Ext.vK (c:=c) (M:=M2) (d:=d2) h2 g1).grow Lb)))]]]
def Kr(i:Nat)(ty tx:bH):bH:=λs Q=>∃ k d0,s.sl[i]?=some (.own k)/\s.os[k]?=some (some d0)/\GR d0=true/\ty s λdy s1=>tx s1 λdz s2=>∃ d1,s2.os[k]?=some (some d1)/\Jd d1 dy λod=>Q (od.getD dz) s2
theorem Gk{i:Nat}{e:Expr}{ty tx:bH}(h:PE X e (yb (bz i) (tE X.K c ty) (tE X.K c tx))):DE X c e (Kr i ty tx):=#[h.imp λO H Q z4r=>by
 let(M,s,as,R,L,(k,d0,h1,h2,h3,q),kk):=z4r;let(a,o,g1,g2,g3,g4):=L.slot h1 h2;refine#[.ref a,g2,a,U,Dj h3 g3 g4,M,s,as,_,L,q,λdy s1 q1 M1 H1 y L1 E1 ry=>#[M1,s1,as,_,L1,q1,λdz s2 #[d1,e1,q2] M2 H2 z Lb E2 rz=>?_]];let((o1,f1,f2),nm,ng,h0):=Lb.obj k _ a e1 g1;let(ov,od,w1,w2,w3):=zH q2 f1 f2 (E2.rep L1 ry);refine#[ov,w1,?_];rcases w3 with ⟨rfl,rfl⟩ | ⟨v,x,rfl,rfl,rx⟩
 .exact kk _ s2 w2 M2 H2 z Lb (E1.trans L1.base E2) rz
 .exact kk _ s2 w2 M2 H2 v Lb (E1.trans L1.base E2) rx]
theorem Rep.dc{K:Frag}{H:Hp}{M:Addr->Prop}{d:D}{v:V}(h:GR d=true)(r:Rep K H M d v):∃ a o,v=.ref a/\H a=some o/\cG K H M d o:=by
 cases d<;>first | (cases h;done) | (let(a,kvs,e,(m,ha),h1,h2):=r;exact#[a,_,e,ha,h1,h2])
def KZ(td ty tx:bH):bH:=λs Q=>td s λd s1=>GR d=true/\ty s1 λdy s2=>tx s2 λdz s3=>Jd d dy λod=>Q (od.getD dz) s3
theorem IQ{e:Expr}{td ty tx:bH}(h:PE X e (yb (tE X.K c td) (tE X.K c ty) (tE X.K c tx))):DE X c e (KZ td ty tx):=#[h.imp λO H Q zz=>d7 zz λM s as R L q kk =>
 #[M,s,as,_,L,q,λd s1 z5r M1 H1 v L1 E1 rv=>by
  let(hd,q1):=z5r;let(a,o,rfl,f1,f2):=rv.dc hd;refine#[a,U,Dj hd f1 f2,M1,s1,as,_,L1,q1,λdy s2 q2 M2 H2 y Lb E2 ry=>#[M2,s2,as,_,Lb,q2,λdz s3 q3 M3 H3 z Lc E3 rz=>?_]];let(a',o',e',f1',f2'):=((E2.trans Lb.base E3).rep L1 rv).dc hd;cases e';let(ov,od,w1,w2,w3):=zH q3 f1' f2' (E3.rep Lb ry);refine#[ov,w1,?_];have Ea:=(E1.trans L1.base E2).trans Lb.base E3;rcases w3 with ⟨rfl,rfl⟩ | ⟨v,x,rfl,rfl,rx⟩
  .exact kk _ s3 w2 M3 H3 z Lc Ea rz
  .exact kk _ s3 w2 M3 H3 v Lc Ea rx]]
def Le:bH:=λs Q=>Q (.sC [] []) s
theorem AG{pos:Pos}:DN X c (.Dict [] [] pos) Le:=#[Ec.imp λO H Q zz=>d7 zz λM s as R L q k=>λp hp=>j5 (d:=.sC [] []) L L .refl hp (show cG X.K H M (.sC [] []) (.dT []) from #[U,U]) (k _ s q)]
end
end DL
namespace HF
open PySem Sem
open PySem.AutoSeq1 (wpAny_loadPart')
section
variable{prog:Program}{w:World}{A:Around}{E:aat}{s:Shared}
theorem m5{it t:Addr}{i:Nat}{items:Array Value}{x:Value}{Q:aat}(hit:s.heap.IsTupleIter it t i)(ht:s.heap.IsTuple t items)(hx:items[i]?=some x)(hQ:∀ h',h'.IsTupleIter it t (i+1)->Heap.SameBut it s.heap h'->Q x { s with heap:=h' }) :
  wpAny (model prog w) A (Builtin.SmallTypes.nextOf (.ref it)) Q E s:=by
 let(o,ho,hc,hd):=id hit;let(ol,hol,_,nl,hdl):=ht;unfold Builtin.SmallTypes.nextOf;refine wpAny_bind (wpAny_callSpecial?_slot (name:=Str.ofString "__next__") hit.typeIs F.slot_tuple_iterator_next
  (wpAny_call_entry F.slot_tuple_iterator_next hit.typeIs F.entry_tuple_iterator_next ?_ (F.args_tuple_iterator_next_1 _)))
 show wpAny _ _ (field (.ref it) 0 >>= _) _ _ s;refine wpAny_bind (wpAny_field ho hd (x:=.ref t) U ?_);show wpAny _ _ (if (Value.ref t == Value.none)=true then _ else _) _ _ s;rw[if_neg (show ¬ ((Value.ref t == Value.none)=true) from Yy)];show wpAny _ _ (field (.ref it) 1 >>= _) _ _ s;refine wpAny_bind (wpAny_field ho hd (x:=.int i 0) U ?_);show wpAny _ _ (seqItems? (.ref t) >>= _) _ _ s;refine wpAny_bind (wpAny_seqItems hol hdl ?_);simp only[Int.toNat_natCast,hx];refine wpAny_bind (wpAny_setField ho hd (by simp) (wpAny_pure #[x,U,wpAny_pure (hQ _ ?_ (Heap.SameBut.update ..))]));exact#[_,aal _ ho (Obj.isFreed_of_fields (Obj.data_mapFields hd _)),(Obj.cls_mapFields ..).trans hc,by
  rw[Obj.data_mapFields hd];simp[rawInt]]
theorem fK{it t:Addr}{i:Nat}{items:Array Value}{Q:aat}(hh:A.handled=none)(hit:s.heap.IsTupleIter it t i)(ht:s.heap.IsTuple t items)(hx:items[i]?=none)(hE:∀ h' e,Heap.ExtBut it s.heap h'->(∃ o,h'.get? e=some o/\o.cls=.type "StopIteration")->E (.ref e) { s with heap:=h' }) :
  wpAny (model prog w) A (Builtin.SmallTypes.nextOf (.ref it)) Q E s:=by
 let(o,ho,hc,hd):=id hit;let(ol,hol,_,nl,hdl):=ht;unfold Builtin.SmallTypes.nextOf;refine wpAny_bind (wpAny_callSpecial?_slot (name:=Str.ofString "__next__") hit.typeIs F.slot_tuple_iterator_next
  (wpAny_call_entry F.slot_tuple_iterator_next hit.typeIs F.entry_tuple_iterator_next ?_ (F.args_tuple_iterator_next_1 _)))
 show wpAny _ _ (field (.ref it) 0 >>= _) _ _ s;refine wpAny_bind (wpAny_field ho hd (x:=.ref t) U ?_);show wpAny _ _ (if (Value.ref t == Value.none)=true then _ else _) _ _ s;rw[if_neg (show ¬ ((Value.ref t == Value.none)=true) from Yy)];show wpAny _ _ (field (.ref it) 1 >>= _) _ _ s;refine wpAny_bind (wpAny_field ho hd (x:=.int i 0) U ?_);show wpAny _ _ (seqItems? (.ref t) >>= _) _ _ s;refine wpAny_bind (wpAny_seqItems hol hdl ?_);simp only[Int.toNat_natCast,hx];refine wpAny_bind (wpAny_rule (wpAny_bind (wpAny_setField ho hd (by simp) ?_)));show wpAny _ _ (newExc (.type "StopIteration") [] >>= _) _ _ _;refine wpAny_bind ?_;simp only[newExc,newTuple];refine wpAny_bind (wpAny_newObj_type ?_ (by size_fits));refine wpAny_bind (m:=firstArgMember _ _) (wpAny_of_eq (a:=Value.none) (by first | rfl | (simp only[firstArgMember];rfl)) ?_);refine wpAny_newObj_type ?_ (by size_fits);simp only[raiseNew];refine wpAny_bind (wpAny_handled ?_)
 first | rw[show A.in1.handled=none from hh] | rw[hh]
 refine wpAny_bind (wpAny_pure (wpAny_throw ?_));exact hE _ _ (((Heap.SameBut.update ..).extBut.push _).push _) #[_,YD _ U,U]
theorem nA{e it l:Addr}{i:Nat}{items:Array Value}{old:Value}{Q:Option Value->Shared->Prop}(hh:A.handled=none)(he:IsEnum s.heap e it i old)(hit:s.heap.IsTupleIter it l i)(hl:s.heap.IsTuple l items)(hx:items[i]?=none)(hQ:∀ h',Heap.ExtBut it s.heap h'->Q none { s with heap:=h' }):wpAny (model prog w) A (pyNext (.ref e)) Q E s:=by
 have hT:s.TypeIs (.ref e) "enumerate":=#[_,he,U];unfold pyNext;refine wpAny_bind (wpAny_attempt (wpAny_callSpecial?_slot (name:=Str.ofString "__next__") hT F.slot_enumerate_next
  (wpAny_call_entry F.slot_enumerate_next hT F.entry_enumerate_next ?_ (F.args_enumerate_next_1 _))))
 show wpAny _ _ (field (.ref e) 2 >>= _) _ _ _;refine wpAny_bind (wpAny_field he U (x:=.ref it) U ?_);refine wpAny_bind (fK hh hit hl hx λh' x he' hx'=>?_);let(o,ho,hc):=hx';refine wpAny_bind (wpAny_isInstance (T:="StopIteration") (b:=true) #[o,ho,hc] isSubtype_stop ?_);exact wpAny_pure (hQ _ he')
theorem Cs(hh:A.handled=none)(it l:Addr)(i6:l≠it)(items:Array Value) :
  Draws prog w A it [it,l] items.size (λi v=>items[i]?=some v) (λi h=>h.IsTupleIter it l i/\h.IsTuple l items) where
 live:=λ_ _ st=>let #[o,ho,_]:=st.1;#[o,ho]
 frame:=λ_ _ _ st hk=>#[st.1.at λo e=>hk it (by simp) o e,let #[o,e,r]:=st.2;#[o,hk l (by simp) o e,r]]
 item:=λi s Q E hi st hQ=>by
  refine m5 st.1 st.2 (x:=items[i]) (by simp[hi]) λh' hit' Fd=>?_;exact hQ _ h' s.toks (by simp[hi]) #[hit',let #[o,e,r]:=st.2;#[o,Fd.extBut l o i6 e,r]] Fd
 done:=λs Q E st hE=>fK hh st.1 st.2 (by simp) hE
theorem jW(l:Addr)(items:Array Value)(n:Nat)(UP:Option Addr)(sl:Array (Option Value)) :
  Meets (Builtin.«enumerate.__new__» #[[.type "enumerate",.ref l],[]]) (λ_ R s=>s.heap.get? l=some { cls:=.type "tuple",dict:=UP,data:=.seq items n,slots:=sl } /\
   R (.ok (.ret (.ref (s.heap.push { cls:=.type "tuple_iterator",data:=.fields #v[.ref l,.int 0 0] }).objs.size)))
    { s with heap:=(s.heap.push { cls:=.type "tuple_iterator",data:=.fields #v[.ref l,.int 0 0] }).push { cls:=.type "enumerate",data:=.fields #v[.none,.bool false,.ref ↑s,rawInt 0,.none,.none] } }) :=
 .of_wp λprog w A R s h=>by
  let(hp,g,d,tk,os):=s;let(hl,h):=h;have hsub:=sub_enumerate;have hL:Heap.IsTuple (Shared.heap #[hp,g,d,tk,os]) l items:=#[_,hl,U,n,U]
  wp_walk using wpAny_loadPart' hl
  refine wpAny_stack_any λst=>wpAny_pure ?_;split
  .rename_i c _ _ _ _ _
   cases (c == Value.type "enumerate")
   .wp_walk using wpAny_loadPart' hl,wpAny_pyIter_tuple hL
    exact#[_,U,h]
   .wp_walk using wpAny_loadPart' hl,wpAny_pyIter_tuple hL
    exact#[_,U,h]
  .wp_walk using wpAny_loadPart' hl,wpAny_pyIter_tuple hL
   exact#[_,U,h]
theorem jX{l:Addr}{items:Array Value}{Q:aat}(hL:s.heap.IsTuple l items)(h:∀ h',IsEnum h' (↑s+1) ↑s 0 .none->h'.IsTupleIter ↑s l 0->h'.objs.size=↑s+2 ->
   (∀ b o,s.heap.get? b=some o->h'.get? b=some o)->Q (.ref (↑s+1)) { s with heap:=h' }) :
  wpAny (model prog w) A (call (.type "enumerate") [.ref l]) Q E s:=by
 let((c,UP,dt,sl),hl,hc,n,hd):=hL
 replace hc:c=.type "tuple":=hc
 replace hd:dt=.seq items n:=hd
 subst hc hd;refine callType_new F.called_enumerate (by decide) (F.typeCall_enumerate_1 _) (F.newCall_enumerate_1 _) (λobj=>F.args_object_init_2 obj _) F.entry_enumerate_new
  (jW l items n UP sl) #[hl,?_]
 have hz:(s.heap.push { cls:=.type "tuple_iterator",data:=.fields #v[.ref l,.int 0 0] }).objs.size=↑s+1:=Zf ..;show _/\_;rw[hz];have he:IsEnum ((s.heap.push { cls:=.type "tuple_iterator",data:=.fields #v[.ref l,.int 0 0] }).push
   { cls:=.type "enumerate",data:=.fields #v[.none,.bool false,.ref ↑s,rawInt 0,.none,.none] }) (↑s+1) ↑s 0 .none:=by
  have:=YD (s.heap.push { cls:=.type "tuple_iterator",data:=.fields #v[.ref l,.int 0 0] })
   (o:={ cls:=.type "enumerate",data:=.fields #v[.none,.bool false,.ref ↑s,rawInt 0,.none,.none] }) U
  rw[hz] at this;exact this
 refine#[#[_,he,U],h _ he #[_,Yq _ (YD _ U),U,U] (by rw[Zf,hz]) λb o x=>Yq _ (Yq _ x)]
end
end HF
namespace L2
open PySem PySem.Spec
open PyProof.Rows hiding St
def vx(K:Frag)(tup:Bool)(H:Hp)(a:Addr)(xs:List V):Prop:=if tup=true then gZ K H a xs else cn K H a xs
def Jo(K:Frag)(tup:Bool)(a:Addr):It :=
 #[λi H=>∃ xs x,vx K tup H a xs/\xs[i]?=some x,λi H x H'=>∃ p,H p=none/\x=.ref p/\∀ xs,vx K tup H a xs->∃ y,xs[i]?=some y/\H'=upd H p (.tup [.int i,y]),λi H=>∃ xs,vx K tup H a xs/\xs.length<=i]
section
variable{P:Program}{w:World}{K:Frag}
theorem p7{X:Cx}{pins:aau}{O:St}{H:Hp}{s:Shared}{a:Addr}{tup:Bool}{xs ys:List V}(I:Inv X pins O H s)(h:vx X.K tup H a xs)(h':vx X.K tup H a ys):ys=xs:=by
 cases tup with
 | true=>exact I.t5 (show gZ X.K H a ys from h') h
 | false=>exact I.xQ (show cn X.K H a ys from h') h
theorem Inv.AF{X:Cx}{pins:aau}{O:St}{H:Hp}{s:Shared}{h':Heap}{t':Nat}{fp:List Addr}{a:Addr}{o:HO}(I:Inv X pins O H s)(k:∀ b u,b∉fp->s.heap.get? b=some u->h'.get? b=some u)(hf:∀ b∈fp,jw X pins H b)(hp:↑s<=a)(new:c8 X.prog X.w (upd H a o) h' a o):Inv X pins O (upd H a o) { s with heap:=h',toks:=t' }:=by
 have hn:H a=none:=I.aN.fresh hp;have nit:∀ b u,H b=some u->b∉fp:=λb u e z=>by rw[(hf b z).1] at e;cases e
 have up:∀ b u,H b=some u->upd H a o b=some u:=λb u e=>by rw[aq (av e hn)];exact e
 refine I.step (g':=s.gens) (d':=s.drawn) (ch:=fp) (λb hb=>?_) (λb ob _ _ hc e _=>k b ob hc e) (λb ob _ _ hc e _=>#[ob.slots,k b ob hc e]) (λb ob _ e n=>?_)
  (λb ob hc e=>#[ob,k b ob hc e]) (λb xs e=>up b _ e) (λb ob u e=>up b _ e) (λb ps e=>#[#v[],by rw[up b _ e];simp]) (λm hm=>?_) (λb u e=>?_) I.bare
 .let(f0,f1,f2,f3,f4,f5):=hf b hb;exact#[f3,f1,f4,f5]
 .rw[aq (YJ (YQ (YC e) hp))];exact n
 .let(ob,es,ep,ho,r):=hm;exact#[ob,es,ep,k _ ob (λz=>(hf _ z).2.1 U) ho,r]
 .by_cases hb:b=a
  .subst hb;rw[au] at e;cases e;exact new
  .rw[aq hb] at e;refine (I.aN b u e).yK (λq v hq w=>k q v ?_ w) (λq w=>up q _ w) λq _ w=>up q _ w;rcases hq with z | z
   .rw[z];exact nit b u e
   .exact nit q _ z
theorem Inv.uU{X:Cx}{pins:aau}{O:St}{H:Hp}{s:Shared}{h':Heap}{t':Nat}{fp:List Addr}(I:Inv X pins O H s)(k:∀ b u,b∉fp->s.heap.get? b=some u->h'.get? b=some u)(hf:∀ b∈fp,jw X pins H b) :
  Inv X pins O H { s with heap:=h',toks:=t' }:=by
 have nit:∀ b u,H b=some u->b∉fp:=λb u e z=>by rw[(hf b z).1] at e;cases e
 refine I.step (g':=s.gens) (d':=s.drawn) (ch:=fp) (λb hb=>?_) (λb ob _ _ hc e _=>k b ob hc e) (λb ob _ _ hc e _=>#[ob.slots,k b ob hc e]) (λb ob _ e n=>n)
  (λb ob hc e=>#[ob,k b ob hc e]) (λb xs e=>e) (λb ob u e=>e) (λb ps e=>#[#v[],by rw[e];simp]) (λm hm=>?_) (λb u e=>?_) I.bare
 .let(f0,f1,f2,f3,f4,f5):=hf b hb;exact#[f3,f1,f4,f5]
 .let(ob,es,ep,ho,r):=hm;exact#[ob,es,ep,k _ ob (λz=>(hf _ z).2.1 U) ho,r]
 .refine (I.aN b u e).yK (λq v hq w=>k q v ?_ w) (λq w=>w) λq _ w=>w;rcases hq with z | z
  .rw[z];exact nit b u e
  .exact nit q _ z
def lG(tup:Bool)(h:Heap)(it a:Addr)(i:Nat):Prop:=if tup=true then h.IsTupleIter it a i else h.IsListIter it a i
theorem lG.at{tup:Bool}{h h':Heap}{it a:Addr}{i:Nat}(x:lG tup h it a i)(k:∀ o,h.get? it=some o->h'.get? it=some o):lG tup h' it a i:=by
 cases tup with
 | true=>exact Heap.IsTupleIter.at (show h.IsTupleIter it a i from x) k
 | false=>exact Heap.IsListIter.at (show h.IsListIter it a i from x) k
theorem lG.obj{tup:Bool}{h:Heap}{it a:Addr}{i:Nat}(x:lG tup h it a i):∃ o,h.get? it=some o/\∀ v,o.data≠.cell v:=by
 cases tup with
 | true =>
  let(o,e,c,d):=(show h.IsTupleIter it a i from x);exact#[o,e,λv z=>by rw[d] at z;cases z]
 | false =>
  let(o,e,c,d):=(show h.IsListIter it a i from x);exact#[o,e,λv z=>by rw[d] at z;cases z]
theorem tY(tup:Bool){elts:List Expr}{k:Nat}{nh:Pos}(a it e:Addr)(QM:e≠it):Turn P w K (.Tuple elts k nh) (Jo K tup a) [e,it] e (λi h=>(∃ old,IsEnum h e it i old)/\lG tup h it a i) where
 mem:=by simp
 obj:=λi h st b hb=>by
  rcases Yn.mp hb with rfl | hb
  .let((old,he),_):=st;exact#[_,he,λv z=>by
    have z':Data.fields _=Data.cell v:=z;cases z']
  .rw[Yx.mp hb];exact st.2.obj
 keep:=λi h h' st kk=>#[let #[old,he]:=st.1;#[old,kk e (by simp) _ he],st.2.at λo x=>kk it (by simp) o x]
 item:=by
  intro X hP hw hK hc i pins s O H E I hf st hg;subst hP hw hK;let((old,he),hit):=st;let(f0,f1,f2,f3,f4,f5):=hf e (by simp);let(g0,g1,g2,g3,g4,g5):=hf it (by simp);let(xs,x,hq,hx):=hg;have hd:(X.A.in1).handled=none:=I.ok.hd hc;have helt:e < ↑s:=YC he;have fin:∀ (u:Value) (h':Heap) (tk:Nat),RelV x u->IsEnumOut h' e it ((i:Int)+1) u ↑s->lG tup h' it a (i+1)->h'.get? ↑s=some { cls:=.type "tuple",data:=.seq #v[.int i tk,u] }->h'.objs.size=↑s+1 ->
    (∀ b o,b≠e->b≠it->s.heap.get? b=some o->h'.get? b=some o)->(∀ zs,vx X.K tup H a zs->zs=xs) ->
    ∃ v,some (Value.ref ↑s)=some v/\wpAny (model X.prog X.w) X.A (letOwnedTupleGo (.Tuple elts k nh) (.ref e) v) (λ_ s2=>∃ x H',Inv X pins O H' s2/\RelV x v/\(Jo X.K tup a).IJ i H x H'/\((∃ old,IsEnum s2.heap e it (i+1:Nat) old)/\lG tup s2.heap it a (i+1))/\∀ b∈[e,it],H' b=none) E { s with heap:=h',toks:=tk+1 }:=by
   intro u h' tk ru ho Fd hT hsz hk hinj;refine#[_,U,?_];refine wpAny_letOwnedTupleGo_enum (s:={ s with heap:=h',toks:=tk+1 }) ho λh2 Oj BJ=>?_;have hkeep:∀ b o,b≠e->b≠it->s.heap.get? b=some o->h2.get? b=some o:=λb o h1 h2' h3=>(BJ.2 b h1).trans (hk b o h1 h2' h3);have hTe:↑s≠e:=ZK helt;have hfr:H ↑s=none:=I.aN.fresh (Ys _);have I1:Inv X pins O (upd H ↑s (.tup [.int i,x])) { s with heap:=h2,toks:=tk+1 } :=
    Inv.AF I (λb o hb q=>hkeep b o (λz=>hb (by simp[z])) (λz=>hb (by simp[z])) q) hf (Nat.le_refl _)
     #[by show 2<=sizeLine;decide,[.int i tk,u],.cons #[tk,U] (.cons ru .nil),#[_,(BJ.2 _ hTe).trans hT,U,_,U]]
   refine#[.ref ↑s,_,I1,U,#[↑s,hfr,U,λzs hz=>#[x,by rw[hinj zs hz];exact hx,U]],#[#[u,by simpa using Oj],Fd.at λo y=>(BJ.2 it QM.symm).trans y],λb hb=>?_];have hb':b < ↑s:=by
    rcases Yn.mp hb with rfl | hb
    .exact helt
    .rw[Yx.mp hb];let(o,y,_):=hit.obj;exact YC y
   rw[aq (YJ hb')];exact (hf b hb).1
  have hef:e∉[it,a]:=λhm=>by
   rcases Yn.mp hm with z | hm
   .exact QM z
   .have z:e=a:=Yx.mp hm;subst z;cases tup with
    | false =>
     let(_,_,p,_):=I.list (show cn X.K H e xs from hq);let(o,_,e1,c1,_):=p;rw[he] at e1;cases e1;exact absurd c1 (by show ¬ Value.type "enumerate"=Value.type "list";decide)
    | true =>
     let(_,_,p,_):=I.tuple (show gZ X.K H e xs from hq);let(o,e1,c1,_):=p;rw[he] at e1;cases e1;exact absurd c1 (by show ¬ Value.type "enumerate"=Value.type "tuple";decide)
  have hai:a≠it:=λz=>by
   subst z;cases tup with
   | false =>
    let(_,_,p,_):=I.list (show cn X.K H a xs from hq);let(o,_,e1,c1,_):=p;let(o',e2,c2,_):=(show s.heap.IsListIter a a i from hit);rw[e1] at e2;cases e2;rw[c1] at c2;exact absurd c2 (by decide)
   | true =>
    let(_,_,p,_):=I.tuple (show gZ X.K H a xs from hq);let(o,e1,c1,_):=p;let(o',e2,c2,_):=(show s.heap.IsTupleIter a a i from hit);rw[e1] at e2;cases e2;rw[c1] at c2;exact absurd c2 (by decide)
  cases tup with
  | true =>
   let(its,rv,p,hz):=I.tuple (show gZ X.K H a xs from hq);let(u,hu,ru):=rv.get hx;have hi:i < its.toArray.size:=by
    have:=(Yu.mp hu).1;simpa using this
   refine wpAny_pyNext_enum_itemD (HF.Cs hd it a hai its.toArray) he #[hit,p] hi QM hef λy h' tk hy ho Fd hT hsz hk=>?_;have e:y=u:=by
    have hy':its[i]?=some y:=by simpa using hy
    rw[hu] at hy';exact (YU hy').symm
   subst e;exact fin y h' tk ru ho Fd.1 hT hsz hk λzs hz=>p7 I hq hz
  | false =>
   let(its,rv,p,hz):=I.list (show cn X.K H a xs from hq);let(u,hu,ru):=rv.get hx;have hi:i < its.toArray.size:=by
    have:=(Yu.mp hu).1;simpa using this
   refine wpAny_pyNext_enum_itemD (Draws.list hd it a hai its.toArray) he #[hit,p.isList] hi QM hef λy h' tk hy ho Fd hT hsz hk=>?_;have e:y=u:=by
    have hy':its[i]?=some y:=by simpa using hy
    rw[hu] at hy';exact (YU hy').symm
   subst e;exact fin y h' tk ru ho Fd.1 hT hsz hk λzs hz=>p7 I hq hz
 done:=by
  intro X hP hw hK hc i pins s O H E I hf st hg;subst hP hw hK;let((old,he),hit):=st;let(xs,hq,hx):=hg;have hd:(X.A.in1).handled=none:=I.ok.hd hc;cases tup with
  | true =>
   let(its,rv,p,hz):=I.tuple (show gZ X.K H a xs from hq);have hn:its.toArray[i]?=none:=by
    have:=rv.length;simp;cbv
   exact HF.nA (I.ok.hd hc) he hit p hn λh' eb=>#[U,Inv.uU (t':=s.toks) I (λb o hb q=>eb b o (λz=>hb (by simp[z])) q) hf]
  | false =>
   let(its,rv,p,hz):=I.list (show cn X.K H a xs from hq);have hn:its.toArray[i]?=none:=by
    have:=rv.length;simp;cbv
   exact wpAny_pyNext_enum_end (I.ok.hd hc) he hit p.isList hn λh' eb=>#[U,Inv.uU (t':=s.toks) I (λb o hb q=>eb b o (λz=>hb (by simp[z])) q) hf]
 self:=λ_ _ _ _ _ st h=>by
  let((old,he),_):=st;exact wpAny_pyIter_enum he h
section
variable{X:Cx}
def Pa(K:Frag)(t:TA):TI:=λO H R=>t O H λvs H1=>∃ a tup xs,vs=[.ref a]/\vx K tup H1 a xs/\(xs.length<=sizeLine->R (Jo K tup a) H1)
theorem Aw{elts:List Expr}{k:Nat}{nh p pos:Pos}{a:Expr}{t:TA}(hg:Gl X "enumerate")(hm:X.mg "enumerate"=none)(ha:PA X [a] t)(hs:starEach [a] X.env=[(false,eval a X.env)]:=by rfl):PI X (.Tuple elts k nh) (.Call (.Name "enumerate" p) [a] [] pos) (Pa X.K t):=by
 intro pins s O H R I h;refine Call_ (j6 I hg hm (u:=.type "enumerate") (by decide+kernel) (PyProof.Rows.callWith_type1 (b9 (ha pos pins s O H _ I h) λus s1 zz=>el2 zz λvs H1 I1 r1 q1=>?_) hs U));let(a,tup,xs,e,hq,q):=q1;subst e;let(u,rfl,ru):=Vals.one r1;cases ru;have fp:∀ b∈[↑s1+1,↑s1],jw X pins H1 b:=λb hb=>by
  have hle:↑s1<=b:=by
   rcases Yn.mp hb with rfl | hb
   .cbv
   .rw[Yx.mp hb];exact Ys _
  exact I1.vL hle (I1.aN.fresh hle)
 cases tup with
 | true =>
  let(its,rv,pp,hz):=I1.tuple (show gZ X.K H1 a xs from hq);refine HF.jX (items:=its.toArray) pp λh' he hit hsz hk=>?_;refine wpAny_pyIter_enum he ?_;exact#[↑s1+1,_,_,_,H1,U,I1.kept (t':=s1.toks) hk,tY true a ↑s1 (↑s1+1) (Nat.succ_ne_self _),#[#[_,he],hit],fp,q hz]
 | false =>
  let(its,rv,pp,hz):=I1.list (show cn X.K H1 a xs from hq);refine call_enumerate_list (items:=its.toArray) pp.isList λh' he hit hsz hk=>?_;refine wpAny_pyIter_enum he ?_;exact#[↑s1+1,_,_,_,H1,U,I1.kept (t':=s1.toks) hk,tY false a ↑s1 (↑s1+1) (Nat.succ_ne_self _),#[#[_,he],hit],fp,q hz]
end
end
end L2
namespace DL
open PySem PySem.Spec L2
open PyProof.Rows hiding St
section
variable{X:Cx}{c:Ent}
def oR(ds:List D):List D:=(List.range ds.length).zipWith (λi d=>.tup [.int (i:Nat),d]) ds
def IY(t:gb):gb:=λs Q=>t s λas s1=>∃ ds,(as=[.lst ds]\/as=[.tup ds])/\Q (oR ds) s1
theorem AS{ds:List D}{i:Nat}{d:D}(h:(oR ds)[i]?=some d):∃ x,ds[i]?=some x/\d=.tup [.int i,x]:=by
 unfold oR at h;rw[aao] at h;cases e:ds[i]? with
 | none =>
  rw[e] at h;cases e2:(List.range ds.length)[i]? with
  | none=>rw[e2] at h;cases h
  | some j=>rw[e2] at h;cases h
 | some x =>
  have hl:=(Yu.mp e).1;rw[e,List.getElem?_range hl] at h;cases h;exact#[x,U,U]
theorem nR{ds:List D}:(oR ds).length=ds.length:=by simp[oR]
theorem KP{elts:List Expr}{k:Nat}{nh p pos:Pos}{a:Expr}{t:gb}(hg:Gl X "enumerate")(hm:X.mg "enumerate"=none)(ha:DA X c [a] t)(hs:starEach [a] X.env=[(false,eval a X.env)]:=by rfl):DI X c (.Tuple elts k nh) (.Call (.Name "enumerate" p) [a] [] pos) (IY t) :=
 #[λpins s O H R I zz=>d7 zz λM s0 as R0 L q k=>Aw hg hm ha.pa hs pins s O H R I
  #[M,s0,as,_,L,q,λads s1 z6r M1 H1 vs L1 E1 rv _=>by
   let(ds,hd,q1):=z6r;have go:∀ {a tup xs},ay X.K H1 M1 ds xs->(∀ M2 H2,eT M1 H1 M2 H2->vx X.K tup H2 a xs/\ay X.K H2 M2 ds xs)->KU X.K M1 H1 (oR ds) (Jo X.K tup a):=λ{a tup xs} r h M2 H2 G=>by
    let(h2,r2):=h M2 H2 G;refine#[λi hi=>#[xs,h2,by rw[r.length];rw[nR] at hi;exact hi],λi d hd=>?_];let(y,hy,rfl):=AS hd;let(v,g1,g2):=r2.get hy;refine#[#[xs,v,h2,g1],λx H3 #[b,hb,ex,hx]=>.inr ?_];let(w,w1,w2):=hx xs h2;rw[g1] at w1;cases w1;subst w2;exact#[b,_,hb,U,b,_,ex,#[.inr U,au],#[_,_,U,U,_,_,U,y0 hb g2,U]]
   rcases hd with rfl | rfl
   .let(v,rfl,a,xs,rfl,(m,h),r):=cH rv;exact#[a,false,xs,U,.of h,λhl=>k _ s1 q1 M1 H1 _ L1 E1 (go r λM2 H2 G=>#[.of ((G a m).2 _ h),G.lK r]) (by rw[nR,<- r.length];exact hl)]
   .let(v,rfl,a,xs,rfl,h,r):=cH rv;exact#[a,true,xs,U,h.sq,λhl=>k _ s1 q1 M1 H1 _ L1 E1 (go r λM2 H2 G=>#[(h.mono (λb m=>(G b m).1) λb o m e=>(G b m).2 o e).sq,G.lK r]) (by rw[nR,<- r.length];exact hl)]]]
end
mutual
noncomputable def toP:D->PyData
 | .cw=>.none
 | .bl b=>.bool b
 | .int i=>.int i
 | .str x=>.str x
 | .tup ds=>.tuple (toPs ds)
 | .lst ds=>.list (toPs ds)
 | .fN _=>.none
 | .ty _=>.none
 | .zM _ _=>.none
 | .sC _ _=>.none
 | .BP _ _=>.none
noncomputable def toPs:List D->List PyData
 | []=>[]
 | d::ds=>toP d::toPs ds
end
mutual
noncomputable def k6:D->Bool
 | .cw=>true
 | .bl _=>true
 | .int _=>true
 | .str x=>PyData.strOk x
 | .tup ds=>fD ds
 | .lst ds=>fD ds
 | .fN _=>false
 | .ty _=>false
 | .zM _ _=>false
 | .sC _ _=>false
 | .BP _ _=>false
noncomputable def fD:List D->Bool
 | []=>true
 | d::ds=>k6 d&&fD ds
end
mutual
theorem yn:∀ d:D,k6 d=true->(toP d).canLay0=true
 | .cw,_=>rfl
 | .bl _,_=>rfl
 | .int _,_=>rfl
 | .str x,h=>by
  show PyData.canLay0 (.str x)=true;simpa [PyData.canLay0,k6] using h
 | .tup ds,h=>by
  show PyData.canLay0 (.tuple (toPs ds))=true;simpa [PyData.canLay0] using vA ds h
 | .lst ds,h=>by
  show PyData.canLay0 (.list (toPs ds))=true;simpa [PyData.canLay0] using vA ds h
 | .fN _,h=>by cases h
 | .ty _,h=>by cases h
 | .zM _ _,h=>by cases h
 | .sC _ _,h=>by cases h
 | .BP _ _,h=>by cases h
theorem vA:∀ ds:List D,fD ds=true->PyData.canLayAll0 (toPs ds)=true
 | [],_=>rfl
 | d::ds,h=>by
  have h:(k6 d&&fD ds)=true:=h;rw[YG] at h;show PyData.canLayAll0 (toP d::toPs ds)=true;simp[PyData.canLayAll0,yn d h.1,vA ds h.2]
end
section
variable{X:Cx}{pins:aau}{O:St}{H:Hp}{s:Shared}{M:Addr->Prop}
mutual
theorem qh(I:Inv X pins O H s):∀ (d:D) (v:V) (u:Value),k6 d=true->Rep X.K H M d v->RelV v u->∃ as,Reads s.heap u (toP d) as
 | .cw,v,u,_,r,q=>by
  have r:v=.cw:=r;subst r;cases (show u=Value.none from q);exact#[_,.none]
 | .bl b,v,u,_,r,q=>by
  have r:v=.bl b:=r;subst r;cases (show u=Value.bool b from q);exact#[_,.bool b]
 | .int i,v,u,_,r,q=>by
  have r:v=.int i:=r;subst r;let(t,rfl):=(show ∃ t,u=Value.int i t from q);exact#[_,.int i t]
 | .str x,v,u,_,r,q=>by
  have r:v=.str x:=r;subst r;let(t,rfl):=(show ∃ t,u=Value.str x t from q);exact#[_,.str x t]
 | .tup ds,v,u,h,r,q=>by
  let(a,xs,rfl,(m,ha),r):=r;cases (show u=Value.ref a from q);let(_,its,rv,o,e,hc,n,hd):=I.aN a _ ha;let(as,hr):=n8 I ds xs its h r rv;exact#[_,.tuple e hc hd (by simpa using hr)]
 | .lst ds,v,u,h,r,q=>by
  let(a,xs,rfl,(m,ha),r):=r;cases (show u=Value.ref a from q);let(_,its,n,rv,e):=I.aN a _ ha;let(as,hr):=n8 I ds xs its h r rv;exact#[_,.list e U U (by simpa using hr)]
 | .fN _,v,u,h,r,q=>by cases h
 | .ty _,v,u,h,r,q=>by cases h
 | .zM _ _,v,u,h,r,q=>by cases h
 | .sC _ _,v,u,h,r,q=>by cases h
 | .BP _ _,v,u,h,r,q=>by cases h
theorem n8(I:Inv X pins O H s):∀ (ds:List D) (vs:List V) (us:List Value),fD ds=true->ay X.K H M ds vs->Vals vs us->∃ as,ReadsAll s.heap us (toPs ds) as
 | [],vs,us,_,r,q=>by
  have r:vs=[]:=r;subst r;cases q;exact#[_,.nil]
 | d::ds,vs,us,h,r,q=>by
  have h:(k6 d&&fD ds)=true:=h;rw[YG] at h;let(x,xr,rfl,r1,r2):=r;cases q with
  | cons q1 q2 =>
   let(as,h1):=qh I d x _ h.1 r1 q1;let(bs,h2):=n8 I ds xr _ h.2 r2 q2;exact#[_,.cons h1 h2]
end
end
def Hz(a b:D):Bool:=PyData.eqv (toP a) (toP b)
def dI(d:D):Nat:=(toP d).depth
section
variable{X:Cx}{c:Ent}
def N9(K:Frag)(neg:Bool):R2:=λx y H Q=>∃ M dx dy,Rep K H M dx x/\Rep K H M dy y/\k6 dx=true/\k6 dy=true/\(dI dx<=150\/dI dy<=150)/\Q (.bl (if neg then !Hz dx dy else Hz dx dy)) H
theorem Bh{m n u:Nat}(h:m<=150\/n<=150)(hu:u+150 < cLine):u+min m n < cLine:=by
 have:min m n<=150:=by cbv
 cbv
theorem Ej(hu:X.A.units+150 < cLine):iT X (compareOp .Eq) (N9 X.K false):=by
 intro pins s O H x y v u Q I rx ry h;let(M,dx,dy,r1,r2,o1,o2,hd,q):=h;let(as,h1):=qh I dx x v o1 r1 rx;let(bs,h2):=qh I dy y u o2 r2 ry;exact SeqAt.compareEq_reads h1 h2 (yn dx o1) (yn dy o2) (Bh hd hu) #[.bl _,H,I,U,q]
def SV(neg:Bool):D->D->(D->Prop)->Prop:=λa b k=>(k6 a=true/\k6 b=true/\(dI a<=150\/dI b<=150))/\k (.bl (if neg then !Hz a b else Hz a b))
theorem PL{neg:Bool}:sA X c (N9 X.K neg) (SV neg):=λM s as O H x y dx dy k Q L rx ry #[#[o1,o2,hd],hk] kk=>#[M,dx,dy,rx,ry,o1,o2,hd,kk _ hk M H _ L .refl U]
mutual
theorem eqv_refl:∀ d:D,PyData.eqv (toP d) (toP d)=true
 | .cw=>rfl
 | .bl b=>by show PyData.eqv (.bool b) (.bool b)=true;simp[PyData.eqv]
 | .int i=>by show PyData.eqv (.int i) (.int i)=true;simp[PyData.eqv]
 | .str x=>by show PyData.eqv (.str x) (.str x)=true;simp[PyData.eqv]
 | .tup ds=>by show PyData.eqv (.tuple (toPs ds)) (.tuple (toPs ds))=true;simpa [PyData.eqv] using nB ds
 | .lst ds=>by show PyData.eqv (.list (toPs ds)) (.list (toPs ds))=true;simpa [PyData.eqv] using nB ds
 | .fN _=>rfl
 | .ty _=>rfl
 | .zM _ _=>rfl
 | .sC _ _=>rfl
 | .BP _ _=>rfl
theorem nB:∀ ds:List D,PyData.eqvAll (toPs ds) (toPs ds)=true
 | []=>rfl
 | d::ds=>by show PyData.eqvAll (toP d::toPs ds) (toP d::toPs ds)=true;simp[PyData.eqvAll,eqv_refl d,nB ds]
end
theorem Ds(d:D):Hz d d=true:=eqv_refl d
def xn:D->String->Option Bool
 | .int _,T=>if T="int" then some true else if T="bool"\/T="str"\/T="list"\/T="tuple" then some false else none
 | .bl _,T=>if T="int"\/T="bool" then some true else if T="str"\/T="list"\/T="tuple" then some false else none
 | .str _,T=>if T="str" then some true else if T="bool"\/T="int"\/T="list"\/T="tuple" then some false else none
 | .tup _,T=>if T="tuple" then some true else if T="bool"\/T="int"\/T="list"\/T="str" then some false else none
 | .lst _,T=>if T="list" then some true else if T="bool"\/T="int"\/T="tuple"\/T="str" then some false else none
 | _,_=>none
def JJ(K:Frag):List V->Hp->VK->Prop:=λxs H Q=>∃ M d v T b,xs=[v,.ty T]/\Rep K H M d v/\xn d T=some b/\Q (.bl b) H
theorem bo:fH X (.builtin "isinstance") (JJ X.K):=by
 intro pins s O H xs us Q I r h;let(M,d,v,T,b,rfl,rd,hb,q):=h;let(u,t,rfl,ru,rt):=r.two;cases (show t=Value.type T from rt);have fin:∀ n,EP X pins O Q (.bool b) { s with toks:=n }:=λn=>#[.bl b,H,I.tok n,U,q];have fin0:EP X pins O Q (.bool b) s:=#[.bl b,H,I,U,q];cases d with
 | int i =>
  cases (show v=.int i from rd);let(t,rfl):=ru
  replace hb:(if T="int" then some true else if T="bool"\/T="str"\/T="list"\/T="tuple" then some false else none)=some b:=hb
  split at hb
  .rename_i e;subst e;cases hb;exact IsiPair.int_int fin0
  .split at hb
   .rename_i e
    cases hb;rcases e with rfl | rfl | rfl | rfl
    .exact IsiPair.int_bool (fin _)
    .exact IsiPair.int_str (fin _)
    .exact IsiPair.int_list (fin _)
    .exact IsiPair.int_tuple (fin _)
   .cases hb
 | bl i =>
  cases (show v=.bl i from rd);cases (show u=Value.bool i from ru)
  replace hb:(if T="int"\/T="bool" then some true else if T="str"\/T="list"\/T="tuple" then some false else none)=some b:=hb
  split at hb
  .rename_i e
   cases hb;rcases e with rfl | rfl
   .exact IsiPair.bool_int fin0
   .exact IsiPair.bool_bool fin0
  .split at hb
   .rename_i e
    cases hb;rcases e with rfl | rfl | rfl
    .exact IsiPair.bool_str (fin _)
    .exact IsiPair.bool_list (fin _)
    .exact IsiPair.bool_tuple (fin _)
   .cases hb
 | str i =>
  cases (show v=.str i from rd);let(t,rfl):=ru
  replace hb:(if T="str" then some true else if T="bool"\/T="int"\/T="list"\/T="tuple" then some false else none)=some b:=hb
  split at hb
  .rename_i e;subst e;cases hb;exact IsiPair.str_str fin0
  .split at hb
   .rename_i e
    cases hb;rcases e with rfl | rfl | rfl | rfl
    .exact IsiPair.str_bool (fin _)
    .exact IsiPair.str_int (fin _)
    .exact IsiPair.str_list (fin _)
    .exact IsiPair.str_tuple (fin _)
   .cases hb
 | tup ds =>
  let(a,xs,rfl,(m,ha),r):=rd;cases (show u=Value.ref a from ru);let(_,its,rv,o,e,hc,n,hd):=I.aN a _ ha
  replace hb:(if T="tuple" then some true else if T="bool"\/T="int"\/T="list"\/T="str" then some false else none)=some b:=hb
  split at hb
  .rename_i e';subst e';cases hb;exact IsiPair.tuple_tuple e hc fin0
  .split at hb
   .rename_i e'
    cases hb;rcases e' with rfl | rfl | rfl | rfl
    .exact IsiPair.tuple_bool e hc (fin _)
    .exact IsiPair.tuple_int e hc (fin _)
    .exact IsiPair.tuple_list e hc (fin _)
    .exact IsiPair.tuple_str e hc (fin _)
   .cases hb
 | lst ds =>
  let(a,xs,rfl,(m,ha),r):=rd;cases (show u=Value.ref a from ru);let(_,its,n,rv,e):=I.aN a _ ha
  replace hb:(if T="list" then some true else if T="bool"\/T="int"\/T="tuple"\/T="str" then some false else none)=some b:=hb
  split at hb
  .rename_i e';subst e';cases hb;exact IsiPair.list_list e rfl fin0
  .split at hb
   .rename_i e'
    cases hb;rcases e' with rfl | rfl | rfl | rfl
    .exact IsiPair.list_bool e U (fin _)
    .exact IsiPair.list_int e U (fin _)
    .exact IsiPair.list_tuple e U (fin _)
    .exact IsiPair.list_str e U (fin _)
   .cases hb
 | _=>simp[xn] at hb
def Ri:aav:=λas k=>∃ d T b,as=[d,.ty T]/\xn d T=some b/\k (.bl b)
theorem eA:AE X c (JJ X.K) Ri:=λM s as O H xs ds k Q L r z7r kk=>by
 let(d,T,b,e,hb,hk):=z7r;subst e;let(v,w,rfl,r1,r2):=tD r;have r2:w=.ty T:=r2;subst r2;exact#[M,d,v,T,b,U,r1,hb,kk _ hk M H _ L .refl U]
def Ng(i:Nat)(T:String):bH:=λs Q=>∃ k d b,s.sl[i]?=some (.own k)/\s.os[k]?=some (some d)/\xn d T=some b/\Q (.bl b) s
theorem Kh{i:Nat}{T:String}{e:Expr}(h:PE X e (FP (JJ X.K) (gH (bz i) (gH (tC (.ty T)) sI)))):DE X c e (Ng i T):=#[h.imp λO H Q z8r=>by
 let(M,s,as,R,L,(k,d,b,h1,h2,h3,q),kk):=z8r;let(a,o,g1,g2,g3,g4):=L.slot h1 h2;exact#[_,g2,λb=>M b\/b=a,d,.ref a,T,b,U,(g4.mono (λ_ m=>.inl m) λ_ _ _ e=>e).rep g3 (.inr U),h3,kk _ s q M H _ L .refl U]]
end
end DL
namespace HF
open PySem
section
variable{prog:Program}{w:World}{A:Around}{E:aat}{s:Shared}{T:String}{r d:Addr}{n:Nat}{P:Nat->Value->Prop}{OK:Heap->Prop}
end
end HF
namespace L2
open PySem PySem.Spec
open PyProof.Rows hiding St
section
variable{X:Cx}
end
end L2
namespace DL
open PySem PySem.Spec L2
open PyProof.Rows hiding St
section
variable{X:Cx}{c:Ent}
def kD:Key->D
 | .inl i=>.int i
 | .inr x=>.str x
theorem sX{K:Frag}{H:Hp}{M:Addr->Prop}:∀ ks:List Key,ay K H M (ks.map kD) (ks.map kV)
 | []=>rfl
 | k::ks=>#[kV k,ks.map kV,U,by cases k<;>rfl,sX ks]
end
end DL
namespace DL
open PySem PySem.Spec L2
inductive Fm where
 | nm (x:Str) | num (i:Int) | op (s:Str) | iR | lt (x:Str) | mk (c:Str) | ask (f:Str) | g8 (r:Str) (hs:List (Str×List Str)) | new (k:Str) (hs:List (Str×List Str))
inductive Tm where
 | node (f:Fm) (ks:List Tm)
def Tm.kids:Tm->List Tm
 | .node _ ks=>ks
def Fm.ar:Fm->Nat->Bool
 | .nm _,n=>n == 0
 | .num _,n=>n == 0
 | .op _,n=>n == 2
 | .iR,n=>n == 3
 | .lt _,n=>n == 2
 | .mk _,_=>true
 | .ask _,n=>1<=n
 | .g8 _ hs,n=>n == hs.length+1&&hs.all λh=>h.2.length<=8
 | .new _ hs,n=>n == hs.length&&hs.all λh=>h.2.length<=8
mutual
noncomputable def Tm.wf:Tm->Bool
 | .node f ks=>f.ar ks.length&&p5 ks
noncomputable def p5:List Tm->Bool
 | []=>true
 | t::r=>t.wf&&p5 r
end
mutual
noncomputable def Tm.size:Tm->Nat
 | .node _ ks=>aV ks+1
noncomputable def aV:List Tm->Nat
 | []=>0
 | t::r=>t.size+aV r
end
mutual
noncomputable def Tm.dep:Tm->Nat
 | .node _ ks=>pH ks+1
noncomputable def pH:List Tm->Nat
 | []=>0
 | t::r=>max t.dep (pH r)
end
def r9(ns:List Str):List D:=ns.map .str
def oA(h:Str×List Str)(k:D):D:=.tup [.str h.1,.tup (r9 h.2),k]
def aY:List (Str×List Str)->List D->List D
 | h::hs,k::ks=>oA h k::aY hs ks
 | _,_=>[]
def Dl:Fm->List D->D
 | .nm x,_=>.tup [.str "name",.str x]
 | .num i,_=>.tup [.str "num",.int i]
 | .op s,ks=>.tup (.str "op"::.str s::ks)
 | .iR,ks=>.tup (.str "zero"::ks)
 | .lt x,ks=>.tup (.str "let"::.str x::ks)
 | .mk c,ks=>.tup [.str "make",.str c,.tup ks]
 | .ask f,ks=>.tup [.str "ask",ks.headD .cw,.str f,.tup ks.tail]
 | .g8 r hs,ks=>.tup [.str "case",ks.headD .cw,.str r,.tup (aY hs ks.tail)]
 | .new k hs,ks=>.tup [.str "new",.str k,.tup (aY hs ks)]
mutual
noncomputable def toD:Tm->D
 | .node f ks=>Dl f (toDs ks)
noncomputable def toDs:List Tm->List D
 | []=>[]
 | t::r=>toD t::toDs r
end
theorem toDs_map:∀ ks:List Tm,toDs ks=ks.map toD
 | []=>rfl
 | t::r=>by rw[toDs,toDs_map r,Yp]
theorem toDs_len(ks:List Tm):(toDs ks).length=ks.length:=by rw[toDs_map,Yk]
theorem lP:∀ {ks:List Tm},p5 ks=true->∀ t∈ks,t.wf=true
 | [],_,t,h=>by cases h
 | k::ks,w,t,h=>by
  have w:(k.wf&&p5 ks)=true:=w;rw[YG] at w;rcases Yn.mp h with rfl | h
  .exact w.1
  .exact lP w.2 t h
theorem vP:∀ {ks:List Tm},(∀ t∈ks,t.wf=true)->p5 ks=true
 | [],_=>rfl
 | k::ks,h=>by
  show (k.wf&&p5 ks)=true;rw[h k Ym,vP λt ht=>h t (Yo _ ht)]
  rfl
theorem pN{f:Fm}{ks:List Tm}(h:(Tm.node f ks).wf=true):f.ar ks.length=true/\p5 ks=true:=by
 have h:(f.ar ks.length&&p5 ks)=true:=h;rw[YG] at h;exact h
theorem cq{b:Bool}{A B:Prop}(h:b=false)(q:B):if b=true then A else B:=by
 subst h;exact sJ q
theorem gn{b:Bool}{A B:Prop}(h:b=true)(q:A):if b=true then A else B:=by
 subst h;exact mF q
theorem lJ:∀ {hs:List (Str×List Str)} {ks:List D},ks.length=hs.length->∀ r∈aY hs ks,∃ a b k,r=.tup [a,b,k]
 | [],ks,_,r,h=>by cases ks<;>cases h
 | h::hs,[],e,r,hr=>by cases hr
 | h::hs,k::ks,e,r,hr=>by
  rcases Yn.mp hr with rfl | hr
  .exact#[_,_,_,U]
  .exact lJ (by simpa using e) r hr
theorem nF{nt:Nat}{us:List Nat}{g:pQ}{te:bH}{f:D->D}{Q:List D->DS->Prop}{s:DS}:∀ {xs acc:List D},(∀ x∈xs,∀ k:D->DS->Prop,(∀ s':DS,s'.os=s.os->k (f x) s')->g x (il nt us s) λs1=>te s1 k)->Q (acc++xs.map f) s->c9 nt us g cf te xs acc s Q
 | [],acc,h,q=>by
  rw[Y9,YA] at q;exact q
 | x::xs,acc,h,q=>by
  show g x (il nt us s) λs1=>cf s1 λb s2=>if b=true then te s2 λy s3=>c9 nt us g cf te xs (acc++[y]) #[s.sl,s3.os] Q else c9 nt us g cf te xs acc #[s.sl,s2.os] Q;have:=h x Ym (λy s3=>c9 nt us g cf te xs (acc++[y]) #[s.sl,s3.os] Q) λs' e=>by
   rw[e];refine nF (λy hy=>h y (Yo _ hy)) ?_;rw[YI];exact q
  simpa [cf] using this
def nj:D->D
 | .tup (_::_::k::_)=>k
 | d=>d
theorem lW:∀ {hs:List (Str×List Str)} {ks:List D},ks.length=hs.length->(aY hs ks).map nj=ks
 | [],[],_=>rfl
 | [],_::_,e=>by simp at e
 | _::_,[],e=>by simp at e
 | h::hs,k::ks,e=>by
  show nj (oA h k)::(aY hs ks).map nj=k::ks;rw[lW (by simpa using e)]
  rfl
theorem len0{α:Type}{l:List α}(h:l.length=0):l=[]:=Y3 h
theorem u5{α:Type}{l:List α}(h:1<=l.length):∃ a r,l=a::r:=by
 cases l with
 | nil=>simp at h
 | cons a r=>exact#[a,r,U]
theorem JS{α:Type}{l:List α}(h:l.length=2):∃ a b,l=[a,b]:=by
 let(a,r,rfl):=u5 (l:=l) (by cbv);let(b,r',rfl):=u5 (l:=r) (by simp at h;cbv);have:r'=[]:=len0 (by simpa using h);subst this;exact#[a,b,U]
theorem Uh{α:Type}{l:List α}(h:l.length=3):∃ a b c,l=[a,b,c]:=by
 let(a,r,rfl):=u5 (l:=l) (by cbv);let(b,c,rfl):=JS (l:=r) (by simpa using h);exact#[a,b,c,U]
theorem ki:∀ (ks:List Tm),ks.length<=aV ks
 | []=>Ys _
 | .node f k::r=>by
  have:=ki r;show r.length+1<=(aV k+1)+aV r;cbv
theorem DM{f:Fm}{ks:List Tm}:ks.length < (Tm.node f ks).size:=Nat.lt_succ_of_le (ki ks)
theorem aC:16000000<=sizeLine:=by decide
mutual
noncomputable def Tm.pre:Tm->List Tm
 | .node f ks=>.node f ks::jf ks
noncomputable def jf:List Tm->List Tm
 | []=>[]
 | t::r=>t.pre++jf r
end
theorem IT(t:Tm):t.pre=t::jf t.kids:=by
 cases t
 rfl
theorem wa:∀ (a b:List Tm),jf (a++b)=jf a++jf b
 | [],b=>rfl
 | t::a,b=>by
  show t.pre++jf (a++b)=(t.pre++jf a)++jf b;rw[wa a b,YI]
theorem g9:∀ (a b:List Tm),aV (a++b)=aV a+aV b
 | [],b=>by simp[aV]
 | t::a,b=>by
  show t.size+aV (a++b)=(t.size+aV a)+aV b;rw[g9 a b];cbv
theorem size_eq(t:Tm):t.size=aV t.kids+1:=by
 cases t
 rfl
theorem size_pos(t:Tm):0 < t.size:=by rw[size_eq];cbv
mutual
theorem p8:∀ t:Tm,t.pre.length=t.size
 | .node f ks=>by
  show (jf ks).length+1=aV ks+1;rw[rE ks]
theorem rE:∀ ks:List Tm,(jf ks).length=aV ks
 | []=>rfl
 | t::r=>by
  show (t.pre++jf r).length=t.size+aV r;rw[Yl,p8 t,rE r]
end
theorem Gg{t:Tm}(h:t.wf=true):p5 t.kids=true:=by
 cases t;exact (pN h).2
theorem FV:∀ {a b:List Tm},p5 a=true->p5 b=true->p5 (a++b)=true:=λ{a b} ha hb=>vP λt ht=>by
 rcases Yz.mp ht with h | h
 .exact lP ha t h
 .exact lP hb t h
theorem bU{α:Type}{x:α}{r:List α}:iz (x::r) 0=some x:=fT (j:=0) U
theorem aB{α:Type}{nt:Nat}{us:List Nat}{g:pQ}{te:bH}(h f:α->D){Q:List D->DS->Prop}{s:DS}:∀ (xs:List α) {acc:List D},(∀ x∈xs,∀ k:D->DS->Prop,(∀ s':DS,s'.os=s.os->k (f x) s')->g (h x) (il nt us s) λs1=>te s1 k)->Q (acc++xs.map f) s->c9 nt us g cf te (xs.map h) acc s Q
 | [],acc,_,q=>by
  rw[Y9,YA] at q;exact q
 | x::xs,acc,hx,q=>by
  show g (h x) (il nt us s) λs1=>cf s1 λb s2=>if b=true then te s2 λy s3=>c9 nt us g cf te (xs.map h) (acc++[y]) #[s.sl,s3.os] Q else c9 nt us g cf te (xs.map h) acc #[s.sl,s2.os] Q;have:=hx x Ym (λy s3=>c9 nt us g cf te (xs.map h) (acc++[y]) #[s.sl,s3.os] Q) λs' e=>by
   rw[e];refine aB h f xs (λy hy=>hx y (Yo _ hy)) ?_;rw[YI];exact q
  simpa [cf] using this
theorem yU{r:Str}{hs:List (Str×List Str)}{n:Nat}(h:(Fm.g8 r hs).ar n=true):n=hs.length+1/\∀ h∈hs,h.2.length<=8:=by
 have h:(n == hs.length+1&&hs.all λh=>h.2.length<=8)=true:=h;rw[YG] at h;exact#[by simpa using h.1,λx hx=>by simpa using List.all_eq_true.mp h.2 x hx]
theorem Jl{r:Str}{hs:List (Str×List Str)}{n:Nat}(h:(Fm.new r hs).ar n=true):n=hs.length/\∀ h∈hs,h.2.length<=8:=by
 have h:(n == hs.length&&hs.all λh=>h.2.length<=8)=true:=h;rw[YG] at h;exact#[by simpa using h.1,λx hx=>by simpa using List.all_eq_true.mp h.2 x hx]
end DL
namespace DL
open PySem PySem.Spec L2
open PyProof.Rows hiding St
section
variable{X:Cx}{c:Ent}
theorem Ia{A:Around}{k:Nat}(hr:cU k A):A.units+150 < cLine:=by have:=hr.un;cbv
def tm:D->D->(D->Prop)->Prop:=λa b k=>∃ x y,a=.str x/\b=.str y/\(x.length+y.length<=sizeLine)/\k (.str (x++y))
end
theorem xk{P:Program}{w:World}{K:Frag}{mg:Str->Option Value}{base:Heap}{k:Nat}{f:Addr}{fd:FuncData}{ps:List Str}{g:A9}:bV P w K mg base aD k f fd ps (aO K g λ_ _=>False) :=
 #[λvs H Q E h=>by let(_,_,_,_,_,h,_):=h;exact h.elim,λA outer s H args us vs Q E hr he hb hv h=>by let(_,_,_,_,_,h,_):=h;exact h.elim]
def mR(d:Addr):aav:=λds R=>∃ m:Int,ds=[.fN d,.int m]/\(0 < m/\m < 9223372036854775808)/\∀ r:Int,0<=r->r < m->R (.int r)
theorem Hb{P:Program}{w:World}{K:Frag}{mg:Str->Option Value}{base:Heap}{k:Nat}{f d l:Addr}{fd:FuncData}{ps:List Str}(F:bV P w K mg base aD k f fd ps cV.yS):bV P w K mg base aD k f fd ps (aO K (b4 d l) (mR d)) :=
 F.imp λvs H Q E h=>by
  let(M,ds,R,B,r,(m,rfl,(h1,h2),k),kk):=h;let(v,w,rfl,e1,e2):=tD r;cases (show v=.ref d from e1);cases (show w=.int m from e2);refine#[d,l,m,U,B.lI,h1,h2,λq H' q1 q2 A' bt=>kk _ (k q q1 q2) M H' _ #[A',λb o e g=>bt b o e (λz=>g (.inl z)) λz=>g (.inr z),λb m=>?_,B.mo,λ_ m=>m,λ_ m=>.inl m] rfl];let(o,e):=B.md b m;exact#[o,bt b o e (λz=>B.mo b m (.inl z)) λz=>B.mo b m (.inr z)]
section
variable{X:Cx}{c:Ent}
def Tn(i:Nat):bH:=λs Q=>(∃ d,s.sl[i]?=some (.dat d)/\Q d s)\/∃ k d,s.sl[i]?=some (.own k)/\s.os[k]?=some (some d)/\Q d (s.freeze k d)
theorem zF{i:Nat}{e:Expr}(h:PE X e (bz i)):DE X c e (Tn i):=#[λpins s0 O H Q I zz=>d7 zz λM s as R L q kk=>by
 rcases q with q | q
 .exact (dv (c:=c) h).pe pins s0 O H Q I #[M,s,as,R,L,q,kk]
 .exact (UM (c:=c) h).pe pins s0 O H Q I #[M,s,as,R,L,q,kk]]
theorem a7:sA X c (λx y H Q=>∃ i j,x=.str i/\y=.str j/\i.length+j.length<=sizeLine/\Q (.str (i++j)) H) tm:=λM s as O H x y dx dy k Q L rx ry z9r kk=>by
 let(i,j,e1,e2,h,hk):=z9r;subst e1;subst e2;exact#[i,j,rx,ry,h,kk _ hk M H _ L .refl U]
def Mv:D->D->(D->Prop)->Prop:=λa b k=>∃ z n,a=.str z/\b=.int n/\MulOk z n/\k (.str (Txt.mul z n))
theorem ET:sA X c (λx y H Q=>∃ z n,x=.str z/\y=.int n/\MulOk z n/\Q (.str (Txt.mul z n)) H) Mv:=λM s as O H x y dx dy k Q L rx ry z0r kk=>by
 let(i,j,e1,e2,h,hk):=z0r;subst e1;subst e2;exact#[i,j,rx,ry,h,kk _ hk M H _ L .refl U]
def SH(te:bH)(tl th:Fs):bH:=λs Q=>te s λa s1=>tl s1 λl s2=>th s2 λu s3=>∃ z,a=.str z/\z.length<=sizeLine/\Q (.str (Txt.slice z l u)) s3
theorem xP{e:Expr}{lo hi:Option Expr}{te:bH}{tl th:Fs}{p2 pos:Pos}(he:DE X c e te)(hl:DO X c lo tl)(hu:DO X c hi th):DE X c (.Subscript e (.Slice lo hi none p2) pos) (SH te tl th):=#[(iy Em he.pe hl.po hu.po).imp λO H Q zz=>d7 zz λM s as R L q k =>
 #[M,s,as,_,L,q,λd s1 q1 M1 H1 v L1 E1 rv=>#[M1,s1,as,_,L1,q1,λl s2 q2 M2 H2 Lb E2=>#[M2,s2,as,_,Lb,q2,λu s3 q3 M3 H3 Lc E3=>by
  let(z,e,hz,q):=q3;subst e;have E13:=E2.trans Lb.base E3;exact#[z,rv,hz,k _ s3 q M3 H3 _ Lc (E1.trans L1.base E13) U]]]]]
theorem xH{K:Frag}{H:Hp}{M:Addr->Prop}:∀ {bs:List Str} {vs:List V},ay K H M (bs.map .str) vs->vs=bs.map V.str
 | [],vs,r=>r
 | b::bs,vs,r=>by
  let(x,xr,rfl,r1,r2):=r;have r1:x=.str b:=r1;rw[r1,xH r2,Yp]
def Dk(to:bH)(t:gb):bH:=λs Q=>to s λa s1=>∃ z,a=.str z/\t s1 λds s2=>∃ zs,ds=[.lst (zs.map .str)]/\(zs.map (·.length)).sum+zs.length * z.length<=16777216/\Q (.str (Txt.join z zs)) s2
theorem eh{o e:Expr}{es:List Expr}{to:bH}{t:gb}{apos cB:Pos}(ho:DE X c o to)(ha:DA X c (e::es) t)(iu:attributeBase o "join" X.env (eval o X.env)=eval o X.env:=by rfl)(u6:((backTo cB (starEach (e::es) X.env)).all (λx=>!x.1)&&(backToKw cB (keywordEach [] X.env)).all (λx=>x.1.isSome)
   && decide ((e::es).length+([]:List Keyword).length+(if ([]:List Keyword).isEmpty then 0 else 1) < 30))=true:=by rfl)(gW:(apos.endLine == cB.line)=true:=by rfl)(hs:aaw X.env e es:=by rfl)(iK:(backTo cB (starEach es X.env)).any (·.1)=false:=by rfl) :
  DE X c (.Call (.Attribute o "join" apos) (e::es) [] cB) (Dk to t):=#[(gx Zp PySem.F.slot_str_join PySem.F.type_str_join Fj ho.pe ha.pa iu u6 gW hs iK).imp λO H Q zz=>d7 zz λM s as R L q kk=>by
 refine#[M,s,as,_,L,q,λd s1 #[z,e,q1] M1 H1 v L1 E1 rv=>?_];subst e;cases (show v=.str z from rv);refine#[U,M1,s1,as,_,L1,q1,λds s2 #[zs,e2,hz,q2] M2 H2 vs L2 E2 rvs hl=>?_];subst e2;let(w,rfl,p,ys,rfl,(m,h),r'):=cH rvs;rw[xH r'] at h;exact#[z,p,zs,U,U,.of h,hz,kk _ s2 q2 M2 H2 _ L2 (E1.trans L1.base E2) U]]
def Lp(zs:List Str):gb:=λs Q=>Q (zs.map .str) s
theorem gm{K:Frag}{H:Hp}{M:Addr->Prop}:∀ (zs:List Str),ay K H M (zs.map .str) (zs.map V.str)
 | []=>rfl
 | z::zs=>#[_,_,U,U,gm zs]
theorem Gi{es:List Expr}{zs:List Str}(h:vI es=true)(h2:Ah es=zs)(h3:es.length=zs.length):DA X c es (Lp zs):=#[(by subst h2;exact (Aq h).imp λO H Q zz=>d7 zz λM s as R L q k=>k _ s q M H _ L .refl (gm _) (by rw[Yk];exact h3.symm))]
def NW(neg:Bool)(te:bH)(i:Nat):bH:=λs Q=>te s λa s1=>∃ k ds,s1.sl[i]?=some (.own k)/\s1.os[k]?=some (some (.lst ds))/\(hW a=true/\ds.all hW=true)/\Q (.bl (if neg then !lz (fv a) (ds.map fv) else lz (fv a) (ds.map fv))) s1
theorem Kc{neg:Bool}{i:Nat}{te:bH}{O:St}{H:Hp}{Q:VK}:tE X.K c (NW neg te i) O H Q->jh (LS X.K neg) (tE X.K c te) (bz i) O H Q:=λzz=>d7 zz λM s as R L q kk =>
 #[M,s,as,_,L,q,λd s1 z5q M1 H1 v L1 E1 rv=>by
  let(k,ds,h1,h2,(f1,f2),q1):=z5q;let(a,o,g1,g2,g3,g4):=L1.slot h1 h2;cases o with
  | lst us =>
   have g4:ay X.K H1 M1 ds us:=g4;have e1:=rv.flat f1;subst e1;let(e,f):=g4.flat f2;refine#[_,g2,a,us,U,.inl (.of g3),qy f1,f,?_];rw[e];exact kk _ s1 q1 M1 H1 _ L1 E1 U
  | _=>exact g4.elim]
theorem Jq{neg:Bool}{i:Nat}{a b:Expr}{op:CmpOp}{ta:bH}{pos:Pos}(ho:iT X (compareOp op) (LS X.K neg))(ha:DE X c a ta)(hb:PE X b (bz i))(hm:behindInMarks op b=false):DT X c (.Compare a [op] [b] pos) (Q2 (NW neg ta i)):=#[(iU ho ha.pe hb hm).imp λ_ _ _=>vm Kc]
end
end DL
namespace DL
open PySem PySem.Spec L2
def vG:List (Str×List Str)->List (List Str)->List Str
 | h::hs,l::ls=>l.filter (λx=>!h.2.contains x)++vG hs ls
 | _,_=>[]
def RU:Fm->List (List Str)->List Str
 | .nm x,_=>[x]
 | .num _,_=>[]
 | .lt x,ls=>ls.headD []++(ls.tail.headD []).filter (λy=>!([x]:List Str).contains y)
 | .g8 _ hs,ls=>ls.headD []++vG hs ls.tail
 | .new _ hs,ls=>vG hs ls
 | _,ls=>ls.flatten
mutual
noncomputable def Tm.Xf:Tm->List Str
 | .node f ks=>RU f (PV ks)
noncomputable def PV:List Tm->List (List Str)
 | []=>[]
 | t::r=>t.Xf::PV r
end
section
variable{κ:Type}[DecidableEq κ]
end
def Fm.strs:Fm->List Str
 | .nm x=>[x]
 | .num _=>[]
 | .op s=>[s]
 | .iR=>[]
 | .lt x=>[x]
 | .mk c=>[c]
 | .ask f=>[f]
 | .g8 r hs=>r::(hs.map λh=>h.1::h.2).flatten
 | .new k hs=>k::(hs.map λh=>h.1::h.2).flatten
mutual
noncomputable def Tm.Pb:Tm->Bool
 | .node f ks=>f.strs.all PyData.strOk&&wK ks
noncomputable def wK:List Tm->Bool
 | []=>true
 | t::r=>t.Pb&&wK r
end
theorem xy:∀ {ds:List D},(∀ d∈ds,k6 d=true)->fD ds=true
 | [],_=>rfl
 | d::ds,h=>by
  show (k6 d&&fD ds)=true;rw[h d Ym,xy λt ht=>h t (Yo _ ht)]
  rfl
theorem Dw{ns:List Str}(h:∀ x∈ns,PyData.strOk x=true):fD (r9 ns)=true:=xy λd hd=>by
 let(x,hx,rfl):=YB.mp hd;exact h x hx
theorem iq:∀ {hs:List (Str×List Str)} {ks:List D},(∀ x∈(hs.map λh=>h.1::h.2).flatten,PyData.strOk x=true)->fD ks=true->fD (aY hs ks)=true
 | [],ks,_,_=>by cases ks<;>rfl
 | _::_,[],_,_=>rfl
 | h::hs,k::ks,h1,h2=>by
  have h2:(k6 k&&fD ks)=true:=h2;rw[YG] at h2;have e:((h::hs).map λh=>h.1::h.2).flatten=(h.1::h.2)++(hs.map λh=>h.1::h.2).flatten:=rfl;rw[e] at h1;show (k6 (oA h k)&&fD (aY hs ks))=true;rw[iq (λx hx=>h1 x (Y1 _ hx)) h2.2,Bool.and_true];show (PyData.strOk h.1&&(fD (r9 h.2)&&(k6 k&&true)))=true;rw[h1 h.1 (Zd _ Ym),Dw λx hx=>h1 x (Zd _ (Yo _ hx)),h2.1]
  rfl
theorem FR:PyData.strOk "name"=true/\PyData.strOk "num"=true/\PyData.strOk "op"=true/\PyData.strOk "zero"=true/\PyData.strOk "let"=true/\PyData.strOk "make"=true/\PyData.strOk "ask"=true/\PyData.strOk "case"=true/\PyData.strOk "new"=true:=by decide+kernel
mutual
theorem C0:∀ t:Tm,t.wf=true->t.Pb=true->k6 (toD t)=true
 | .node f ks,hw,h=>by
  let(ha,hk):=pN hw;have h:(f.strs.all PyData.strOk&&wK ks)=true:=h;rw[YG] at h;have ih:=zZ ks hk h.2;have hs:∀ x∈f.strs,PyData.strOk x=true:=Y2.mp h.1;let(l1,l2,l3,l4,l5,l6,l7,l8,l9):=FR;cases f with
  | nm x =>
   show (PyData.strOk "name"&&(PyData.strOk x&&true))=true;rw[l1,hs x Ym]
   rfl
  | num x =>
   show (PyData.strOk "num"&&(true&&true))=true;rw[l2]
   rfl
  | op x =>
   show (PyData.strOk "op"&&(PyData.strOk x&&fD (toDs ks)))=true;rw[l3,hs x Ym,ih]
   rfl
  | iR =>
   show (PyData.strOk "zero"&&fD (toDs ks))=true;rw[l4,ih]
   rfl
  | lt x =>
   show (PyData.strOk "let"&&(PyData.strOk x&&fD (toDs ks)))=true;rw[l5,hs x Ym,ih]
   rfl
  | mk x =>
   show (PyData.strOk "make"&&(PyData.strOk x&&(fD (toDs ks)&&true)))=true;rw[l6,hs x Ym,ih]
   rfl
  | ask x =>
   let(a,r,rfl):=u5 (l:=ks) (by simpa [Fm.ar] using ha);have ih:(k6 (toD a)&&fD (toDs r))=true:=ih;rw[YG] at ih;show (PyData.strOk "ask"&&(k6 (toD a)&&(PyData.strOk x&&(fD (toDs r)&&true))))=true;rw[l7,hs x Ym,ih.1,ih.2]
   rfl
  | g8 x hd =>
   let(a,r,rfl):=u5 (l:=ks) (by rw[(yU ha).1];cbv);have ih:(k6 (toD a)&&fD (toDs r))=true:=ih;rw[YG] at ih;show (PyData.strOk "case"&&(k6 (toD a)&&(PyData.strOk x&&(fD (aY hd (toDs r))&&true))))=true;rw[l8,hs x Ym,ih.1,iq (λy hy=>hs y (Yo _ hy)) ih.2]
   rfl
  | new x hd =>
   show (PyData.strOk "new"&&(PyData.strOk x&&(fD (aY hd (toDs ks))&&true)))=true;rw[l9,hs x Ym,iq (λy hy=>hs y (Yo _ hy)) ih]
   rfl
theorem zZ:∀ ks:List Tm,p5 ks=true->wK ks=true->fD (toDs ks)=true
 | [],_,_=>rfl
 | t::r,h,h'=>by
  have h:(t.wf&&p5 r)=true:=h;have h':(t.Pb&&wK r)=true:=h';rw[YG] at h h';show (k6 (toD t)&&fD (toDs r))=true;rw[C0 t h.1 h'.1,zZ r h.2 h'.2]
  rfl
end
def eU(ds:List D):Nat:=PyData.depthAll (toPs ds)
theorem aw(d:D)(ds:List D):eU (d::ds)=max (dI d) (eU ds):=by
 show PyData.depthAll (toP d::toPs ds)=_;simp[PyData.depthAll,eU,dI]
theorem bF:eU []=0:=by simp[eU,toPs,PyData.depthAll]
theorem ba(ds:List D):dI (.tup ds)=eU ds+1:=by
 show PyData.depth (.tuple (toPs ds))=_;simp[PyData.depth,eU]
theorem Fo(ds:List D):dI (.lst ds)=eU ds+1:=by
 show PyData.depth (.list (toPs ds))=_;simp[PyData.depth,eU]
theorem bg(x:Str):dI (.str x)=0:=by simp[dI,toP,PyData.depth]
theorem Az(x:Int):dI (.int x)=0:=by simp[dI,toP,PyData.depth]
theorem wA:∀ ns:List Str,eU (r9 ns)=0
 | []=>bF
 | x::r=>by
  show eU (.str x::r9 r)=0;rw[aw,bg,wA r]
  rfl
theorem qV:∀ (hs:List (Str×List Str)) (ks:List D),eU (aY hs ks)<=max 2 (eU ks+1)
 | [],ks=>by
  have:aY [] ks=[]:=by cases ks<;>rfl
  rw[this,bF];cbv
 | _::_,[]=>by show eU []<=_;rw[bF];cbv
 | h::hs,k::ks=>by
  have:=qV hs ks;show eU (.tup [.str h.1,.tup (r9 h.2),k]::aY hs ks)<=_;rw[aw,ba,aw,aw,aw,aw,bg,ba,wA,bF];cbv
mutual
theorem CL:∀ t:Tm,t.wf=true->dI (toD t)<=4 * t.dep
 | .node f ks,hw=>by
  let(ha,hk):=pN hw;have ih:=zp ks hk;show dI (Dl f (toDs ks))<=4 * (pH ks+1);cases f with
  | nm x=>show dI (.tup [_,_])<=_;rw[ba,aw,aw,bg,bg,bF];cbv
  | num x=>show dI (.tup [_,_])<=_;rw[ba,aw,aw,bg,Az,bF];cbv
  | op x=>show dI (.tup (_::_::toDs ks))<=_;rw[ba,aw,aw,bg,bg];cbv
  | iR=>show dI (.tup (_::toDs ks))<=_;rw[ba,aw,bg];cbv
  | lt x=>show dI (.tup (_::_::toDs ks))<=_;rw[ba,aw,aw,bg,bg];cbv
  | mk x=>show dI (.tup [_,_,.tup (toDs ks)])<=_;rw[ba,aw,aw,aw,bg,bg,ba,bF];cbv
  | ask x =>
   let(a,r,rfl):=u5 (l:=ks) (by simpa [Fm.ar] using ha);have e:eU (toDs (a::r))=max (dI (toD a)) (eU (toDs r)):=aw _ _;show dI (.tup [_,toD a,_,.tup (toDs r)])<=_;rw[ba,aw,aw,aw,aw,bg,bg,ba,bF];cbv
  | g8 x hd =>
   let(a,r,rfl):=u5 (l:=ks) (by rw[(yU ha).1];cbv);have e:eU (toDs (a::r))=max (dI (toD a)) (eU (toDs r)):=aw _ _;have h2:=qV hd (toDs r);show dI (.tup [_,toD a,_,.tup (aY hd (toDs r))])<=_;rw[ba,aw,aw,aw,aw,bg,bg,ba,bF];cbv
  | new x hd =>
   have h2:=qV hd (toDs ks);show dI (.tup [_,_,.tup (aY hd (toDs ks))])<=_;rw[ba,aw,aw,aw,bg,bg,ba,bF];cbv
theorem zp:∀ ks:List Tm,p5 ks=true->eU (toDs ks)<=4 * pH ks
 | [],_=>by show eU []<=_;rw[bF];cbv
 | t::r,h=>by
  have h:(t.wf&&p5 r)=true:=h;rw[YG] at h;have h1:=CL t h.1;have h2:=zp r h.2;show eU (toD t::toDs r)<=4 * max t.dep (pH r);rw[aw];cbv
end
end DL
namespace DL
open PySem PySem.Spec L2
open PyProof.Rows hiding St
def Lw(x:Str):Prop:=∀ ch∈x.cps.toList,97<=ch/\ch<=122
noncomputable instance (x:Str):Decidable (Lw x):=by unfold Lw;infer_instance
theorem Lw.app{x y:Str}(h:Lw x)(k:Lw y):Lw (x++y):=λch hc=>by
 have e:(x++y).cps.toList=x.cps.toList++y.cps.toList:=by show (x.cps++y.cps).toList=_;simp
 rw[e,Yz] at hc;rcases hc with hc | hc
 .exact h ch hc
 .exact k ch hc
theorem Lw.slice{x:Str}(h:Lw x)(l u:Option Int):Lw (Txt.slice x l u):=by
 unfold Txt.slice;split
 .exact h
 .intro ch hc;simp only[List.mem_filterMap] at hc;let(i,_,e):=hc;let(hi,e):=Array.getElem?_eq_some_iff.mp e;exact h ch (by rw[<- e];simp)
theorem xM:∀ (cs:List Nat),(Txt.join ("":Str) (cs.map λc=>(#[#v[c]]:Str))).cps.toList=cs
 | []=>by unfold Txt.join;rw[PySem.StrLaws.glued_eq_join];rfl
 | [c]=>by unfold Txt.join;rw[PySem.StrLaws.glued_eq_join];rfl
 | c::d::r=>by
  have ih:=xM (d::r);have e:(Txt.join ("":Str) ((c::d::r).map λc=>(#[#v[c]]:Str)))=(#[#v[c]]:Str)++("":Str)++Txt.join ("":Str) ((d::r).map λc=>(#[#v[c]]:Str)):=by
   unfold Txt.join;rw[Zs,Zs]
   rfl
  rw[e];show ((#v[c]++#v[])++(Txt.join ("":Str) ((d::r).map λc=>(#[#v[c]]:Str))).cps).toList=_;rw[Array.toList_append,ih]
  rfl
theorem Lw.strOk{x:Str}(h:Lw x):PyData.strOk x=true:=by
 unfold PyData.strOk;rw[Array.all_eq_true];intro i hi;have:=h x.cps[i] (by simp);simp;cbv
theorem lq{nt:Nat}{us:List Nat}{g:pQ}{te:bH}(Pd:D->Prop){Q:List D->DS->Prop}{s:DS}:∀ (xs:List D) {acc:List D},(∀ x∈xs,∀ k:D->DS->Prop,(∀ (y:D) (s':DS),Pd y->s'.os=s.os->k y s')->g x (il nt us s) λs1=>te s1 k)->(∀ ys:List D,ys.length=xs.length->(∀ y∈ys,Pd y)->Q (acc++ys) s)->c9 nt us g cf te xs acc s Q
 | [],acc,_,q=>by
  have:=q [] rfl (λ_ h=>absurd h (by simp));rw[YA] at this;exact this
 | x::xs,acc,hx,q=>by
  have:=hx x Ym (λy s3=>c9 nt us g cf te xs (acc++[y]) #[s.sl,s3.os] Q) λy s' hy e=>by
   show c9 nt us g cf te xs (acc++[y]) #[s.sl,s'.os] Q;rw[e];refine lq Pd xs (λz hz=>hx z (Yo _ hz)) λys hl hp=>?_;rw[YI];refine q ([y]++ys) (by simp[hl]) λz hz=>?_;rcases Yn.mp hz with rfl | hz
   .exact hy
   .exact hp z hz
  rw[c9];simpa [cf] using this
theorem FU{X:Cx}{IB:List Stmt}{t:Addr->kC}(h:∀ d l M0 H0,xT X #[b4 d l,M0,H0] IB (t d)):rg X IB (λE O H=>∃ d l M0 H0,tS X.K #[b4 d l,M0,H0] (t d) E O H):=λpins s O H E I #[d,l,M0,H0,q]=>(h d l M0 H0).ps pins s O H E I q
theorem Lh{K:Frag}{d l:Addr}{H:Hp}{t:Addr->kC}{E:Ends}{O:St}{n nos:Nat}(D1:cV.At H d l)(hl:O.length=n+2)(h1:O[1]?=some (some (.ref d)))(q:t d { nx:=λ_=>False,rt:=λx=>x=.bl true } #[.no::.dat (.fN d)::List.replicate n .no,List.replicate nos none])(k:∀ H',E.rt (.bl true) H'):∃ d l M0 H0,tS K #[b4 d l,M0,H0] (t d) E O H:=by
 refine#[d,l,λ_=>False,H,λ_=>False,_,List.replicate nos 0,_,?_,q,?_]
 .refine#[#[D1,λb o e _=>e,λb m=>m.elim,λb m=>m.elim,λb m=>m.elim,λb m=>m.elim],by simp[hl],by simp,λi x e=>?_,λi k e=>?_,λk x a e=>?_,λk _ x _ a e=>?_,λk a e=>(nomatch e)]
  .match i,e with
   | 0,e=>simp at e
   | 1,e =>
    simp at e;subst e;exact#[_,h1,U]
   | i+2,e =>
    let(_,e):=Yu.mp e;simp at e
  .match i,e with
   | 0,e=>simp at e
   | 1,e=>simp at e
   | i+2,e =>
    let(_,e):=Yu.mp e;simp at e
  .let(_,e):=Yu.mp e;simp at e
  .let(_,e):=Yu.mp e;simp at e
 .refine#[λ_ _ _ _ _ z=>z.elim,λ_ _ _ _ _ z=>z.elim,λ_ _ _ _ _ z=>z.elim,λx M' H' v r B' rv=>?_,λ_ _ _ _ _ z=>z.elim,λ_ _ _ _ _ _ _ z=>z.elim];cases (show x=.bl true from r);cases (show v=.bl true from rv);exact k H'
def z6(K:Frag):Sp:=λvs H Q _=>∃ (a:Addr) (ns:List Int),vs=[.ref a]/\cn K H a (ns.map V.int)/\ns.length<=63/\∀ H',Q (.bl true) H'
def tJ:List Str:=["made","asked","def","tab","cross","to","number"]
def rB:List Str:=["zero","let","make","ask","case","new"]
def Nm(x:Str):Prop:=Lw x/\1<=x.length/\x.length<=8/\x∉tJ/\x∉rB
noncomputable instance (x:Str):Decidable (Nm x):=by unfold Nm;infer_instance
theorem Fw:∀ z∈cV.near,Nm z:=by decide+kernel
theorem F7:∀ z∈tJ,(z++("q":Str))∉tJ/\(z++("q":Str))∉rB/\z.length<=6:=by decide+kernel
theorem Gr:∀ z∈rB,(z++("q":Str))∉tJ/\(z++("q":Str))∉rB/\z.length<=6:=by decide+kernel
theorem fw{w:Str}:∀ {zs:List Str},lz (.str w) (zs.map V.str)=decide (w∈zs)
 | []=>rfl
 | z::zs=>by
  have ih:=fw (w:=w) (zs:=zs);unfold lz at ih ⊢;rw[Yp,Zh,ih];rw[show GD (V.str z) (V.str w)=decide (z=w) from U];by_cases h:z=w
  .simp[h]
  .simp[h,Ne.symm h]
def wl(pre post:List Nat)(tn k e:Nat):List Nat:=pre++(97+(tn+7 * k) % 26)::(post++(List.replicate (k % 2) 120++(List.replicate (k / 26) 121++List.replicate e 113)))
theorem Jw{pre post:List Nat}{tn k k' e e':Nat}(h:wl pre post tn k e=wl pre post tn k' e'):k=k':=by
 unfold wl at h;have h:=Z9 h;injection h with h1 h2;have h2:=Z9 h2;have h3:k % 26=k' % 26:=by cbv
 have h4:k % 2=k' % 2:=by cbv
 rw[h4] at h2;have h2:=Z9 h2;have h5:=congrArg (List.count 121) h2;simp[List.count_append,List.count_replicate] at h5;cbv
theorem m8(x y:Str):(x++y).cps.toList=x.cps.toList++y.cps.toList:=by show (x.cps++y.cps).toList=_;simp
theorem zJ{r:Int}(h0:0<=r)(h1:r < 26):iz cV.Nr.cps.toList r=some (97+r.toNat):=by
 have hn:∀ n:Fin 26,cV.Nr.cps.toList[n.val]?=some (97+n.val):=by decide+kernel
 have hj:r.toNat < 26:=by cbv
 have e:(r.toNat:Int)=r:=Int.toNat_of_nonneg h0;have q:=fT (xs:=cV.Nr.cps.toList) (j:=r.toNat) (v:=97+r.toNat) (hn #[r.toNat,hj]);rw[e] at q;exact q
theorem zW{c:Nat}{n:Int}(h0:0<=n)(h1:n<=2):(Txt.mul (#[#v[c]]:Str) n).cps.toList=List.replicate n.toNat c/\MulOk (#[#v[c]]:Str) n:=by
 have:n=0\/n=1\/n=2:=by cbv
 rcases this with rfl | rfl | rfl
 .exact#[U,U,λh=>absurd (by decide) h,λh=>absurd (by decide) h]
 .exact#[U,U,λ_ h=>absurd h (by simp),λ_ h=>absurd h (by simp)]
 .exact#[U,U,λ_ _=>by show ¬ ((1:Nat):Int) > (2 ^ 63 - 1) / 2;decide,λ_ _=>by show PySem.Builtin.Str.tooLong (1 * 2)=false;decide]
theorem tU{α:Type}{z:α}:∀ {ws:List α} (i:Nat),ws.Nodup->z∉ws->(ws.set i z).Nodup
 | [],i,h,hz=>by simpa using h
 | w::ws,0,h,hz=>by
  rw[List.set_cons_zero];rw[Za] at h ⊢;exact#[λm=>hz (Yo _ m),h.2]
 | w::ws,i+1,h,hz=>by
  rw[List.set_cons_succ];rw[Za] at h ⊢;refine#[λm=>?_,tU i h.2 λm=>hz (Yo _ m)];rcases List.mem_or_eq_of_mem_set m with m | e
  .exact h.1 m
  .exact hz (by rw[<- e];exact Ym)
open PySem.Builtin PySem.Builtin.Str in
theorem xq(x:Str)(l u:Option Int):(Txt.slice x l u).length<=(strSliceIndices l u 1 x.length).length:=by
 unfold Txt.slice;split
 .rename_i h
  simp at h;cbv
 .show (List.filterMap _ (strSliceIndices l u 1 x.length)).toArray.size<=_;rw[YH];exact Z4 _ _
open PySem.Builtin PySem.Builtin.Str in
theorem Bc{x:Str}{i:Int}(h0:0<=i)(h1:i<=x.length):(Txt.slice x none (some i)).length+(Txt.slice x (some i) none).length<=x.length:=by
 have a:=xq x none (some i);have b:=xq x (some i) none;have ha:(strSliceIndices none (some i) 1 x.length).length<=i.toNat:=by
  unfold strSliceIndices sliceRange;simp only[show (1:Int) > 0 by decide,if_true,List.length_map,List.length_range]<;>(split<;>(try split)<;>(try split)<;>(try simp only[Int.ediv_one])<;>cbv)
 have hb:(strSliceIndices (some i) none 1 x.length).length<=x.length - i.toNat:=by
  unfold strSliceIndices sliceRange;simp only[show (1:Int) > 0 by decide,if_true,List.length_map,List.length_range]<;>(split<;>(try split)<;>(try split)<;>(try simp only[Int.ediv_one])<;>cbv)
 cbv
def wC(pre post:List Nat)(tn:Nat)(ws:List Str):Prop:=∀ (j:Nat) (w:Str),ws[j]?=some w->Nm w/\∃ e,w.cps.toList=wl pre post tn j e
theorem wC.nodup{pre post:List Nat}{tn:Nat}{ws:List Str}(h:wC pre post tn ws):ws.Nodup:=by
 rw[List.nodup_iff_pairwise_ne,List.pairwise_iff_getElem];intro i j hi hj U3 e;let(_,e1,h1):=h i ws[i] (YY hi);let(_,e2,h2):=h j ws[j] (YY hj);rw[e,h2] at h1;have:=Jw h1;cbv
theorem wC.snoc{pre post:List Nat}{tn:Nat}{ws:List Str}{u:Str}{e:Nat}(h:wC pre post tn ws)(hu:Nm u)(he:u.cps.toList=wl pre post tn ws.length e):wC pre post tn (ws++[u]):=λj w q=>by
 by_cases hj:j < ws.length
 .rw[List.getElem?_append_left hj] at q;exact h j w q
 .rw[ZT (by cbv)] at q;let(h1,h2):=Yu.mp q;simp at h1;have:j=ws.length:=by cbv
  subst this;simp at h2;subst h2;exact#[hu,e,he]
theorem wC.nm{pre post:List Nat}{tn:Nat}{ws:List Str}(h:wC pre post tn ws):∀ w∈ws,Nm w:=λw m=>by
 let(j,hj,e):=List.getElem_of_mem m;exact (h j w (by rw[YY hj,e])).1
def D9(d:Addr):aav:=λds R=>∃ m:Int,ds=[.fN d,.int m]/\(0 < m/\m<=60)/\∀ ws:List Str,ws.length=m.toNat->ws.Nodup->(∀ x∈ws,Nm x)->R (.lst (ws.map .str))
section
variable{X:Cx}{c:Ent}
def Dq:D->Bool
 | .cw=>true
 | _=>false
theorem Rep.Nh{K:Frag}{H:Hp}{M:Addr->Prop}{d:D}{v:V}(r:Rep K H M d v):decide (v=.cw)=Dq d:=by
 cases d with
 | cw=>rw[show v=.cw from r];rfl
 | bl b=>rw[show v=.bl b from r];rfl
 | int b=>rw[show v=.int b from r];rfl
 | str b=>rw[show v=.str b from r];rfl
 | fN b=>rw[show v=.ref b from r];rfl
 | ty b=>rw[show v=.ty b from r];rfl
 | tup _=>let(a,xs,rfl,_):=r;rfl
 | lst _=>let(a,xs,rfl,_):=r;rfl
 | zM _ _=>let(a,xs,rfl,_):=r;rfl
 | sC _ _=>let(a,xs,rfl,_):=r;rfl
 | BP _ _=>let(a,o,xs,ts,rfl,_):=r;rfl
def NU:D->D->(D->Prop)->Prop:=λa b k=>b=.cw/\k (.bl (!Dq a))
theorem JN:sA X c (λx y H Q=>y=.cw/\Q (.bl (!decide (x=.cw))) H) NU:=λM s as O H x y dx dy k Q L rx ry z1r kk=>by
 let(e,hk):=z1r;subst e;refine#[ry,?_];rw[rx.Nh];exact kk _ hk M H _ L .refl U
def Rz:aav:=λas k=>∃ i j,as=[.int i,.int j]/\k (.int (if j < i then j else i))
theorem NI:AE X c (λxs H Q=>∃ i j,xs=[.int i,.int j]/\Q (.int (if j < i then j else i)) H) Rz:=λM s as O H xs ds k Q L r z2r kk=>by
 let(i,j,e,hk):=z2r;subst e;let(v,w,rfl,e1,e2):=tD r;have e1:v=.int i:=e1;have e2:w=.int j:=e2;subst e1;subst e2;exact#[i,j,U,kk _ hk M H _ L .refl U]
end
end DL
namespace PyZ
open PySem Sem
section
variable{prog:Program}{w:World}{A:Around}{E:aat}{s:Shared}{z TI TO i1 i2:Addr}{f1 f2:List Addr}{n1 n2:Nat}{P1 P2:Nat->Value->Prop}{S1 S2:Nat->Heap->Prop}
structure Apart(z TI TO i1 i2:Addr)(f1 f2:List Addr):Prop where
 TIz:TI≠z
 TOz:TO≠z
 i1z:i1≠z
 i2z:i2≠z
 TITO:TI≠TO
 TIi1:TI≠i1
 TIi2:TI≠i2
 TOi1:TO≠i1
 TOi2:TO≠i2
 z1:z∉f1
 z2:z∉f2
 o1:TO∉f1
 o2:TO∉f2
 a1:i2∉f1
 a2:i1∉f2
structure Zip(S1 S2:Nat->Heap->Prop)(z TI TO i1 i2:Addr)(f0:Value)(k1 k2:Nat)(h:Heap):Prop where
 zip:IsZip h z TI TO f0
 ins:IsPair h TI (.ref i1) (.ref i2)
 out:∃ a b,IsPair h TO a b
 M7:S1 k1 h
 J7:S2 k2 h
theorem but{c:Addr}{f:List Addr}{h h':Heap}{S:Nat->Heap->Prop}{it:Addr}{n k:Nat}{P:Nat->Value->Prop}(D:Draws prog w A it f n P S)(x:Heap.SameBut c h h')(hc:c∉f)(st:S k h):S k h' :=
 D.frame _ _ _ st λb hb o e=>x.extBut _ _ (λq=>hc (q▸hb)) e
theorem next_item{k:Nat}{Q:aat}(X:Apart z TI TO i1 i2 f1 f2)(D1:Draws prog w A i1 f1 n1 P1 S1)(D2:Draws prog w A i2 f2 n2 P2 S2)(Z:Zip S1 S2 z TI TO i1 i2 .none k k s.heap)(h1:k < n1)(h2:k < n2)(hQ:∀ x y h' tk,P1 k x->P2 k y->Zip S1 S2 z TI TO i1 i2 (rawInt ↑s) (k+1) (k+1) h'->IsPair h' ↑s x y->h'.objs.size=↑s+1 ->
   (∀ c o,c≠z->c≠TO->c≠i1->c≠i2->s.heap.get? c=some o->h'.get? c=some o)->Q (.ref ↑s) { s with heap:=h',toks:=tk }) :
  wpAny (model prog w) A (Builtin.«zip.__next__» #[[.ref z],[]]) (λfin s'=>∃ v,fin=.done (.ret v)/\Q v s') E s:=by
 let(hz,hTI,(a,b,hTO),t1,t2):=Z;show wpAny _ _ (field (.ref z) 2 >>= _) _ _ _;refine wpAny_bind (wpAny_field hz U (x:=.bool false) U ?_);show wpAny _ _ (field (.ref z) 3 >>= _) _ _ _;refine wpAny_bind (wpAny_field hz U (x:=.ref TI) U (wpAny_bind (wpAny_seqItems hTI U ?_)));show wpAny _ _ (Builtin.SmallTypes.ownedTupleIsFree (.ref z) >>= _) _ _ _;refine wpAny_bind ?_;unfold Builtin.SmallTypes.ownedTupleIsFree;refine wpAny_bind (wpAny_field hz U (x:=.none) U (wpAny_pure ?_));simp only[if_true];refine wpAny_bind (wpAny_rule (wpAny_bind (wpAny_field hz U (x:=.ref TO) U (wpAny_bind (wpAny_setField_rec hz (by simp) λha hza sa=>?_)))))
 replace hza:IsZip ha z TI TO .ellipsis:=hza
 refine wpAny_bind ?_;simp only[List.zipIdx_cons,List.zipIdx_nil,List.forIn_cons,List.forIn_nil];refine wpAny_bind (wpAny_bind (wpAny_onRaise ?_));show wpAny _ _ (Builtin.SmallTypes.nextOf (.ref i1) >>= _) _ _ _;refine wpAny_bind (D1.item k _ _ _ h1 (but D1 sa X.z1 t1) λx hb T3 px t1b sb=>wpAny_pure ?_);have ob:IsPair hb TO a b:=sb.extBut _ _ X.TOi1 (sa.extBut _ _ X.TOz hTO);refine wpAny_bind (wpAny_seqItems ob U (wpAny_bind (wpAny_updateSeq_pair ob λhc oc sc=>wpAny_bind (wpAny_letGo (wpAny_pure ?_)))))
 replace oc:IsPair hc TO x b:=oc
 refine wpAny_bind (wpAny_bind (wpAny_onRaise ?_));show wpAny _ _ (Builtin.SmallTypes.nextOf (.ref i2) >>= _) _ _ _;refine wpAny_bind (D2.item k _ _ _ h2 (but D2 sc X.o2 (but D2 sb X.a2 (but D2 sa X.z2 t2))) λy hd WY py t2d sd=>wpAny_pure ?_);have od:IsPair hd TO x b:=sd.extBut _ _ X.TOi2 oc;refine wpAny_bind (wpAny_seqItems od U (wpAny_bind (wpAny_updateSeq_pair od λhe oe se=>wpAny_bind (wpAny_letGo (wpAny_pure (wpAny_pure ?_))))))
 replace oe:IsPair he TO x y:=oe
 refine wpAny_bind (wpAny_seqItems oe U (wpAny_bind (wpAny_newTuple ?_)));have hsz:he.objs.size=↑s:=by rw[se.1,sd.1,sc.1,sb.1,sa.1]
 have ze:IsZip he z TI TO .ellipsis:=se.extBut _ _ X.TOz.symm (sd.extBut _ _ X.i2z.symm (sc.extBut _ _ X.TOz.symm (sb.extBut _ _ X.i1z.symm hza)));have ke:∀ c o,c≠z->c≠TO->c≠i1->c≠i2->s.heap.get? c=some o->he.get? c=some o:=λc o c1 c2 c3 c4 e =>
  se.extBut _ _ c2 (sd.extBut _ _ c4 (sc.extBut _ _ c2 (sb.extBut _ _ c3 (sa.extBut _ _ c1 e))))
 have t1e:S1 (k+1) he:=but D1 se X.o1 (but D1 sd X.a1 (but D1 sc X.o1 t1b));have t2e:S2 (k+1) he:=but D2 se X.o2 t2d;have hzlt:z < he.objs.size:=YC ze;show wpAny _ _ (Builtin.SmallTypes.ownedTupleHandOut (.ref z) (.ref he.objs.size) >>= _) _ _ _;refine wpAny_bind ?_;unfold Builtin.SmallTypes.ownedTupleHandOut;have zf:IsZip (he.push { cls:=.type "tuple",data:=.seq #v[x,y] }) z TI TO .ellipsis:=Yq _ ze;refine wpAny_bind (wpAny_setField_rec zf (by simp) λhg zg sg=>?_)
 replace zg:IsZip hg z TI TO (rawInt he.objs.size):=zg
 refine wpAny_setField_rec zg (by simp) λhh zh sh=>?_
 replace zh:IsZip hh z TI TO (rawInt he.objs.size):=zh
 have up:∀ c o,c≠z->he.get? c=some o->hh.get? c=some o:=λc o c1 e=>sh.extBut _ _ c1 (sg.extBut _ _ c1 (Yq _ e));have pT:IsPair hh he.objs.size x y:=sh.extBut _ _ (ZK hzlt) (sg.extBut _ _ (ZK hzlt) (YD _ U));have z8:hh.objs.size=he.objs.size+1:=by rw[sh.1,sg.1,Zf]
 rw[hsz] at zh pT z8;refine wpAny_pure #[_,U,?_];show Q (.ref he.objs.size) _;rw[hsz];refine hQ x y hh _ px py #[zh,up _ _ X.TIz (ke _ _ X.TIz X.TITO X.TIi1 X.TIi2 hTI),#[_,_,up _ _ X.TOz oe],?_,?_] pT z8 λc o c1 c2 c3 c4 e=>up c o c1 (ke c o c1 c2 c3 c4 e)
 .exact D1.frame _ _ _ t1e λq hq o e=>up q o (λr=>X.z1 (r▸hq)) e
 .exact D2.frame _ _ _ t2e λq hq o e=>up q o (λr=>X.z2 (r▸hq)) e
def Ends(prog:Program)(w:World)(A:Around)(it:Addr)(S:Heap->Prop):Prop:=∀ (s:Shared) (Q:aat) (E:aat),S s.heap ->
  (∀ h' e,Heap.ExtBut it s.heap h'->(∃ o,h'.get? e=some o/\o.cls=.type "StopIteration")->E (.ref e) { s with heap:=h' })->wpAny (model prog w) A (Builtin.SmallTypes.nextOf (.ref it)) Q E s
theorem next_end{k:Nat}{Q:PySem.Fin->Shared->Prop}(X:Apart z TI TO i1 i2 f1 f2)(D1:Draws prog w A i1 f1 n1 P1 S1)(D2:Draws prog w A i2 f2 n2 P2 S2)(Z:Zip S1 S2 z TI TO i1 i2 .none k k s.heap)(hk:Ends prog w A i1 (S1 k)\/(k < n1/\Ends prog w A i2 (S2 k)))(hE:∀ h' e tk,(∀ c o,c≠z->c≠TO->c≠i1->c≠i2->s.heap.get? c=some o->h'.get? c=some o)->(∃ o,h'.get? e=some o/\o.cls=.type "StopIteration")->E (.ref e) { s with heap:=h',toks:=tk }) :
  wpAny (model prog w) A (Builtin.«zip.__next__» #[[.ref z],[]]) Q E s:=by
 let(hz,hTI,(a,b,hTO),t1,t2):=Z;show wpAny _ _ (field (.ref z) 2 >>= _) _ _ _;refine wpAny_bind (wpAny_field hz U (x:=.bool false) U ?_);show wpAny _ _ (field (.ref z) 3 >>= _) _ _ _;refine wpAny_bind (wpAny_field hz U (x:=.ref TI) U (wpAny_bind (wpAny_seqItems hTI U ?_)));show wpAny _ _ (Builtin.SmallTypes.ownedTupleIsFree (.ref z) >>= _) _ _ _;refine wpAny_bind ?_;unfold Builtin.SmallTypes.ownedTupleIsFree;refine wpAny_bind (wpAny_field hz U (x:=.none) U (wpAny_pure ?_));simp only[if_true];refine wpAny_bind (wpAny_rule (wpAny_bind (wpAny_field hz U (x:=.ref TO) U (wpAny_bind (wpAny_setField_rec hz (by simp) λha hza sa=>?_)))))
 replace hza:IsZip ha z TI TO .ellipsis:=hza
 refine wpAny_bind ?_;simp only[List.zipIdx_cons,List.zipIdx_nil,List.forIn_cons,List.forIn_nil];refine wpAny_bind (wpAny_bind (wpAny_onRaise ?_));show wpAny _ _ (Builtin.SmallTypes.nextOf (.ref i1) >>= _) _ _ _;rcases hk with d1 | ⟨h1,d2⟩
 rotate_left
 .refine wpAny_bind (D1.item k _ _ _ h1 (but D1 sa X.z1 t1) λx hb T3 px t1b sb=>wpAny_pure ?_);have ob:IsPair hb TO a b:=sb.extBut _ _ X.TOi1 (sa.extBut _ _ X.TOz hTO);refine wpAny_bind (wpAny_seqItems ob U (wpAny_bind (wpAny_updateSeq_pair ob λhc oc sc=>wpAny_bind (wpAny_letGo (wpAny_pure ?_)))));refine wpAny_bind (wpAny_bind (wpAny_onRaise ?_));show wpAny _ _ (Builtin.SmallTypes.nextOf (.ref i2) >>= _) _ _ _;refine wpAny_bind (d2 _ _ _ (but D2 sc X.o2 (but D2 sb X.a2 (but D2 sa X.z2 t2))) λhd e sd he=>?_);let(oe,hoe,hce):=he;have zd:IsZip hd z TI TO .ellipsis:=sd _ _ X.i2z.symm (sc.extBut _ _ X.TOz.symm (sb.extBut _ _ X.i1z.symm hza));have hez:e≠z:=λx=>by subst x;rw[zd] at hoe;cases hoe;simp at hce
  exact wpAny_setField_rec zd (by simp) λhf _ sf=>hE hf e _ (λc o c1 c2 c3 c4 x=>sf.extBut _ _ c1 (sd _ _ c4 (sc.extBut _ _ c2 (sb.extBut _ _ c3 (sa.extBut _ _ c1 x))))) #[oe,sf.extBut _ _ hez hoe,hce]
 .refine wpAny_bind (d1 _ _ _ (but D1 sa X.z1 t1) λhb e sb he=>?_);let(oe,hoe,hce):=he;have zb:IsZip hb z TI TO .ellipsis:=sb _ _ X.i1z.symm hza;have hez:e≠z:=λx=>by subst x;rw[zb] at hoe;cases hoe;simp at hce
  exact wpAny_setField_rec zb (by simp) λhf _ sf=>hE hf e _ (λc o c1 _ c3 _ x=>sf.extBut _ _ c1 (sb _ _ c3 (sa.extBut _ _ c1 x))) #[oe,sf.extBut _ _ hez hoe,hce]
theorem GQ{k:Nat}{Q:Option Value->Shared->Prop}(X:Apart z TI TO i1 i2 f1 f2)(D1:Draws prog w A.in1 i1 f1 n1 P1 S1)(D2:Draws prog w A.in1 i2 f2 n2 P2 S2)(Z:Zip S1 S2 z TI TO i1 i2 .none k k s.heap)(h1:k < n1)(h2:k < n2)(hQ:∀ x y h' tk,P1 k x->P2 k y->Zip S1 S2 z TI TO i1 i2 (rawInt ↑s) (k+1) (k+1) h'->IsPair h' ↑s x y->h'.objs.size=↑s+1 ->
   (∀ c o,c≠z->c≠TO->c≠i1->c≠i2->s.heap.get? c=some o->h'.get? c=some o)->Q (some (.ref ↑s)) { s with heap:=h',toks:=tk }):wpAny (model prog w) A (pyNext (.ref z)) Q E s:=by
 have hT:s.TypeIs (.ref z) "zip":=#[_,Z.zip,U];unfold pyNext;exact wpAny_bind (wpAny_attempt (wpAny_callSpecial?_slot (name:=Str.ofString "__next__") hT F.slot_zip_next
  (wpAny_call_entry F.slot_zip_next hT F.entry_zip_next (next_item X D1 D2 Z h1 h2 λx y h' tk a1 a2 a3 a4 a5 a6=>wpAny_pure (hQ x y h' tk a1 a2 a3 a4 a5 a6)) (F.args_zip_next_1 _))))
theorem JB{k:Nat}{Q:Option Value->Shared->Prop}(X:Apart z TI TO i1 i2 f1 f2)(D1:Draws prog w A.in1 i1 f1 n1 P1 S1)(D2:Draws prog w A.in1 i2 f2 n2 P2 S2)(Z:Zip S1 S2 z TI TO i1 i2 .none k k s.heap)(hk:Ends prog w A.in1 i1 (S1 k)\/(k < n1/\Ends prog w A.in1 i2 (S2 k)))(hQ:∀ h' tk,(∀ c o,c≠z->c≠TO->c≠i1->c≠i2->s.heap.get? c=some o->h'.get? c=some o)->Q none { s with heap:=h',toks:=tk }):wpAny (model prog w) A (pyNext (.ref z)) Q E s:=by
 have hT:s.TypeIs (.ref z) "zip":=#[_,Z.zip,U];unfold pyNext;refine wpAny_bind (wpAny_attempt (wpAny_callSpecial?_slot (name:=Str.ofString "__next__") hT F.slot_zip_next
  (wpAny_call_entry F.slot_zip_next hT F.entry_zip_next (next_end X D1 D2 Z hk λh' e tk kk he=>?_) (F.args_zip_next_1 _))))
 let(o,ho,hc):=he;refine wpAny_bind (wpAny_isInstance (T:="StopIteration") (b:=true) #[o,ho,hc] isSubtype_stop ?_);exact wpAny_pure (hQ _ _ kk)
end
end PyZ
namespace PyZ
open PySem Sem L2
def vR(t:Bool)(h:Heap)(l:Addr)(xs:Array Value):Prop:=if t=true then h.IsTuple l xs else h.IsList l xs
def JG(t:Bool)(l:Addr):Obj:={ cls:=.type (if t=true then "tuple_iterator" else "list_iterator"),data:=.fields #v[.ref l,.int 0 0] }
theorem vR.at{t:Bool}{h h':Heap}{l:Addr}{xs:Array Value}(x:vR t h l xs)(k:∀ o,h.get? l=some o->h'.get? l=some o):vR t h' l xs:=by
 cases t with
 | true =>
  let(o,e,r):=(show h.IsTuple l xs from x);exact#[o,k o e,r]
 | false=>exact Heap.IsList.at (show h.IsList l xs from x) k
section
variable{prog:Program}{w:World}{A:Around}{E:aat}{s:Shared}
theorem Co{t:Bool}{l:Addr}{xs:Array Value}{Q:aat}(hl:vR t s.heap l xs)(h:Q (.ref ↑s) { s with heap:=s.heap.push (JG t l) }):wpAny (model prog w) A (pyIter (.ref l)) Q E s:=by
 cases t with
 | true=>exact wpAny_pyIter_tuple (show s.heap.IsTuple l xs from hl) h
 | false=>exact wpAny_pyIter_list (show s.heap.IsList l xs from hl) h
theorem pZ(t:Bool)(hh:A.handled=none)(it l:Addr)(i6:l≠it)(xs:Array Value):Draws prog w A it [it,l] xs.size (λi v=>xs[i]?=some v) (λi h=>lG t h it l i/\vR t h l xs):=by
 cases t with
 | true=>exact HF.Cs hh it l i6 xs
 | false=>exact Draws.list hh it l i6 xs
end
theorem Ca{prog:Program}{w:World}{A:Around}(t:Bool)(hh:A.handled=none){it l:Addr}{xs:Array Value}{k:Nat}(hk:xs.size<=k):Ends prog w A it (λh=>lG t h it l k/\vR t h l xs):=λs Q E z3r hE=>by
 let(a,b):=z3r;have hn:xs[k]?=none:=aaf hk;cases t with
 | true=>exact HF.fK hh (show s.heap.IsTupleIter it l k from a) (show s.heap.IsTuple l xs from b) hn hE
 | false=>exact wpAny_nextOf_list_end hh (show s.heap.IsListIter it l k from a) (show s.heap.IsList l xs from b) hn hE
abbrev q1(t1:Bool)(h:Heap)(l1:Addr):Heap:=h.push (JG t1 l1)
abbrev q2(t1 t2:Bool)(h:Heap)(l1 l2:Addr):Heap:=(q1 t1 h l1).push (JG t2 l2)
abbrev q3(t1 t2:Bool)(h:Heap)(l1 l2:Addr):Heap:=(q2 t1 t2 h l1 l2).push { cls:=.type "tuple",data:=.seq #v[.ref h.objs.size,.ref (q1 t1 h l1).objs.size] }
abbrev q4(t1 t2:Bool)(h:Heap)(l1 l2:Addr):Heap:=(q3 t1 t2 h l1 l2).push { cls:=.type "tuple",data:=.seq #v[.none,.none] }
abbrev q5(t1 t2:Bool)(h:Heap)(l1 l2:Addr):Heap:=(q4 t1 t2 h l1 l2).push { cls:=.type "zip",data:=.fields #v[.none,.bool false,.bool false,.ref (q2 t1 t2 h l1 l2).objs.size,.ref (q3 t1 t2 h l1 l2).objs.size] }
theorem Br(t1 t2:Bool)(l1 l2:Addr)(xs ys:Array Value) :
  Meets (Builtin.«zip.__new__» #[[.type "zip",.ref l1,.ref l2],[]]) (λ_ R s=>vR t1 s.heap l1 xs/\vR t2 s.heap l2 ys /\
   R (.ok (.ret (.ref (q4 t1 t2 s.heap l1 l2).objs.size))) { s with heap:=q5 t1 t2 s.heap l1 l2 }) :=
 .of_wp λprog w A R s h=>by
  let(hp,g,d,tk,os):=s;let(HJ,HK,h):=h;have hsub:=sub_zip;have hL1:vR t1 (Shared.heap #[hp,g,d,tk,os]) l1 xs:=HJ;have hL2:vR t2 (Shared.heap #[hp.push (JG t1 l1),g,d,tk,os]) l2 ys:=vR.at HK λo e=>Yq _ e
  wp_walk using Co hL1,Co hL2
  exact#[_,U,h]
section
variable{prog:Program}{w:World}{A:Around}{E:aat}{s:Shared}
theorem wU{t:Bool}{h:Heap}{it l:Addr}(e:h.get? it=some (JG t l)):lG t h it l 0:=by
 cases t with
 | true=>exact (show h.IsTupleIter it l 0 from #[_,e,U,U])
 | false=>exact (show h.IsListIter it l 0 from #[_,e,U,U])
theorem DY{t1 t2:Bool}{l1 l2:Addr}{xs ys:Array Value}{Q:aat}(HJ:vR t1 s.heap l1 xs)(HK:vR t2 s.heap l2 ys)(h:∀ h',IsZip h' (↑s+4) (↑s+2) (↑s+3) .none->IsPair h' (↑s+2) (.ref ↑s) (.ref (↑s+1)) ->
   IsPair h' (↑s+3) .none .none->lG t1 h' ↑s l1 0->lG t2 h' (↑s+1) l2 0->h'.objs.size=↑s+5 ->
   (∀ c o,s.heap.get? c=some o->h'.get? c=some o)->Q (.ref (↑s+4)) { s with heap:=h' }) :
  wpAny (model prog w) A (call (.type "zip") [.ref l1,.ref l2]) Q E s:=by
 refine callType_new F.called_zip (by decide) (F.typeCall_zip_2 _ _) (F.newCall_zip_2 _ _) (λobj=>F.args_object_init_3 obj _ _) F.entry_zip_new (Br t1 t2 l1 l2 xs ys) #[HJ,HK,?_];have z1:(q1 t1 s.heap l1).objs.size=↑s+1:=Zf ..;have z2:(q2 t1 t2 s.heap l1 l2).objs.size=↑s+2:=by rw[Zf,z1]
 have z3:(q3 t1 t2 s.heap l1 l2).objs.size=↑s+3:=by rw[Zf,z2]
 have z4:(q4 t1 t2 s.heap l1 l2).objs.size=↑s+4:=by rw[Zf,z3]
 have z5:(q5 t1 t2 s.heap l1 l2).objs.size=↑s+5:=by rw[Zf,z4]
 have g5:(q5 t1 t2 s.heap l1 l2).get? (q4 t1 t2 s.heap l1 l2).objs.size=some _:=YD _ U;have g4:(q5 t1 t2 s.heap l1 l2).get? (q3 t1 t2 s.heap l1 l2).objs.size=some _:=Yq _ (YD _ U);have g3:(q5 t1 t2 s.heap l1 l2).get? (q2 t1 t2 s.heap l1 l2).objs.size=some _:=Yq _ (Yq _ (YD _ U));have g2:(q5 t1 t2 s.heap l1 l2).get? (q1 t1 s.heap l1).objs.size=some (JG t2 l2):=Yq _ (Yq _ (Yq _ (YD _ U)));have g1:(q5 t1 t2 s.heap l1 l2).get? ↑s=some (JG t1 l1):=Yq _ (Yq _ (Yq _ (Yq _ (YD _ U))));show _/\_;rw[z2,z3,z4] at g5;rw[z1,z2] at g3;rw[z3] at g4;rw[z1] at g2;rw[z4];exact#[#[_,g5,U],h _ g5 g3 g4 (wU g1) (wU g2) z5 λc o x =>
  Yq _ (Yq _ (Yq _ (Yq _ (Yq _ x))))]
end
end PyZ
namespace L2
open PySem PySem.Spec PyZ
open PyProof.Rows hiding St
def VP(K:Frag)(t1 t2:Bool)(a b:Addr):It :=
 #[λi H=>∃ xs ys x y,(vx K t1 H a xs/\vx K t2 H b ys)/\xs[i]?=some x/\ys[i]?=some y,
  λi H x H'=>∃ p,H p=none/\x=.ref p/\∀ xs ys,vx K t1 H a xs->vx K t2 H b ys->∃ u v,xs[i]?=some u/\ys[i]?=some v/\H'=upd H p (.tup [u,v]),
  λi H=>∃ xs ys,(vx K t1 H a xs/\vx K t2 H b ys)/\min xs.length ys.length<=i]
section
variable{P:Program}{w:World}{K:Frag}
theorem nU{X:Cx}{pins:aau}{O:St}{H:Hp}{s:Shared}{a:Addr}{t:Bool}{xs:List V}(I:Inv X pins O H s)(h:vx X.K t H a xs):∃ its:List Value,Vals xs its/\vR t s.heap a its.toArray/\xs.length<=sizeLine:=by
 cases t with
 | true =>
  let(its,r,p,hz):=I.tuple (show gZ X.K H a xs from h);exact#[its,r,p,hz]
 | false =>
  let(its,r,p,hz):=I.list (show cn X.K H a xs from h);exact#[its,r,p.isList,hz]
structure Pw(t1 t2:Bool)(z TI TO i1 i2 a b:Addr)(i:Nat)(h:Heap):Prop where
 zip:IsZip h z TI TO .none
 ins:IsPair h TI (.ref i1) (.ref i2)
 out:∃ u v,IsPair h TO u v
 e1:lG t1 h i1 a i
 e2:lG t2 h i2 b i
theorem C2(t1 t2:Bool){elts:List Expr}{k:Nat}{nh:Pos}{z TI TO i1 i2 a b:Addr}(Y:Apart z TI TO i1 i2 [i1,a] [i2,b])(ha:a≠i1)(hb:b≠i2):Turn P w K (.Tuple elts k nh) (VP K t1 t2 a b) [z,TI,TO,i1,i2] z (Pw t1 t2 z TI TO i1 i2 a b) where
 mem:=by simp
 obj:=λi h st c hc=>by
  simp only[List.mem_cons,List.not_mem_nil,or_false] at hc;rcases hc with rfl | rfl | rfl | rfl | rfl
  .exact#[_,st.zip,λv q=>by
    have q':Data.fields _=Data.cell v:=q;cases q']
  .exact#[_,st.ins,λv q=>by
    have q':Data.seq _ _=Data.cell v:=q;cases q']
  .let(u,v,e):=st.out;exact#[_,e,λv q=>by
    have q':Data.seq _ _=Data.cell v:=q;cases q']
  .exact st.e1.obj
  .exact st.e2.obj
 keep:=λi h h' st kk=>#[kk z (by simp) _ st.zip,kk TI (by simp) _ st.ins,let #[u,v,e]:=st.out;#[u,v,kk TO (by simp) _ e],st.e1.at λo x=>kk i1 (by simp) o x,st.e2.at λo x=>kk i2 (by simp) o x]
 item:=by
  intro X hP hw hK hc i pins s O H E I hf st hg;subst hP hw hK;let(xs,ys,x,y,(hx,hy),ex,ey):=hg;let(its1,r1,p1,_):=nU I hx;let(its2,r2,p2,_):=nU I hy;let(u,hu,ru):=r1.get ex;let(v,hv,rv):=r2.get ey;have hd:(X.A.in1).handled=none:=I.ok.hd hc;refine GQ Y (pZ t1 hd i1 a ha its1.toArray) (pZ t2 hd i2 b hb its2.toArray) #[st.zip,st.ins,st.out,#[st.e1,p1],#[st.e2,p2]] ?_ ?_ λu' v' h' tk pu pv Z pT hsz hk=>?_
  .have:=(Yu.mp hu).1;simpa using this
  .have:=(Yu.mp hv).1;simpa using this
  have e1:u'=u:=by
   have q:its1[i]?=some u':=by simpa using pu
   rw[hu] at q;exact (YU q).symm
  have e2:v'=v:=by
   have q:its2[i]?=some v':=by simpa using pv
   rw[hv] at q;exact (YU q).symm
  subst e1;subst e2;refine#[_,U,wpAny_letOwnedTupleGo_zip (s:={ s with heap:=h',toks:=tk }) Z.zip λh2 z2 s2=>?_];have hzlt:z < ↑s:=YC st.zip;have keep:∀ c o,c∉[z,TI,TO,i1,i2]->s.heap.get? c=some o->h2.get? c=some o:=λc o hc q=>by
   simp only[List.mem_cons,List.not_mem_nil,or_false,not_or] at hc;exact s2.extBut _ _ hc.1 (hk c o hc.1 hc.2.2.1 hc.2.2.2.1 hc.2.2.2.2 q)
  have hfr:H ↑s=none:=I.aN.fresh (Ys _);have I1:Inv X pins O (upd H ↑s (.tup [x,y])) { s with heap:=h2,toks:=tk } :=
   Inv.AF I keep hf (Ys _) #[by show 2<=sizeLine;decide,[u',v'],.cons ru (.cons rv .nil),#[_,s2.extBut _ _ (ZK hzlt) pT,U,_,U]]
  refine#[.ref ↑s,_,I1,U,#[↑s,hfr,U,λzs ws q1 q2=>#[x,y,?_,?_,U]],#[z2,s2.extBut _ _ Y.TIz Z.ins,let #[p,q,e]:=Z.out;#[p,q,s2.extBut _ _ Y.TOz e],Z.M7.1.at λo e=>s2.extBut _ _ Y.i1z e,Z.J7.1.at λo e=>s2.extBut _ _ Y.i2z e],λc hc=>?_]
  .rw[p7 I hx q1];exact ex
  .rw[p7 I hy q2];exact ey
  .have kR:c < ↑s:=by
    simp only[List.mem_cons,List.not_mem_nil,or_false] at hc;rcases hc with rfl | rfl | rfl | rfl | rfl
    .exact hzlt
    .exact YC st.ins
    .let(_,_,e):=st.out;exact YC e
    .let(o,e,_):=st.e1.obj;exact YC e
    .let(o,e,_):=st.e2.obj;exact YC e
   rw[aq (YJ kR)];exact (hf c hc).1
 done:=by
  intro X hP hw hK hc i pins s O H E I hf st hg;subst hP hw hK;let(xs,ys,(hx,hy),hm):=hg;let(its1,r1,p1,_):=nU I hx;let(its2,r2,p2,_):=nU I hy;have l1:=r1.length;have l2:=r2.length;have hd:(X.A.in1).handled=none:=I.ok.hd hc;refine JB Y (pZ t1 hd i1 a ha its1.toArray) (pZ t2 hd i2 b hb its2.toArray) #[st.zip,st.ins,st.out,#[st.e1,p1],#[st.e2,p2]] ?_ λh' tk hk=>#[U,Inv.uU (t':=tk) I (λc o hc q=>?_) hf]
  .by_cases h1:i < its1.length
   .exact .inr #[by simpa using h1,Ca t2 hd (by simp;cbv)]
   .exact .inl (Ca t1 hd (by simp;cbv))
  .simp only[List.mem_cons,List.not_mem_nil,or_false,not_or] at hc;exact hk c o hc.1 hc.2.2.1 hc.2.2.2.1 hc.2.2.2.2 q
 self:=λ_ _ _ _ _ st h=>wpAny_pyIter_zip st.zip h
end
section
variable{X:Cx}
theorem vR.lt{t:Bool}{h:Heap}{l:Addr}{xs:Array Value}(x:vR t h l xs):l < h.objs.size:=by
 cases t with
 | true =>
  let(o,e,_):=(show h.IsTuple l xs from x);exact YC e
 | false =>
  let(o,e,_):=(show h.IsList l xs from x);exact YC e
theorem apart_new{n l1 l2:Nat}(h1:l1 < n)(h2:l2 < n):Apart (n+4) (n+2) (n+3) n (n+1) [n,l1] [n+1,l2]:=by
 have ne:∀ {a b:Nat},(a < b\/b < a)->¬ (a:Addr)=b:=λh e=>by
  have e:(_:Nat)=_:=e;cbv
 refine#[ne (by cbv),ne (by cbv),ne (by cbv),ne (by cbv),ne (by cbv),ne (by cbv),ne (by cbv),ne (by cbv),ne (by cbv),?_,?_,?_,?_,?_,?_]<;>(simp only[List.mem_cons,List.not_mem_nil,or_false,not_or];exact#[ne (by cbv),ne (by cbv)])
def Rp(K:Frag)(t:TA):TI:=λO H R=>t O H λvs H1=>∃ a b t1 t2 xs ys,vs=[.ref a,.ref b]/\(vx K t1 H1 a xs/\vx K t2 H1 b ys)/\(xs.length<=sizeLine->R (VP K t1 t2 a b) H1)
theorem KW{elts:List Expr}{k:Nat}{nh p pos:Pos}{a b:Expr}{t:TA}(hg:Gl X "zip")(hm:X.mg "zip"=none)(ha:PA X [a,b] t)(hs:starEach [a,b] X.env=[(false,eval a X.env),(false,eval b X.env)]:=by rfl)(BJ:starEach [b] X.env=[(false,eval b X.env)]:=by rfl):PI X (.Tuple elts k nh) (.Call (.Name "zip" p) [a,b] [] pos) (Rp X.K t):=by
 intro pins s O H R I h;refine Call_ (j6 I hg hm (u:=.type "zip") (by decide+kernel) (PyProof.Rows.callWith_type1 (b9 (ha pos pins s O H _ I h) λus s1 zz=>el2 zz λvs H1 I1 r1 q1=>?_) (by rw[hs,BJ]) (by rw[BJ];rfl)));let(l1,l2,t1,t2,xs,ys,e,(hx,hy),q):=q1;subst e;let(u,v,rfl,ru,rv):=Vals.two r1;cases ru;cases rv;let(its1,v1,p1,z1):=nU I1 hx;let(its2,v2,p2,z2):=nU I1 hy;have b1:=vR.lt p1;have b2:=vR.lt p2;refine DY p1 p2 λh' hz hI hO e1 e2 hsz hk=>wpAny_pyIter_zip hz ?_;refine#[↑s1+4,[↑s1+4,↑s1+2,↑s1+3,↑s1,↑s1+1],_,_,H1,U,I1.kept (t':=s1.toks) hk,
  C2 t1 t2 (apart_new b1 b2) (YJ b1) (YJ (Nat.lt_succ_of_lt b2)),#[hz,hI,#[_,_,hO],e1,e2],λc hc=>?_,q z1]
 .have hle:↑s1<=c:=by
   simp only[List.mem_cons,List.not_mem_nil,or_false] at hc;rcases hc with e | e | e | e | e<;>(rw[e];first | exact Ys _ | exact Nat.le_add_right _ _)
  exact I1.vL hle (I1.aN.fresh hle)
end
end L2
namespace DL
open PySem PySem.Spec L2
open PyProof.Rows hiding St
section
variable{X:Cx}{c:Ent}
def pB(xs ys:List D):List D:=xs.zipWith (λx y=>.tup [x,y]) ys
def JF:D->Option (List D)
 | .lst ds=>some ds
 | .tup ds=>some ds
 | _=>none
def O1(t:gb):gb:=λs Q=>t s λas s1=>∃ d e xs ys,as=[d,e]/\(JF d=some xs/\JF e=some ys)/\Q (pB xs ys) s1
theorem wD{xs ys:List D}:(pB xs ys).length=min xs.length ys.length:=by simp[pB]
theorem DP{xs ys:List D}{i:Nat}{d:D}(h:(pB xs ys)[i]?=some d):∃ x y,xs[i]?=some x/\ys[i]?=some y/\d=.tup [x,y]:=by
 unfold pB at h;rw[aao] at h;cases e:xs[i]? with
 | none=>rw[e] at h;cases h
 | some x =>
  cases e2:ys[i]? with
  | none=>rw[e,e2] at h;cases h
  | some y =>
   rw[e,e2] at h;cases h;exact#[x,y,U,U,U]
theorem zv{K:Frag}{M1:Addr->Prop}{H1:Hp}{d:D}{xs:List D}{v:V}(h:JF d=some xs)(r:Rep K H1 M1 d v):∃ a t vs,v=.ref a/\ay K H1 M1 xs vs/\∀ M2 H2,eT M1 H1 M2 H2->vx K t H2 a vs/\ay K H2 M2 xs vs:=by
 cases d with
 | lst ds =>
  cases h;let(a,vs,rfl,(m,e),r):=r;exact#[a,false,vs,U,r,λM2 H2 G=>#[cn.of ((G a m).2 _ e),G.lK r]]
 | tup ds =>
  cases h;let(a,vs,rfl,e,r):=r;exact#[a,true,vs,U,r,λM2 H2 G=>#[(e.mono (λb m=>(G b m).1) λb o m e=>(G b m).2 o e).sq,G.lK r]]
 | _=>cases h
theorem Aa{elts:List Expr}{k:Nat}{nh p pos:Pos}{a b:Expr}{t:gb}(hg:Gl X "zip")(hm:X.mg "zip"=none)(ha:DA X c [a,b] t)(hs:starEach [a,b] X.env=[(false,eval a X.env),(false,eval b X.env)]:=by rfl)(BJ:starEach [b] X.env=[(false,eval b X.env)]:=by rfl):DI X c (.Tuple elts k nh) (.Call (.Name "zip" p) [a,b] [] pos) (O1 t) :=
 #[λpins s O H R I zz=>d7 zz λM s0 as R0 L q k=>KW hg hm ha.pa hs BJ pins s O H R I
  #[M,s0,as,_,L,q,λads s1 z4r M1 H1 vs L1 E1 rv _=>by
   let(d,e,xs,ys,ead,(hd,he),q1):=z4r;subst ead;let(u,v,rfl,ru,rw):=tD rv;let(a,t1,us,rfl,r1,g1):=zv hd ru;let(b,t2,ws,rfl,r2,g2):=zv he rw;have G0:eT M1 H1 M1 H1:=λb m=>#[m,λ_ h=>h];refine#[a,b,t1,t2,us,ws,U,#[(g1 M1 H1 G0).1,(g2 M1 H1 G0).1],λhl=>k _ s1 q1 M1 H1 _ L1 E1 (λM2 H2 G=>?_) (by rw[wD,<- r1.length];cbv)];let(h1,y1):=g1 M2 H2 G;let(h2,y2):=g2 M2 H2 G;refine#[λi hi=>#[us,ws,#[h1,h2],by rw[r1.length,r2.length];rw[wD] at hi;exact hi],λi d hd=>?_];let(x,y,ex,ey,rfl):=DP hd;let(v1,c1,c2):=y1.get ex;let(v2,c3,c4):=y2.get ey;refine#[#[us,ws,v1,v2,#[h1,h2],c1,c3],λx H3 #[b,hb,ex,hx]=>.inr ?_];let(w1,w2,m1,m2,m3):=hx us ws h1 h2;rw[c1] at m1;rw[c3] at m2;cases m1;cases m2;subst m3;exact#[b,_,hb,U,b,_,ex,#[.inr U,au],#[_,_,U,y0 hb c2,_,_,U,y0 hb c4,U]]]]
end
end DL
namespace L2
open PySem PySem.Spec PyProof.Rows
section
variable{X:Cx}
end
end L2
namespace DL
open PySem PySem.Spec L2
open PyProof.Rows hiding St
section
variable{X:Cx}{c:Ent}
end
end DL
namespace PySem.F
end PySem.F
namespace PyZ
open PySem Sem
section
variable{prog:Program}{w:World}{A:Around}{E:aat}{s:Shared}{z TI TO i1 i2:Addr}{f1 f2:List Addr}{n1 n2:Nat}{P1 P2:Nat->Value->Prop}{S1 S2:Nat->Heap->Prop}
end
end PyZ
namespace L2
open PySem PySem.Spec PyZ
open PyProof.Rows hiding St
section
variable{X:Cx}{pins:aau}{O:St}
end
end L2
namespace DL
open PySem PySem.Spec L2
open PyProof.Rows hiding St
section
variable{X:Cx}{c:Ent}
end
end DL
namespace Uc
open PySem Sem
open PySem.AutoSeq1 (wpAny_loadPart')
section
variable{prog:Program}{w:World}{A:Around}{E:aat}{s:Shared}
end
end Uc
namespace L2
open PySem PySem.Spec
open PyProof.Rows hiding St
section
variable{P:Program}{w:World}{K:Frag}
section
variable{M:Model}{A:Around}{E:aat}{s:Shared}{env:Env}
end
section
variable{X:Cx}
end
end
end L2
namespace DL
open PySem PySem.Spec L2
open PyProof.Rows hiding St
section
variable{X:Cx}{c:Ent}
end
end DL
namespace Uc
open PySem Sem
section
variable{prog:Program}{w:World}{A:Around}{E:aat}{h:Heap}{g:Array GenState}{d:Drawn}{t:Nat}{os:OsState}{a:Addr}{o:Obj}
end
end Uc
namespace L2
open PySem PySem.Spec
open PyProof.Rows hiding St
section
variable{X:Cx}{pins:aau}{O:St}
end
end L2
namespace DL
open PySem PySem.Spec L2
section
variable{X:Cx}{c:Ent}
end
end DL
namespace HT
open PySem PySem.Spec PyProof.Rows
open PySem.AutoSeq1
theorem tuple_addW0(l b:Addr)(items Lu:Array Value)(n n2:Nat)(dd LQ:Option Addr)(sl Lz:Array (Option Value))(Yf:items.isEmpty=true) :
  Meets (Builtin.«tuple.__add__» #[[.ref l,.ref b],[]]) (λ_ R s=>s.heap.get? l=some #[.type "tuple",dd,.seq items n,sl]/\s.heap.get? b=some #[.type "tuple",LQ,.seq Lu n2,Lz]/\R (.ok (.ret (.ref b))) s) :=
 .of_wp λprog w A R s h=>by
  let(hp,g,d,tk,os):=s;let(hl,hb,h):=h;have f2:=ZG
  wp_walk using wpAny_loadPart' hl,wpAny_loadPart' hb
  exact#[_,U,h]
section
variable{prog:Program}{w:World}{A:Around}{E:aat}{s:Shared}
theorem Es{t b:Addr}{ws:List Value}{Q:aat}(ht:IsTup s.heap t ([]:List Value).toArray)(hb:IsTup s.heap b ws.toArray)(h:Q (.ref b) s):wpAny (model prog w) A (binaryOp .Add (.ref t) (.ref b)) Q E s:=by
 let((cls,dd,data,sl),ho,hc,n,hd):=id ht;let((cls2,LQ,data2,Lz),ho2,hc2,n2,hd2):=id hb;simp only at hc hd hc2 hd2;subst hc hd hc2 hd2;exact concat_meets #[_,ho,U] #[_,ho2,U] noFill_tuple_add seq_tuple_add aac Z8 (Z0 _ _) (tuple_addW0 t b _ ws.toArray n n2 dd LQ sl Lz U) #[ho,ho2,h]
end
end HT
namespace L2
open PySem PySem.Spec PyProof.Rows
section
variable{X:Cx}
def HB(K:Frag):R2:=λx y H Q=>∃ a b xs ys,x=.ref a/\y=.ref b/\gZ K H a xs/\gZ K H b ys/\xs.length+ys.length<=sizeLine/\(xs=[]->Q (.ref b) H)/\(xs≠[]->ys=[]->Q (.ref a) H)/\(xs≠[]->ys≠[]->∀ p,H p=none->Q (.ref p) (upd H p (.tup (xs++ys))))
theorem p9:iT X (binaryOp .Add) (HB X.K):=by
 intro pins s O H x y v u Q I rx ry h;let(a,b,xs,ys,rfl,rfl,ha,hb,hz,q0,q1,q2):=h;by_cases hx:xs=[]
 .cases rx;cases ry;let(its,r1,p1,_):=I.tuple ha;let(its2,r2,p2,_):=I.tuple hb;have e:its=[]:=r1.mX.mpr hx;subst e;exact HT.Es p1 p2 #[.ref b,H,I,U,q0 hx]
 .exact kc pins s O H _ _ v u Q I rx ry #[a,b,xs,ys,U,U,ha,hb,hx,hz,q1 hx,q2 hx]
end
end L2
namespace DL
open PySem PySem.Spec L2
section
variable{X:Cx}{c:Ent}
def Mi:D->D->(D->Prop)->Prop:=λa b k=>∃ xs ys,a=.tup xs/\b=.tup ys/\xs.length+ys.length<=sizeLine/\k (.tup (xs++ys))
theorem vb:sA X c (HB X.K) Mi:=λM s as O H x y dx dy k Q L rx ry z5r kk=>by
 let(xs,ys,e1,e2,hl,hk):=z5r;subst e1;subst e2;let(p,vs,rfl,t,r):=rx;let(p',vs',rfl,t',r'):=ry;refine#[p,p',vs,vs',U,U,t.sq,t'.sq,by rw[r.length,r'.length];exact hl,λz=>?_,λ_ z=>?_,λ_ z q hq=>?_]
 .have:=r.length;rw[z] at this;have e:xs=[]:=Y3 this.symm;subst e;rw[YE] at hk;exact kk _ hk M H _ L .refl #[p',vs',U,t',r']
 .have:=r'.length;rw[z] at this;have e:ys=[]:=Y3 this.symm;subst e;rw[YA] at hk;exact kk _ hk M H _ L .refl #[p,vs,U,t,r]
 .exact kk _ hk _ _ _ (L.fresh hq) (Ext.fresh hq) #[q,vs++vs',U,#[.inr U,au],kl hq (r.append r')]
end
end DL
namespace DL
open PySem PySem.Spec L2
open PyProof.Rows hiding St
section
variable{K:Frag}{H:Hp}{M:Addr->Prop}{a:Addr}
end
section
variable{X:Cx}{c:Ent}{k:Nat}{f:Addr}{fd:FuncData}{ps:List Str}{t:aav}{x:Str}{p pos:Pos}{e ex:Expr}{te:bH}
end
end DL
namespace DL
open PySem PySem.Spec L2
def bG(b:Bool):Str:=if b=true then "asked" else "made"
def pairD(p:Str×Str):D:=.tup [.str p.1,.str p.2]
theorem Nm.ok{x:Str}(h:Nm x):PyData.strOk x=true:=h.1.strOk
theorem kB{α β:Type}{nt:Nat}{us:List Nat}{g:pQ}{te:bH}(h:α->D)(f:β->D)(Rl:α->β->Prop){Q:List D->DS->Prop}{s:DS}:∀ (xs:List α) {acc:List D},(∀ x∈xs,∀ k:D->DS->Prop,(∀ (y:β) (s':DS),Rl x y->s'.os=s.os->k (f y) s')->g (h x) (il nt us s) λs1=>te s1 k)->(∀ ys:List β,Paired Rl xs ys->Q (acc++ys.map f) s)->c9 nt us g cf te (xs.map h) acc s Q
 | [],acc,_,q=>by
  have:=q [] .nil;rw[Y9,YA] at this;exact this
 | x::xs,acc,hx,q=>by
  have:=hx x Ym (λy s3=>c9 nt us g cf te (xs.map h) (acc++[y]) #[s.sl,s3.os] Q) λy s' hy e=>by
   show c9 nt us g cf te (xs.map h) (acc++[f y]) #[s.sl,s'.os] Q;rw[e];refine kB h f Rl xs (λz hz=>hx z (Yo _ hz)) λys hp=>?_;rw[YI];exact q (y::ys) (.cons hy hp)
  rw[Yp,c9];simpa [cf] using this
theorem KS{α:Type}{f:α->D}{xs:List α}{r:Int}(h0:0<=r)(h1:r < xs.length):∃ x,xs[r.toNat]?=some x/\iz (xs.map f) r=some (f x):=by
 have hj:r.toNat < xs.length:=by cbv
 refine#[xs[r.toNat],YY hj,?_];have e:(r.toNat:Int)=r:=Int.toNat_of_nonneg h0;have q:=fT (xs:=xs.map f) (j:=r.toNat) (v:=f xs[r.toNat]) (by simp[hj]);rw[e] at q;exact q
theorem qo{α:Type}{f:α->D}{xs:List α}{r:Int}(h0:0<=r)(h1:r < xs.length):∃ x,x∈xs/\iz (xs.map f) r=some (f x):=by
 let(x,h,e):=KS (f:=f) h0 h1;exact#[x,Y4 h,e]
theorem yf(n:Nat):dQ 0 n=(List.range n).map λ(i:Nat)=>D.int (i:Int):=by
 unfold dQ;refine Zl λi _=>?_;rw[Int.zero_add]
theorem qe{α:Type}{f:α->D}{xs:List α}{lo hi:Option Int}:cutD (xs.map f) lo hi=((xs.drop (HT.cz xs.length 0 lo)).take (HT.cz xs.length xs.length hi - HT.cz xs.length 0 lo)).map f:=by
 unfold cutD;rw[Yk,<- List.map_drop,<- List.map_take]
def _root_.DL.Sl.pl:Sl->Bool
 | .own _=>false
 | _=>true
theorem oU{k i:Nat}{x:Sl}{r:List Sl}(h:x.pl=true):noRef k (i+1) (x::r)=noRef k i r:=by
 cases x with
 | own j=>cases h
 | _=>rfl
def FC(xs:List D)(j n:Nat):Prop:=j<=n/\xs=(List.range' j (n - j)).map λ(i:Nat)=>D.int (i:Int)
theorem FC.init(n:Nat):FC (dQ 0 n) 0 n:=#[YO _,by rw[yf,Z3,List.range_eq_range']]
theorem FC.nil{j n:Nat}(h:FC [] j n):j=n:=by
 have:=congrArg List.length h.2;simp at this;have:=h.1;cbv
theorem FC.cons{x:D}{xs:List D}{j n:Nat}(h:FC (x::xs) j n):x=.int (j:Int)/\j < n/\FC xs (j+1) n:=by
 let(h1,h2):=h;have h3:=congrArg List.length h2;simp at h3;have e:n - j=(n - (j+1))+1:=by cbv
 rw[e,List.range'_succ,Yp] at h2;injection h2 with h4 h5;exact#[h4,by cbv,by cbv,h5]
theorem sr{k:Nat}{d:D}{x:Sl}(h:x.pl=true):(iX k d x).pl=true:=by
 cases x with
 | own j=>cases h
 | _=>rfl
theorem w8{α:Type}{f:α->D}:∀ {l:List α},(∀ x∈l,k6 (f x)=true)->fD (l.map f)=true
 | [],_=>rfl
 | x::l,h=>by
  show (k6 (f x)&&fD (l.map f))=true;rw[h x Ym,w8 λy hy=>h y (Yo _ hy)]
  rfl
theorem tL{ws:List Str}:(ws.map D.str).all hW=true:=by
 rw[List.all_map];exact Y2.mpr λ_ _=>rfl
theorem Al{x:Str}{ws:List Str}:lz (fv (.str x)) ((ws.map D.str).map fv)=decide (x∈ws):=by
 rw[YF];exact fw
end DL
namespace DL
theorem jn{C G:Prop}(jE:C)(h:C->G):G:=h jE
end DL
namespace DL
open PySem L2
theorem fI{x:D}{xs:List D}:cutD (x::xs) (some 1) none=xs:=by
 unfold cutD;have e1:HT.cz (x::xs).length 0 (some 1)=1:=by
  unfold HT.cz;simp only[List.length_cons]
  repeat' split
  all_goals cbv
 have e2:HT.cz (x::xs).length (x::xs).length none=(x::xs).length:=rfl;rw[e1,e2,List.drop_succ_cons,List.drop_zero,List.take_of_length_le (by simp)]
end DL
namespace DL
open PySem PySem.Spec L2
def eG(r:Str×Tm):D:=.tup [.str r.1,toD r.2]
end DL
namespace DL
open PySem L2
theorem gu{α:Type}{f:α->D}{n:Nat}:∀ {l:List α},(∀ x∈l,dI (f x)<=n)->eU (l.map f)<=n
 | [],_=>by rw[Y9,bF];exact YO _
 | x::l,h=>by
  rw[Yp,aw];have h1:=h x Ym;have h2:=gu λy hy=>h y (Yo _ hy);cbv
end DL
namespace DL
open PySem PySem.Spec L2
open PyProof.Rows hiding St
def del(H:Hp)(r:Addr):Hp:=λb=>if b=r then none else H b
theorem gE{H:Hp}{r b:Addr}(h:b≠r):del H r b=H b:=if_neg h
theorem wj{H:Hp}{r:Addr}:del H r r=none:=if_pos U
def gR(d l r:Addr):A9:={ b4 d l with ju:=[r] }
def xX(K:Frag)(d l r:Addr)(t:List D->D->(D->D->Prop)->Prop):Sp:=λvs H Q _=>∃ M ds R d0 o,Base #[b4 d l,M,H] M H/\(¬ M r/\¬ (r=d\/r=l))/\H r=some o/\cG K H M d0 o/\ay K H M ds vs/\t ds d0 R /\
 ∀ x d1,R x d1->∀ M' H' v o',Base #[b4 d l,M,del H r] M' H'->H' r=some o'->cG K H' M' d1 o'->¬ M' r->Rep K H' M' x v->Q v H'
def vg(n nos i:Nat)(ds:List D)(d0:D):DS:=#[(ds.map Sl.dat).set i (.own 0)++List.replicate (n - ds.length) .no,some d0::List.replicate nos none]
section
variable{K:Frag}{d l r:Addr}{M:Addr->Prop}{H:Hp}
theorem xl{N:List Str}{nos i:Nat}{ds:List D}{vs:List V}{d0:D}{o:HO}(B:Base #[b4 d l,M,H] M H)(nr:¬ M r/\¬ (r=d\/r=l))(ho:H r=some o)(ro:cG K H M d0 o)(rs:ay K H M ds vs)(hi:ds[i]?=some (.fN r)) :
  aE K #[gR d l r,M,del H r] M (vg N.length nos i ds d0) (r::List.replicate nos 0) (L2.start N vs) H:=by
 have hl:=rs.length;have hin:i < ds.length:=(Yu.mp hi).1;have gd:∀ {j:Nat} {z:Sl},(vg N.length nos i ds d0).sl[j]?=some z->z≠.no->(j=i/\z=.own 0)\/(j≠i/\∃ x,ds[j]?=some x/\z=.dat x):=λ{j z} h hz=>by
  have h:((ds.map Sl.dat).set i (.own 0)++List.replicate (N.length - ds.length) Sl.no)[j]?=some z:=h;by_cases hj:j < ds.length
  .rw[List.getElem?_append_left (by simpa using hj)] at h;rcases bN h with ⟨e,_,q⟩ | ⟨ne,q⟩
   .exact .inl #[e.symm,by first | exact q.symm | exact q]
   .refine .inr #[λe=>ne e.symm,?_];rw[YS] at q;let(x,h1,h2):=YK.mp q;exact#[x,h1,h2.symm]
  .rw[List.getElem?_append_right (by simp;cbv)] at h;let(_,e):=Yu.mp h;simp at e;exact absurd e.symm hz
 have at_:∀ {j:Nat} {x:D},ds[j]?=some x->∃ v,(L2.start N vs)[j]?=some (some v)/\Rep K H M x v:=λ{j x} h=>by
  let(v,h1,h2):=rs.get h;refine#[v,?_,h2];have hj:j < vs.length:=(Yu.mp h1).1;show (vs.map some++List.replicate (N.length - vs.length) none)[j]?=_;rw[List.getElem?_append_left (by simpa using hj),List.getElem?_map,h1]
  rfl
 refine#[#[B.lI,λb u e _=>?_,B.md,B.mo,λ_ m=>m,λ_ m=>.inl m],?_,by simp[vg],λj x h=>?_,λj k h=>?_,λk x a h1 h2=>?_,λk m x y a h1 h2 _ _=>?_,λk a h=>?_]
 .by_cases hb:b=r
  .have e:del H r b=some u:=e;rw[hb,wj] at e;cases e
  .have e:del H r b=some u:=e
   rwa [gE hb] at e
 .show ((ds.map Sl.dat).set i (.own 0)++List.replicate (N.length - ds.length) Sl.no).length=(vs.map some++List.replicate (N.length - vs.length) none).length;simp[hl]
 .rcases gd h (by intro z;cases z) with ⟨_,z⟩ | ⟨_,y,h1,z⟩
  .cases z
  .cases z;exact at_ h1
 .rcases gd h (by intro z;cases z) with ⟨e,z⟩ | ⟨_,y,h1,z⟩
  .cases z;subst e;let(v,h1,h2):=at_ hi;have h2:v=.ref r:=h2;subst h2;exact#[r,U,h1]
  .cases z
 .match k with
  | 0 =>
   have h1:some (some d0)=some (some x):=h1;have h2:some r=some a:=h2;cases h1;cases h2;exact#[#[o,ho,ro],nr.1,nr.2,wj]
  | k+1 =>
   have h1:(List.replicate nos (none:Option D))[k]?=some (some x):=h1;let(_,e):=Yu.mp h1;simp at e
 .match k,m with
  | 0,0=>rfl
  | k+1,_ =>
   have h1:(List.replicate nos (none:Option D))[k]?=some (some x):=h1;let(_,e):=Yu.mp h1;simp at e
  | 0,m+1 =>
   have h2:(List.replicate nos (none:Option D))[m]?=some (some y):=h2;let(_,e):=Yu.mp h2;simp at e
 .match k with
  | 0=>exact h
  | k+1=>exact (nomatch (show ([]:List Addr)[k]?=some a from h))
end
section
variable{P:Program}{w:World}{K:Frag}{mg:Str->Option Value}{base:Heap}{d l r:Addr}
theorem QY{x qual:Str}{st:Stmt}{f:Addr}{fd:FuncData}{N ps:List Str}{k nos:Nat}{t:List D->D->(D->D->Prop)->Prop}(i:Nat)(F:vk K x qual st f fd)(S:ao N ps (ag st))(len:∀ ds d0 R,t ds d0 R->ds.length=ps.length/\ds[i]?=some (.fN r))(hb:∀ (a9:Value) (A:Around) (outer:List Env) (s:Shared) (H:Hp) (E:XK) (M:Addr->Prop),cU k (A.deeper (envOfC qual (ag st) ↑s f a9)) ->
   ∃ tb,xT (m9 aD P w K mg base N qual (ag st) f a9 A outer s H E).Ai #[gR d l r,M,del H r] (aS st) tb/\∀ ds d0 R,t ds d0 R->tb { nx:=λ_=>False,rt:=λ_=>False,rs:=λx s=>∃ d1,s.os[0]?=some (some d1)/\R x d1 } (vg N.length nos i ds d0)):bV P w K mg base aD (k+1) f fd ps (xX K d l r t):=by
 refine F.ok S (λvs H Q E h=>?_) λa9 A outer s H vs Q E hr h=>?_
 .let(M,ds,R,d0,o,B,nr,ho,ro,rs,q,_):=h;rw[rs.length];exact (len ds d0 R q).1
 .let(M,ds,R,d0,o,B,nr,ho,ro,rs,q,kk):=h;let(tb,h1,h2):=hb a9 A outer s H E M hr;exact#[_,h1.ps,M,_,_,_,xl B nr ho ro rs (len ds d0 R q).2,h2 ds d0 R q,#[λ_ _ _ _ _ z=>z.elim,λ_ _ _ _ _ z=>z.elim,λ_ _ _ _ _ z=>z.elim,λ_ _ _ _ z=>z.elim,λ_ _ _ _ _ z=>z.elim,λx s as M' O H' v z6r L rv=>by
   let(d1,e1,q1):=z6r;let((o',g1,g2),nm,_,_):=L.obj 0 d1 r e1 (L.lt 0 r U);exact kk x d1 q1 M' H' v o' #[L.base.lI,L.base.fr,L.base.md,L.base.mo,L.base.m0,L.base.mn] g1 g2 nm rv]]
theorem kb{k:Nat}{f:Addr}{fd:FuncData}{ps:List Str}{t:aav}(F:bV P w K mg base aD k f fd ps (aO K (b4 d l) t)):bV P w K mg base aD k f fd ps (aO K (gR d l r) t) :=
 F.imp λvs H Q E #[M,ds,R,B,rs,q,kk]=>#[M,ds,R,#[B.lI,B.fr,B.md,B.mo,B.m0,B.mn],rs,q,λx rx M' H' v B' rv=>kk x rx M' H' v #[B'.lI,B'.fr,B'.md,B'.mo,B'.m0,B'.mn] rv]
end
section
variable{X:Cx}{c:Ent}{st:Stmt}{e:Expr}{te:bH}{pos:Pos}
def NA(te:bH):kC:=λR s=>te s λx s1=>R.rs x s1
theorem fZ(he:DE X c e te):lZ X c (.Return (some e) pos) (NA te):=#[(eP he.pe).imp λE O H zz=>d7 zz λM s as R L q k =>
 #[M,s,as,_,L,q,λd s1 r M' H' v L' E' rv=>k.rs d s1 as M' O H' v r L' rv]]
def Xi(i:Nat)(r:Addr):bH:=λs Q=>s.sl[i]?=some (.own 0)/\Q (.fN r) s
theorem EL{i:Nat}{r:Addr}(hl:c.g.ju[0]?=some r)(h:PE X e (bz i)):DE X c e (Xi i r):=#[h.imp λO H Q z7r=>by
 let(M,s,as,R,L,(h1,q),kk):=z7r;let(a,g1,g2):=L.own i 0 h1;rw[L.lt 0 r hl] at g1;cases g1;exact#[_,g2,kk _ s q M H _ L .refl U]]
end
section
variable{K:Frag}{c:Ent}{M M':Addr->Prop}{s:DS}{as:List Addr}{O:St}{H H':Hp}{d l r:Addr}
theorem aE.drop(L:aE K c M s as O H)(k:Nat):aE K c M #[s.sl,s.os.set k none] as O H:=by
 have back:∀ {j:Nat} {x:D},(s.os.set k none)[j]?=some (some x)->s.os[j]?=some (some x):=λ{j x} h=>by
  rcases bN h with ⟨_,_,q⟩ | ⟨_,q⟩
  .cases q
  .exact q
 exact#[L.base,L.len,by show as.length=(s.os.set k none).length;rw[Y7];exact L.gg,L.dat,L.own,λj x a h1 h2=>L.obj j x a (back h1) h2,λj m x y a h1 h2=>L.inj j m x y a (back h1) (back h2),L.lt]
theorem aE.ju(L:aE K c M s as O H)(VF:c.g.own=λb=>b=d\/b=l)(X4:c.g.inv=λH=>cV.At H d l)(B:Base #[b4 d l,M,del H r] M' H')(nm:¬ M' r)(nM:¬ M r)(h0:c.H0 r=none)(nw:¬ d6 s as r):aE K c M' s as O H':=by
 have kp:∀ b u,b≠r->H b=some u->¬ c.g.own b->H' b=some u:=λb u nb e g=>B.fr b u (by show del H r b=_;rw[gE nb];exact e) (by rw[VF] at g;exact g);have km:∀ b u,M b->H b=some u->H' b=some u:=λb u m e=>kp b u (λz=>nM (z▸m)) e (L.base.mo b m);have nu:∀ b,M' b->M b\/Nu H b:=λb m=>by
  rcases B.mn b m with z | z
  .exact .inl z
  .have nb:b≠r:=λq=>nm (q▸m);refine .inr ?_;have z:Nu (del H r) b:=z;unfold Nu at z ⊢;rw[gE nb] at z;exact z
 refine#[#[by rw[X4];exact B.lI,λb u e g=>kp b u (λz=>by rw[z,h0] at e;cases e) (L.base.fr b u e g) g,B.md,λb m=>by rw[VF];exact B.mo b m,λb m=>B.m0 b (L.base.m0 b m),λb m=>?_],L.len,L.gg,λi x e=>?_,L.own,λk x a h1 h2=>?_,L.inj,L.lt]
 .rcases nu b m with m | n | ⟨xs,n⟩
  .exact L.base.mn b m
  .exact .inr (.inl (L.base.oN n))
  .refine .inr ?_;cases e:c.H0 b with
   | none=>exact .inl e
   | some o =>
    have:=L.base.fr b o e λg=>c.g.nt H b xs L.base.lI g n;rw[n] at this;cases this;exact .inr #[xs,e]
 .let(v,q1,q2):=L.dat i x e;exact#[v,q1,Rep.mono B.m0 km x v q2]
 .let((o,q1,q2),nm1,ng,hz):=L.obj k x a h1 h2;have na:a≠r:=λz=>nw #[k,x,h1,z▸h2];refine#[#[o,kp a o na q1 ng,q2.mono B.m0 km],λm=>?_,ng,hz];rcases nu a m with m | n | ⟨xs,n⟩
  .exact nm1 m
  .rw[n] at q1;cases q1
  .rw[n] at q1;cases q1;exact q2.B9
theorem aE.back{k:Nat}{x:D}{o:HO}(L:aE K c M s as O H)(hk:as[k]?=some r)(ho:H r=some o)(ro:cG K H M x o)(nm:¬ M r)(ng:¬ c.g.own r)(h0:c.H0 r=none)(nw:¬ d6 s as r):aE K c M #[s.sl,s.os.set k (some x)] as O H:=by
 refine#[L.base,L.len,by show as.length=(s.os.set k _).length;rw[Y7];exact L.gg,L.dat,L.own,λj y a h1 h2=>?_,λj m y z a h1 h2 g1 g2=>?_,L.lt]
 .rcases bN h1 with ⟨rfl,_,q⟩ | ⟨_,q⟩
  .cases q;rw[hk] at h2;cases h2;exact#[#[o,ho,ro],nm,ng,h0]
  .exact L.obj j y a q h2
 .rcases bN h1 with ⟨rfl,_,q⟩ | ⟨_,q⟩
  .rcases bN h2 with ⟨rfl,_,q'⟩ | ⟨_,q'⟩
   .rfl
   .rw[hk] at g1;cases g1;exact absurd #[m,z,q',g2] nw
  .rcases bN h2 with ⟨rfl,_,q'⟩ | ⟨_,q'⟩
   .rw[hk] at g2;cases g2;exact absurd #[j,y,q,g1] nw
   .exact L.inj j m y z a q q' g1 g2
end
section
variable{X:Cx}{k:Nat}{f d l r:Addr}{M0:Addr->Prop}{H0:Hp}{fd:FuncData}{ps:List Str}{x:Str}{p pos:Pos}{e:Expr}{es:List Expr}{ta:gb}
def yY(t:List D->D->(D->D->Prop)->Prop)(ta:gb):bH:=λs Q=>ta s λds s1=>∃ d0,s1.os[0]?=some (some d0)/\t ds d0 λx d1=>Q x (s1.put 0 d1)
theorem Ez{t:List D->D->(D->D->Prop)->Prop}{c:Ent}(hg:c.g=gR d l r){O:St}{H:Hp}{Q:VK}{n:Nat}{E:XK}:tE X.K c (yY t ta) O H Q->wO (xX X.K d l r t) [] E (tA X.K c n ta) O H Q:=λzz=>d7 zz λM s as R L q kk =>
 #[M,s,as,_,L,q,λds s1 z8r M1 H1 vs L1 E1 r1 hl=>by
  let(d0,e0,q1):=z8r;let(g,M0,H0):=c;cases (show g=gR d l r from hg);have as0:=L1.lt 0 r U;let((o,ho,ro),nm,ng,h0):=L1.obj 0 d0 r e0 as0;have own_r:d6 s1 as r:=#[0,d0,e0,as0];have B1:=L1.base.here;refine#[M1,ds,_,d0,o,#[B1.lI,B1.fr,B1.md,B1.mo,B1.m0,B1.mn],#[nm,ng],ho,ro,by rw[YA];exact r1,q1,λx d1 rx M' H' v o' B xR ro' nm' rv=>?_];have nw:¬ d6 #[s1.sl,s1.os.set 0 none] as r:=λz9r=>by
   let(k,y,z1,z2):=z9r;rcases bN z1 with ⟨_,_,q⟩ | ⟨ne,q⟩
   .cases q
   .exact ne (L1.inj 0 k d0 y r e0 q as0 z2)
  have L2:=(L1.drop 0).ju (d:=d) (l:=l) (r:=r) U U B nm' nm h0 nw;have L3:=L2.back as0 xR ro' nm' ng h0 nw;have e3:(s1.os.set 0 none).set 0 (some d1)=s1.os.set 0 (some d1):=List.set_set _;have L4:aE X.K #[gR d l r,M0,H0] M' (s1.put 0 d1) as O H':=by
   have:=L3;rw[show (#[s1.sl,s1.os.set 0 none]:DS).os.set 0 (some d1)=s1.os.set 0 (some d1) from e3] at this;exact this
  refine kk x (s1.put 0 d1) rx M' H' v L4 (E1.trans L1.base #[B.m0,λb m=>?_,λb u e g w=>?_,λb #[k,y,z1,z2]=>?_]) rv
  .rcases B.mn b m with z | z
   .exact .inl z
   .have nb:b≠r:=λq=>nm' (q▸m);have z:Nu (del H1 r) b:=z;unfold Nu at z;rw[gE nb] at z;exact .inr (.inl z)
  .have nb:b≠r:=λz=>w (z▸own_r);exact B.fr b u (by show del H1 r b=_;rw[gE nb];exact e) g
  .rcases bN z1 with ⟨hk,_,q⟩ | ⟨ne,q⟩
   .subst hk;exact#[0,d0,e0,z2]
   .exact#[k,y,q,z2]]
theorem GZ{t:List D->D->(D->D->Prop)->Prop}(hr:cU k X.A)(hg:Gl X x)(hm:X.mg x=some (.ref f))(hk:keepIn X.K (.ref f)=true)(hb:Binds X.K fd ps [])(ha:DA X #[gR d l r,M0,H0] (e::es) ta)(F:bV X.prog X.w X.K X.mg X.base aD k f fd ps (xX X.K d l r t))(kP:aay x:=by decide)(he:aaw X.env e es:=by rfl)(fC:aax X.env pos es:=by rfl) :
  DE X #[gR d l r,M0,H0] (.Call (.Name x p) (e::es) [] pos) (yY t ta):=#[(cK F hr hg hm hk hb .nil (E:=E0) fW ha.pa kP he fC).imp λ_ _ _=>Ez U]
def A4(K:Frag)(d l:Addr)(t:Addr->List D->D->(D->D->Prop)->Prop):Sp:=λvs H Q E=>∃ r,xX K d l r (t r) vs H Q E
theorem S8{P:Program}{w:World}{K:Frag}{mg:Str->Option Value}{base:Heap}{t:Addr->List D->D->(D->D->Prop)->Prop}(G:∀ r,bV P w K mg base aD k f fd ps (xX K d l r (t r))):bV P w K mg base aD k f fd ps (A4 K d l t) :=
 #[λvs H Q E #[r,h]=>(G r).len vs H Q E h,λA outer s H args us vs Q E hr he hb hv #[r,hs]=>(G r).run A outer s H args us vs Q E hr he hb hv hs]
end
end DL
namespace DL
open PySem L2 PyProof.Rows
abbrev D3:=Str×Stmt×List Str
def Own(K:Frag)(mg:Str->Option Value)(d:D3):Prop:=∃ f fd,vk K d.1 d.1 d.2.1 f fd/\mg d.1=some (.ref f)/\Binds K fd d.2.2 []
def C4(P:Program)(w:World)(K:Frag)(mg:Str->Option Value)(base:Heap)(CX:xW)(d:D3)(k:Nat)(sp:Sp):Prop:=∃ f fd,bV P w K mg base CX k f fd d.2.2 sp/\vk K d.1 d.1 d.2.1 f fd/\mg d.1=some (.ref f)/\Binds K fd d.2.2 []
section
variable{P:Program}{w:World}{K:Frag}{mg:Str->Option Value}{base:Heap}{CX:xW}{d:D3}{k:Nat}{sp P6:Sp}
theorem Own.c(o:Own K mg d)(h:∀ f fd,vk K d.1 d.1 d.2.1 f fd->bV P w K mg base CX k f fd d.2.2 sp):C4 P w K mg base CX d k sp :=
 let #[f,fd,F,m,b]:=o
 #[f,fd,h f fd F,F,m,b]
theorem C4.imp(c:C4 P w K mg base CX d k sp)(h:∀ f fd,bV P w K mg base CX k f fd d.2.2 sp->bV P w K mg base CX k f fd d.2.2 P6):C4 P w K mg base CX d k P6 :=
 let #[f,fd,G,r]:=c
 #[f,fd,h f fd G,r]
theorem jM{h:Heap}{f:Addr}{oc:Value}{od an:Option Addr}{xU:Array (Option Value)}{kV doc pm a9 ct:Value}(X:K.In h)(G:h.Ns mainGlobals mg)(a:nsIn K mainGlobals d.1=some (some (.ref f)))(l:K.lookup f=some #[oc,od,.func (fnOf d.1 d.1 (cD d.2.1) (aS d.2.1) (ag d.2.1) .none kV doc pm an a9 ct),xU])(c:codeIn K a9 d.1=true)(k:keepIn K (.ref f)=true)(b:∀ (kV doc pm:Value) (an:Option Addr) (a9 ct:Value) (us:List Value),us.length=d.2.2.length->bindArgs (fnOf d.1 d.1 (cD d.2.1) (aS d.2.1) (ag d.2.1) .none kV doc pm an a9 ct) #[us,[]]=pure (d.2.2.zip us)):Own K mg d :=
 #[f,_,yJ l c k,Y6 X G a,(yJ (st:=d.2.1) l c k).binds b]
end
section
variable{X:Cx}{c:Ent}{d:D3}{k m:Nat}{t:aav}{x:Str}{p pos:Pos}{e:Expr}{es:List Expr}{ta:gb}
theorem aG(hr:cU m X.A)(G:C4 X.prog X.w X.K X.mg X.base aD d k (aO X.K c.g t))(ha:DA X c (e::es) ta)(hx:d.1=x:=by rfl)(hk:k<=m:=by ac_rfl)(hg:Gl X x:=by rfl)(kP:aay x:=by decide)(he:aaw X.env e es:=by rfl)(fC:aax X.env pos es:=by rfl) :
  DE X c (.Call (.Name x p) (e::es) [] pos) (eY t ta):=by
 subst hx;let(f,fd,G,F,M,b):=G;exact Ka (hr.mono hk) hg M F.kp b ha G kP he fC
theorem aj(hr:cU m X.A)(G:C4 X.prog X.w X.K X.mg X.base aD d k (aO X.K .no t))(ha:DA X c (e::es) ta)(hx:d.1=x:=by rfl)(hk:k<=m:=by ac_rfl)(hg:Gl X x:=by rfl)(kP:aay x:=by decide)(he:aaw X.env e es:=by rfl)(fC:aax X.env pos es:=by rfl) :
  DE X c (.Call (.Name x p) (e::es) [] pos) (eY t ta):=by
 subst hx;let(f,fd,G,F,M,b):=G;exact F8 (hr.mono hk) hg M F.kp b ha G kP he fC
theorem aU(hr:cU m X.A)(G:C4 X.prog X.w X.K X.mg X.base aD d k (hZ X.K .no t))(ha:DA X c (e::es) ta)(hx:d.1=x:=by rfl)(hk:k<=m:=by ac_rfl)(hg:Gl X x:=by rfl)(kP:aay x:=by decide)(he:aaw X.env e es:=by rfl)(fC:aax X.env pos es:=by rfl) :
  DN X c (.Call (.Name x p) (e::es) [] pos) (eY t ta):=by
 subst hx;let(f,fd,G,F,M,b):=G;exact Gp (hr.mono hk) hg M F.kp b ha G kP he fC
end
theorem dA{N P:List Str}{sc:Scope}(h1:sc.kind=.function:=by rfl)(h2:sc.isCoroutine=false:=by rfl)(h3:sc.isGenerator=false:=by rfl)(h4:N.Nodup:=by decide+kernel)(h5:N.take P.length=P:=by rfl)(h6:∀ x∈P,sc.names.lookup x=some .local\/sc.names.lookup x=some .cell:=by decide+kernel)(h7:∀ y∈sc.names,y.2≠.free:=by decide+kernel):ao N P sc:=#[h1,h2,h3,h4,h5,h6,h7]
theorem jY{g:pQ}{tb:kC}{R:jb}(I:List D->DS->Prop)(h0:∀ s,I [] s->R.nx s)(h1:∀ x xs s (E:jb),I (x::xs) s->(∀ s',I xs s'->E.nx s')->(∀ d,R.rt d->E.rt d)->g x s λs1=>tb E s1):∀ xs s,I xs s->mT g tb R xs s
 | [],s,h=>h0 s h
 | x::xs,s,h=>h1 x xs s { R with nx:=λs'=>mT g tb R xs s',ct:=λs'=>mT g tb R xs s',bk:=R.nx } h (λs' h'=>jY I h0 h1 xs s' h') λ_ h=>h
section
variable{X:Cx}{c:Ent}{x:Str}{pos p:Pos}
theorem vd(i:Nat)(hN:X.N[i]?=some x:=by rfl)(hv:LB X.env.scope x:=by first | exact Or.inl U | exact Or.inr (Or.inl U) | exact Or.inr (Or.inr U))(hd:aay x:=by decide)(qT:(x == ("__classdict__":Str))=false:=by decide):DE X c (.Name x pos) (AI i):=dv (yN hN hv hd qT)
theorem gN{n:Nat}(i:Nat)(hN:X.N.Nodup)(hi:X.N[i]?=some x:=by rfl)(hx:Loc X.env.scope x:=by exact Or.inl U)(hf:aaz X x:=by ac_nf)(hl:i < n:=by decide):DG X c n (.Name x pos) (qK i):=Eo (fb hN hi hx hf) hl
theorem gM{n:Nat}(i:Nat)(L:List Str)(hN:L.Nodup:=by decide+kernel)(hL:X.N=L:=by rfl)(hi:L[i]?=some x:=by rfl)(hx:Loc X.env.scope x:=by exact Or.inl U)(hf:aaz X x:=by ac_nf)(hl:i < n:=by decide):DG X c n (.Name x pos) (qK i):=Eo (fb (hL▸hN) (hL▸hi) hx hf) hl
theorem sS{e:Expr}{te:bH}(i:Nat)(hN:X.N.Nodup)(he:DE X c e te)(hi:X.N[i]?=some x:=by rfl)(hx:Loc X.env.scope x:=by exact Or.inl U)(hs:swapsWith e (some (.Name x p)) pos.line X.env=pure false:=by rfl)(hf:aaz X x:=by ac_nf):lZ X c (.Assign [.Name x p] e pos) (vY i te):=lg (eg hN hi hx he.pe hs hf)
theorem sN{e:Expr}{te:bH}(k i:Nat)(hN:X.N.Nodup)(he:DN X c e te)(hi:X.N[i]?=some x:=by rfl)(hx:Loc X.env.scope x:=by exact Or.inl U)(hs:swapsWith e (some (.Name x p)) pos.line X.env=pure false:=by rfl)(hf:aaz X x:=by ac_nf)(kR:c.g.ju.length<=k:=by first | exact YO _ | exact Ys _ | exact Ze (YO _)):lZ X c (.Assign [.Name x p] e pos) (Ib i k te):=JL (eg hN hi hx he.pe hs hf) kR
variable{a b:Expr}{ta tb:bH}
theorem cb(ha:DE X c a ta)(hb:DE X c b tb)(hs:iS b:=by exact λ_ _=>rfl):DE X c (.Subscript a b pos) (vS GC ta tb):=AV EW HP ha hb hs
theorem ic(ha:DE X c a ta)(hb:DE X c b tb)(hs:iS b:=by exact λ_ _=>rfl):DE X c (.Subscript a b pos) (vS Ob ta tb):=AV bO HX ha hb hs
theorem sF{tg iter:Expr}{body:List Stmt}{ti:gb}{g:pQ}{tb:kC}(hi:DI X c tg iter ti)(hg:DG X c 1000 tg g)(hb:xT X c body tb)(hc:X.calm=true:=by rfl)(hp:PassesOwn (model X.prog X.w) X.A X.env X.xe:=by exact PassesOwn.never)(hs:aaA iter X.env:=by intro _;rfl):lZ X c (.For tg iter body [] pos) (IC ti g tb):=MX hp hc hi hg hb hs
theorem sE{e:Expr}{es:List Expr}{t:gb}{apos cB:Pos}(i:Nat)(ha:DA X c (e::es) t)(hN:X.N[i]?=some x:=by rfl)(hv:LB X.env.scope x:=by first | exact Or.inl U | exact Or.inr (Or.inl U) | exact Or.inr (Or.inr U))(hd:aay x:=by decide)(qT:(x == ("__classdict__":Str))=false:=by decide)(iu:attributeBase (.Name x p) "append" X.env (eval (.Name x p) X.env)=eval (.Name x p) X.env:=by rfl)(u6:((backTo cB (starEach (e::es) X.env)).all (λx=>!x.1)&&(backToKw cB (keywordEach [] X.env)).all (λx=>x.1.isSome)
   && decide ((e::es).length+([]:List Keyword).length+(if ([]:List Keyword).isEmpty then 0 else 1) < 30))=true:=by rfl)(gW:(apos.endLine == cB.line)=true:=by rfl)(hs:aaw X.env e es:=by rfl)(iK:(backTo cB (starEach es X.env)).any (·.1)=false:=by rfl)(MN:swapsWith (.Call (.Attribute (.Name x p) "append" apos) (e::es) [] cB) none pos.line X.env=pure false:=by rfl) :
  lZ X c (.Expr (.Call (.Attribute (.Name x p) "append" apos) (e::es) [] cB) pos) (u7 (LC i Jg t)):=bC (pJ YZ Y0 cM NF (yN hN hv hd qT) ha iu u6 gW hs iK) MN
end
section
variable{X:Cx}{c:Ent}{pos p:Pos}{e:Expr}{es:List Expr}{t:gb}
theorem fO(hm:X.mg "len"=none)(ha:DA X c (e::es) t)(hg:Gl X "len":=by rfl)(he:aaw X.env e es:=by rfl)(fC:aax X.env pos es:=by rfl):DE X c (.Call (.Name "len" p) (e::es) [] pos) (o8 O9 t):=a8 ff P8 hg hm Zj ha (by decide) (by decide) he fC
theorem ia(hm:X.mg "tuple"=none)(ha:DA X c (e::es) t)(hg:Gl X "tuple":=by rfl)(he:aaw X.env e es:=by rfl)(fC:aax X.env pos es:=by rfl):DE X c (.Call (.Name "tuple" p) (e::es) [] pos) (o8 MU t):=er la MY hg hm (by decide+kernel) ha (by decide) (by decide) he fC
variable{tg elt iter:Expr}{ifs:List Expr}{scope:Scope}{tx:gb}{g:pQ}{ti:mG}{te:bH}
theorem nC(ts:List Str)(us:List Nat)(hi:DI X c tg iter tx)(hg:∀ C s H fp,DG (X.comp ts us scope C s H fp) c ts.length tg g)(CM:∀ C s H fp,Q7 (X.comp ts us scope C s H fp) c ifs ti)(he:∀ C s H fp,DE (X.comp ts us scope C s H fp) c elt te)(S:bP X ts us scope:=by exact#[U,U,U,U,U,U])(hc:X.calm=true:=by rfl)(hs:aaA iter X.env:=by intro _;rfl):DN X c (.ListComp elt [#[tg,iter,ifs,0]] scope pos) (vc ts.length us tx g ti te):=Ks S hc hi hg CM he hs
end
section
variable{P:Program}{w:World}{K:Frag}{mg:Str->Option Value}{base:Heap}{q:D3}{k nos:Nat}{g:A9}{t:aav}{N:List Str}
theorem Own.d(o:Own K mg q)(S:ao N q.2.2 (ag q.2.1))(len:∀ ds R,t ds R->ds.length=q.2.2.length)(hb:∀ (f:Addr) (a9:Value) (A:Around) (outer:List Env) (s:Shared) (H:Hp) (E:XK) (M:Addr->Prop),cU k (A.deeper (envOfC q.1 (ag q.2.1) ↑s f a9)) ->
   ∃ tb,xT (m9 aD P w K mg base N q.1 (ag q.2.1) f a9 A outer s H E).Ai #[g,M,H] (aS q.2.1) tb/\∀ ds R,t ds R->tb { nx:=λ_=>R .cw,rt:=R } (fM N.length nos ds))(hg:g.ju=[]:=by rfl):C4 P w K mg base aD q (k+1) (aO K g t):=o.c λf fd F=>Ts F S len (hb f) hg
end
end DL
namespace DL
open PySem PySem.Spec L2
open PyProof.Rows hiding St
section
variable{X:Cx}{k m:Nat}{d l r:Addr}{M0:Addr->Prop}{H0:Hp}{q:D3}{x:Str}{p pos:Pos}
def Fx(t:Addr->List D->D->(D->D->Prop)->Prop)(t0 t1:bH)(i:Nat)(t3:bH):bH:=λs Q=>t0 s λd0 s1=>t1 s1 λd1 s2=>∃ k,s2.sl[i]?=some (.own k)/\t3 s2 λd3 s3=>∃ dn,s3.os[k]?=some (some dn)/\∀ r,t r [d0,d1,.fN r,d3] dn λx dn'=>Q x (s3.put k dn')
theorem EJ{t:Addr->List D->D->(D->D->Prop)->Prop}{e0 e1 e2 e3:Expr}{t0 t1 t3:bH}{i:Nat}(hr:cU m X.A)(G:C4 X.prog X.w X.K X.mg X.base aD q k (A4 X.K d l t))(h0:DE X #[gR d l r,M0,H0] e0 t0)(h1:DE X #[gR d l r,M0,H0] e1 t1)(h2:PE X e2 (bz i))(h3:DE X #[gR d l r,M0,H0] e3 t3)(hx:q.1=x:=by rfl)(hk:k<=m:=by ac_rfl)(hg:Gl X x:=by rfl)(kP:aay x:=by decide)(he:starEach [e0,e1,e2,e3] X.env=(false,eval e0 X.env)::starEach [e1,e2,e3] X.env:=by rfl)(Ut:starEach [e1,e2,e3] X.env=(false,eval e1 X.env)::starEach [e2,e3] X.env:=by rfl)(Oj:starEach [e2,e3] X.env=(false,eval e2 X.env)::starEach [e3] X.env:=by rfl)(X2:starEach [e3] X.env=[(false,eval e3 X.env)]:=by rfl)(fC:(backTo pos (starEach [e1,e2,e3] X.env)).any (·.1)=false:=by rfl) :
  DE X #[gR d l r,M0,H0] (.Call (.Name x p) [e0,e1,e2,e3] [] pos) (Fx t t0 t1 i t3):=by
 subst hx;let(f,fd,G,F,hm,hb):=G;refine#[(cK G (hr.mono hk) hg hm F.kp hb .nil (E:=E0) fW (az h0.pe (az h1.pe (az h2 (az h3.pe aK X2) Oj) Ut) he) kP he fC).imp λO H Q zz=>d7 zz λM s as R L q kk=>?_];refine#[M,s,as,_,L,q,λd0 s1 q1 M1 H1 v0 L1 E1 r0=>#[M1,s1,as,_,L1,q1,λd1 s2 q2 M2 H2 v1 L2 E2 r1=>?_]];let(k,hk1,q2):=q2;let(a,hka,hsa):=L2.own i k hk1;refine#[.ref a,hsa,M2,s2,as,_,L2,q2,λd3 s3 q3 M3 H3 v3 L3 E3 r3=>?_];let(dn,e0,q3):=q3;let((o,ho,ro),nm,ng,h0):=L3.obj k dn a e0 hka;have own_a:d6 s3 as a:=#[k,dn,e0,hka];have B1:=L3.base.here;have r03:=E3.rep L2 (E2.rep L1 r0);have r13:=E3.rep L2 r1;refine#[a,M3,[d0,d1,.fN a,d3],_,dn,o,#[B1.lI,B1.fr,B1.md,B1.mo,B1.m0,B1.mn],#[nm,ng],ho,ro,#[v0,_,U,r03,v1,_,U,r13,.ref a,_,U,U,v3,_,U,r3,U],q3 a,λx dn' rx M' H' v o' B xR ro' nm' rv=>?_];have nw:¬ d6 #[s3.sl,s3.os.set k none] as a:=λz0r=>by
  let(j,y,z1,z2):=z0r;rcases bN z1 with ⟨_,_,q⟩ | ⟨ne,q⟩
  .cases q
  .exact ne (L3.inj k j dn y a e0 q hka z2)
 have L4:=(L3.drop k).ju (d:=d) (l:=l) (r:=a) U U B nm' nm h0 nw;have L5:=L4.back hka xR ro' nm' ng h0 nw;have e3:(s3.os.set k none).set k (some dn')=s3.os.set k (some dn'):=List.set_set _;have L6:aE X.K #[gR d l r,M0,H0] M' (s3.put k dn') as O H':=by
  have:=L5;rw[show (#[s3.sl,s3.os.set k none]:DS).os.set k (some dn')=s3.os.set k (some dn') from e3] at this;exact this
 refine kk x (s3.put k dn') rx M' H' v L6 (E1.trans L1.base (E2.trans L2.base (E3.trans L3.base #[B.m0,λb m=>?_,λb u e g w=>?_,λb #[j,y,z1,z2]=>?_]))) rv
 .rcases B.mn b m with z | z
  .exact .inl z
  .have nb:b≠a:=λq=>nm' (q▸m);have z:Nu (del H3 a) b:=z;unfold Nu at z;rw[gE nb] at z;exact .inr (.inl z)
 .have nb:b≠a:=λz=>w (z▸own_a);exact B.fr b u (by show del H3 a b=_;rw[gE nb];exact e) g
 .rcases bN z1 with ⟨hk,_,q⟩ | ⟨ne,q⟩
  .subst hk;exact#[k,dn,e0,z2]
  .exact#[j,y,q,z2]
theorem dJ{t:List D->D->(D->D->Prop)->Prop}{e:Expr}{es:List Expr}{ta:gb}(hr:cU m X.A)(G:C4 X.prog X.w X.K X.mg X.base aD q k (xX X.K d l r t))(ha:DA X #[gR d l r,M0,H0] (e::es) ta)(hx:q.1=x:=by rfl)(hk:k<=m:=by ac_rfl)(hg:Gl X x:=by rfl)(kP:aay x:=by decide)(he:aaw X.env e es:=by rfl)(fC:aax X.env pos es:=by rfl) :
  DE X #[gR d l r,M0,H0] (.Call (.Name x p) (e::es) [] pos) (yY t ta):=by
 subst hx;let(f,fd,G,F,hm,hb):=G;exact GZ (hr.mono hk) hg hm F.kp hb ha G kP he fC
end
end DL
namespace HT
open PySem PySem.Spec PyProof.Rows
open PySem.AutoSeq1
theorem oF:fillsNumberSlot (.type "tuple") "mul"=pure false :=
 PySem.fillsNumberSlot_seq (id:="tuple.__mul__") (r:=some (.builtin "tuple.__rmul__")) PySem.F.slot_tuple_mul.lookup (by decide+kernel) PySem.F.slot_tuple_rmul.lookup (by decide+kernel)
theorem vF:seqRepeat? (.type "tuple")=pure (some (.builtin "tuple.__mul__")):=by
 unfold seqRepeat?;rw[PySem.seqSlot_of (T:="tuple") (name:="__mul__") (id:="tuple.__mul__") PySem.F.slot_tuple_mul.lookup (by decide+kernel),PySem.seqSlot_of (T:="tuple") (name:="__rmul__") (id:="tuple.__rmul__") PySem.F.slot_tuple_rmul.lookup (by decide+kernel)]
 rfl
theorem rW(a:Int)(t:Tok)(l:Addr)(items:Array Value)(n:Nat)(dd:Option Addr)(sl:Array (Option Value)) :
  Meets (Builtin.«int.__rmul__» #[[.int a t,.ref l],[]]) (λ_ R s=>s.heap.get? l=some #[.type "tuple",dd,.seq items n,sl]/\R (.ok (.ret Value.notImplemented)) s) :=
 .of_wp λprog w A R s h=>by let(hp,g,d,tk,os):=s;let(hl,h):=h;wp_walk using wpAny_loadPart' hl;exact#[_,U,h]
theorem ye(l:Addr)(items:Array Value)(n:Nat)(dd:Option Addr)(sl:Array (Option Value))(u:Tok) :
  Meets (Builtin.«tuple.__mul__» #[[.ref l,.int 1 u],[]]) (λ_ R s=>s.heap.get? l=some #[.type "tuple",dd,.seq items n,sl]/\R (.ok (.ret (.ref l))) s) :=
 .of_wp λprog w A R s h=>by
  let(hp,g,d,tk,os):=s;let(hl,h):=h;have f2:=ZG
  wp_walk using wpAny_loadPart' hl
  exact#[_,U,h]
theorem yy(l:Addr)(items:Array Value)(n:Nat)(dd:Option Addr)(sl:Array (Option Value))(u:Tok)(hc:items.isEmpty=false) :
  Meets (Builtin.«tuple.__mul__» #[[.ref l,.int 0 u],[]]) (λ_ R s=>s.heap.get? l=some #[.type "tuple",dd,.seq items n,sl]/\R (.ok (.ret (.ref ↑s))) { s with heap:=s.heap.push { cls:=.type "tuple",data:=.seq #v[] } }) :=
 .of_wp λprog w A R s h=>by
  let(hp,g,d,tk,os):=s;let(hl,h):=h;have f2:=ZG
  wp_walk using wpAny_loadPart' hl
  exact#[_,U,h]
section
variable{prog:Program}{w:World}{A:Around}{E:aat}{s:Shared}
theorem FA{t:Addr}{ws:List Value}{x:Int}{u:Tok}{Q:aat}(ht:IsTup s.heap t ws.toArray)(hx:x=0\/x=1)(i6:ws≠[])(h1:x=1->Q (.ref t) s)(h0:x=0->Q (.ref ↑s) { s with heap:=s.heap.push { cls:=.type "tuple",data:=.seq #v[] } }) :
  wpAny (model prog w) A (binaryOp .Mult (.ref t) (.int x u)) Q E s:=by
 let((cls,dd,data,sl),ho,hc,n,hd):=id ht;simp only at hc hd;subst hc hd;have hem:ws.toArray.isEmpty=false:=by
  cases ws with
  | nil=>exact absurd U i6
  | cons a b=>rfl
 refine wpAny_binaryOp_repeat_ref (T:="tuple") (U:="int") (by decide) #[_,ho,U] (λs'=>typeIs_int s' x u) oF PySem.F.fills_int_mul PySem.F.slot_int_rmul vF PySem.F.slot_int_index.lookup
  (call_meets PySem.F.slot_int_rmul (typeIs_int s x u) PySem.F.entry_int_rmul (PySem.F.args_int_rmul_2 _ _) (rW x u t ws.toArray n dd sl)
   #[ho,U,#[_,ho,U],?_])
 rcases hx with rfl | rfl
 .exact call_meets PySem.F.slot_tuple_mul #[_,ho,U] PySem.F.entry_tuple_mul (PySem.F.args_tuple_mul_2 _ _) (yy t ws.toArray n dd sl u hem) #[ho,h0 U]
 .exact call_meets PySem.F.slot_tuple_mul #[_,ho,U] PySem.F.entry_tuple_mul (PySem.F.args_tuple_mul_2 _ _) (ye t ws.toArray n dd sl u) #[ho,h1 U]
end
end HT
namespace L2
open PySem PySem.Spec PyProof.Rows
section
variable{X:Cx}
def Ih(K:Frag):R2:=λx y H Q=>∃ a xs n,x=.ref a/\y=.int n/\gZ K H a xs/\xs≠[]/\(n=0\/n=1)/\(n=1->Q (.ref a) H)/\(n=0->∀ p,H p=none->Q (.ref p) (upd H p (.tup [])))
theorem FW:iT X (binaryOp .Mult) (Ih X.K):=by
 intro pins s O H x y v u Q I rx ry h;let(a,xs,n,rfl,rfl,ha,i6,hn,q1,q0):=h;cases rx;obtain⟨t,rfl⟩:∃ t,u=.int n t:=ry;let(its,r1,p1,_):=I.tuple ha;have hi:its≠[]:=λz=>i6 (r1.mX.mp z);refine HT.FA p1 hn hi (λe=>#[.ref a,H,I,U,q1 e]) λe=>?_;have hf:H ↑s=none:=I.aN.fresh (Ys _);refine#[.ref ↑s,upd H ↑s (.tup []),I.laid (t':=s.toks) (λb u e=>Yq _ e) (Ys _) ?_,U,q0 e _ hf];exact#[YO _,[],.nil,#[_,YD _ U,U,_,U]]
end
end L2
namespace DL
open PySem PySem.Spec L2
section
variable{X:Cx}{c:Ent}
def NN:D->D->(D->Prop)->Prop:=λa b k=>∃ xs n,a=.tup xs/\b=.int n/\xs≠[]/\(n=0\/n=1)/\k (.tup (if n=1 then xs else []))
theorem Kf:sA X c (Ih X.K) NN:=λM s as O H x y dx dy k Q L rx ry z1r kk=>by
 let(xs,n,e1,e2,i6,hn,hk):=z1r;subst e1;subst e2;let(p,vs,rfl,t,r):=rx;have ry:y=.int n:=ry;subst ry;refine#[p,vs,n,U,U,t.sq,λz=>?_,hn,λe=>?_,λe p hp=>?_]
 .have:=r.length;rw[z] at this;exact i6 (aaa.mp this.symm)
 .rw[if_pos e] at hk;exact kk _ hk M H _ L .refl #[p,vs,U,t,r]
 .rw[if_neg (by cbv)] at hk;exact kk _ hk _ _ _ (L.fresh hp) (Ext.fresh hp) #[p,[],U,#[.inr U,au],U]
theorem sU{nt:Nat}{us:List Nat}{g:pQ}{te:bH}{sl:List Sl}{Q:List D->DS->Prop}(I:List D->List D->List (Option D)->Prop)(step:∀ x xs acc os,I (x::xs) acc os->∀ k:D->DS->Prop,(∀ (y:D) (s':DS),I xs (acc++[y]) s'.os->k y s')->g x (il nt us #[sl,os]) λs1=>te s1 k)(fin:∀ acc os,I [] acc os->Q acc #[sl,os]):∀ (xs acc:List D) (os:List (Option D)),I xs acc os->c9 nt us g cf te xs acc #[sl,os] Q
 | [],acc,os,h=>fin acc os h
 | x::xs,acc,os,h=>by
  rw[c9];exact step x xs acc os h (λy s3=>c9 nt us g cf te xs (acc++[y]) #[sl,s3.os] Q) λy s' h'=>sU I step fin xs (acc++[y]) s'.os h'
end
end DL
namespace DL
open PySem L2
def rY(x:Str):Prop:=Nm x\/x="number"
def n6(hs:List (Str×List Str)):Prop:=hs.length<=3/\∀ h∈hs,Nm h.1/\h.2.length<=3/\∀ n∈h.2,Nm n
def dY:Fm->Nat->Prop
 | .nm x,n=>Nm x/\n=0
 | .num i,n=>(0<=i/\i < 1000000)/\n=0
 | .op s,n=>(s="+"\/s="-"\/s="*")/\n=2
 | .iR,n=>n=3
 | .lt x,n=>Nm x/\n=2
 | .mk c,n=>Nm c/\n<=3
 | .ask f,n=>Nm f/\1<=n/\n<=4
 | .g8 r hs,n=>rY r/\n6 hs/\n=hs.length+1
 | .new k hs,n=>rY k/\n6 hs/\n=hs.length
def Fm.w:Fm->Nat
 | .nm _=>0
 | .num _=>0
 | _=>1
mutual
noncomputable def Tm.gt:Tm->Prop
 | .node f ks=>dY f ks.length/\kI ks
noncomputable def kI:List Tm->Prop
 | []=>True
 | t::r=>t.gt/\kI r
end
mutual
noncomputable def Tm.g7:Tm->Nat
 | .node f ks=>f.w+dM ks
noncomputable def dM:List Tm->Nat
 | []=>0
 | t::r=>t.g7+dM r
end
theorem dB:∀ {ks:List Tm},kI ks->∀ t∈ks,t.gt
 | [],_,t,h=>(nomatch h)
 | k::ks,w,t,h=>by
  rcases Yn.mp h with rfl | h
  .exact w.1
  .exact dB w.2 t h
theorem z7:∀ {ks:List Tm},(∀ t∈ks,t.gt)->kI ks
 | [],_=>trivial
 | k::ks,h=>#[h k Ym,z7 λt ht=>h t (Yo _ ht)]
theorem Fu{a b:List Tm}(ha:kI a)(hb:kI b):kI (a++b):=z7 λt ht=>(Yz.mp ht).elim (dB ha t) (dB hb t)
theorem wt:∀ (a b:List Tm),dM (a++b)=dM a+dM b
 | [],b=>by simp[dM]
 | t::a,b=>by
  show t.g7+dM (a++b)=t.g7+dM a+dM b;rw[wt a b];cbv
theorem mr:∀ {ks:List Tm} {n:Nat},(∀ t∈ks,t.dep<=n)->pH ks<=n
 | [],n,_=>YO _
 | k::ks,n,h=>Nat.max_le.mpr #[h k Ym,mr λt ht=>h t (Yo _ ht)]
theorem uN:∀ {ks:List Tm} {t:Tm},t∈ks->t.dep<=pH ks
 | k::ks,t,h=>by
  rcases Yn.mp h with rfl | h
  .exact Nat.le_max_left _ _
  .exact Yw (uN h) (Nat.le_max_right _ _)
structure By(n m:Nat)(ts:List Tm)(m':Nat):Prop where
 gt:kI ts
 dep:pH ts<=n
 g7:dM ts+m'<=m
theorem By.nil{n m:Nat}:By n m [] m:=#[trivial,Nat.zero_le _,by simp[dM]]
theorem By.snoc{n m m1 m2:Nat}{ts:List Tm}{t:Tm}(h:By n m ts m1)(hg:t.gt)(hd:t.dep<=n)(hi:t.g7+m2<=m1):By n m (ts++[t]) m2 where
 gt:=Fu h.gt #[hg,trivial]
 dep:=mr λx hx=>(Yz.mp hx).elim (λhx=>Yw (uN hx) h.dep) λhx=>by rw[Yx.mp hx];exact hd
 g7:=by
  rw[wt];have:=h.g7;show dM ts+(t.g7+dM [])+m2<=m;simp[dM];cbv
abbrev cd(x:Str):List Nat:=x.cps.toList
abbrev bp(l:List Nat):Str:=#[l.toArray]
theorem cJ{x y:Str}(h:cd x=cd y):x=y:=by
 obtain⟨a⟩:=x;obtain⟨b⟩:=y;have:a=b:=Array.toList_inj.mp h;rw[this]
theorem aZ(x y:Str):cd (x++y)=cd x++cd y:=Array.toList_append
theorem oP(x:Str):bp (cd x)=x:=cJ U
theorem bB(a:List Nat):(bp a).length=a.length:=by simp[Str.length]
theorem eN(x:Str):(cd x).length=x.length:=by simp[Str.length]
def bc:List (List Nat)->List Nat
 | []=>[]
 | a::l=>a++l.flatMap (32::·)
theorem lU:∀ zs:List Str,cd (Txt.join " " zs)=bc (zs.map cd)
 | []=>rfl
 | a::l=>by
  show cd (Builtin.Str.glued " " (a::l))=_;rw[StrLaws.glued_eq_join]
  induction l generalizing a with
  | nil=>simp[PySem.Str.join,bc]
  | cons b l ih =>
   show cd (a++" "++PySem.Str.join " " (b::l))=_;rw[aZ,aZ,ih b];show cd a++[32]++(cd b++(l.map cd).flatMap (32::·))=cd a++(32::cd b++(l.map cd).flatMap (32::·));simp
def eL(i:Int):Str:=toString i
def cv:List (Str×List Str)->List (List Nat)->List Nat
 | h::hs,t::ts=>32::124::32::(bc (cd h.1::h.2.map cd)++32::58::32::t)++cv hs ts
 | _,_=>[]
def e8:Fm->List (List Nat)->List Nat
 | .nm x,_=>cd x
 | .num i,_=>cd (eL i)
 | .op s,ts=>cd s++ts.flatMap (32::·)
 | .iR,ts=>cd "zero"++ts.flatMap (32::·)
 | .lt x,ts=>cd "let "++cd x++ts.flatMap (32::·)
 | .mk c,ts=>cd "make "++cd c++ts.flatMap (32::·)
 | .ask f,ts=>cd "ask "++ts.headD []++(32::cd f)++ts.tail.flatMap (32::·)
 | .g8 r hs,ts=>cd "case "++ts.headD []++cd " to "++cd r++cv hs ts.tail
 | .new k hs,ts=>cd "new "++cd k++cv hs ts
def o7(f:Fm)(l:List Nat):List Nat:=if f.w=0 then l else 40::l++[41]
mutual
noncomputable def Tm.T:Tm->List Nat
 | .node f ks=>o7 f (e8 f (je ks))
noncomputable def je:List Tm->List (List Nat)
 | []=>[]
 | t::r=>t.T::je r
end
theorem mN:∀ ks:List Tm,je ks=ks.map Tm.T
 | []=>rfl
 | t::r=>by rw[je,mN r,Yp]
theorem jK{i:Int}(h0:0<=i)(h1:i < 1000000):(eL i).length<=8:=by
 have:=PyProof.Rows.toString_length_le (k:=6) (v:=i) h0 (by decide) (by cbv);show (PySem.Str.ofString (toString i)).length<=8;cbv
inductive Pc where
 | s (x:Str) | t (u:Tm)
def CW:Pc->D
 | .s x=>.str x
 | .t u=>toD u
def CH:Pc->List Nat
 | .s x=>cd x
 | .t u=>u.T
def bT(ks:List Tm):List Pc:=ks.flatMap λk=>[.s " ",.t k]
def DH(h:Str×List Str):Str:=" | "++Txt.join " " (h.1::h.2)++" : "
def bw:List (Str×List Str)->List Tm->List Pc
 | h::hs,k::ks=>.s (DH h)::.t k::bw hs ks
 | _,_=>[]
def pieces:Fm->List Tm->List Pc
 | .nm x,_=>[.s x]
 | .num i,_=>[.s (eL i)]
 | .op s,ks=>[.s ("("++s)]++bT ks++[.s ")"]
 | .iR,ks=>[.s "(zero"]++bT ks++[.s ")"]
 | .lt x,ks=>[.s ("(let "++x)]++bT ks++[.s ")"]
 | .mk c,ks=>[.s ("(make "++c)]++bT ks++[.s ")"]
 | .ask f,ks=>[.s "(ask ",.t (ks.headD (.node .iR [])),.s (" "++f)]++bT ks.tail++[.s ")"]
 | .g8 r hs,ks=>[.s "(case ",.t (ks.headD (.node .iR [])),.s (" to "++r)]++bw hs ks.tail++[.s ")"]
 | .new k hs,ks=>[.s ("(new "++k)]++bw hs ks++[.s ")"]
theorem mH(ks:List Tm):(bT ks).flatMap CH=(je ks).flatMap (32::·):=by
 induction ks with
 | nil=>rfl
 | cons k ks ih =>
  show ([Pc.s " ",.t k]++bT ks).flatMap CH=(k.T::je ks).flatMap (32::·);rw[YL,ih,Yt];show [32]++(k.T++[])++_=_;simp
theorem F9(h:Str×List Str):cd (DH h)=32::124::32::(bc (cd h.1::h.2.map cd)++[32,58,32]):=by
 unfold DH;rw[aZ,aZ,lU];show [32,124,32]++bc (cd h.1::h.2.map cd)++[32,58,32]=_;simp
theorem yQ:∀ (hs:List (Str×List Str)) (ks:List Tm),(bw hs ks).flatMap CH=cv hs (je ks)
 | [],_=>by simp[bw,cv]
 | h::hs,[]=>by simp[bw,cv,je]
 | h::hs,k::ks=>by
  rw[bw,Yt,Yt,yQ hs ks];show cd (DH h)++(k.T++cv hs (je ks))=cv (h::hs) (k.T::je ks);rw[F9,cv];simp
theorem CA{f:Fm}{ks:List Tm}(h:dY f ks.length):(pieces f ks).flatMap CH=(Tm.node f ks).T:=by
 have ends:∀ (a b:List Pc) (l:List Nat),a.flatMap CH=40::l->(a++b++[Pc.s ")"]).flatMap CH=40::(l++b.flatMap CH)++[41]:=λa b l e=>by
  rw[YL,YL,e]
  rfl
 rw[Tm.T];cases f with
 | nm x=>simp[pieces,o7,Fm.w,e8,CH]
 | num i=>simp[pieces,o7,Fm.w,e8,CH]
 | op s =>
  rw[pieces,ends [.s ("("++s)] _ (cd s) (by show cd ("("++s)++[]=_;rw[aZ,YA];rfl),mH]
  rfl
 | iR =>
  rw[pieces,ends [.s "(zero"] _ (cd "zero") U,mH]
  rfl
 | lt x =>
  rw[pieces,ends [.s ("(let "++x)] _ (cd "let "++cd x) (by show cd ("(let "++x)++[]=_;rw[aZ,YA];rfl),mH]
  rfl
 | mk c =>
  rw[pieces,ends [.s ("(make "++c)] _ (cd "make "++cd c) (by show cd ("(make "++c)++[]=_;rw[aZ,YA];rfl),mH]
  rfl
 | ask f =>
  cases ks with
  | nil=>exact absurd h.2.1 (by decide)
  | cons k ks =>
   rw[pieces,Zw,ends [.s "(ask ",.t k,.s (" "++f)] _ (cd "ask "++k.T++(32::cd f)) (by
    show cd "(ask "++(k.T++(cd (" "++f)++[]))=_;rw[aZ,YA];show 40::(cd "ask "++(k.T++(32::cd f)))=_;rw[YI]),ZC,mH]
   rfl
 | g8 r hs =>
  cases ks with
  | nil=>exact absurd h.2.2 (by simp)
  | cons k ks =>
   rw[pieces,Zw,ends [.s "(case ",.t k,.s (" to "++r)] _ (cd "case "++k.T++cd " to "++cd r) (by
    show cd "(case "++(k.T++(cd (" to "++r)++[]))=_;rw[aZ,YA];show 40::(cd "case "++(k.T++(cd " to "++cd r)))=_;simp only[List.append_assoc]),List.tail_cons,yQ]
   rfl
 | new k hs =>
  rw[pieces,ends [.s ("(new "++k)] _ (cd "new "++cd k) (by show cd ("(new "++k)++[]=_;rw[aZ,YA];rfl),yQ]
  rfl
def ya:Pc->Nat
 | .s _=>1
 | .t u=>4 * u.size - 1
theorem gA(u:Tm):1<=u.size:=by
 cases u with
 | node f ks=>exact Ze (YO _)
theorem mv(ks:List Tm):((bT ks).map ya).sum=4 * aV ks:=by
 induction ks with
 | nil=>rfl
 | cons k ks ih =>
  have hp:=gA k;show (([Pc.s " ",.t k]++bT ks).map ya).sum=_;rw[Yr,Zc,ih];show 1+(4 * k.size - 1+0)+_=4 * (k.size+aV ks);cbv
theorem yi:∀ (hs:List (Str×List Str)) (ks:List Tm),((bw hs ks).map ya).sum<=4 * aV ks
 | [],_=>by simp[bw]
 | h::hs,[]=>by simp[bw]
 | h::hs,k::ks=>by
  have:=yi hs ks;have hp:=gA k;show 1+(4 * k.size - 1+((bw hs ks).map ya).sum)<=4 * (k.size+aV ks);cbv
theorem C3{f:Fm}{ks:List Tm}(h:dY f ks.length):((pieces f ks).map ya).sum < ya (.t (.node f ks)):=by
 show _ < 4 * (aV ks+1) - 1;have ends:∀ (a b:List Pc),((a++b++[Pc.s ")"]).map ya).sum=(a.map ya).sum+(b.map ya).sum+1:=λa b=>by
  rw[Yr,Yr,Zc,Zc]
  rfl
 cases f with
 | nm x=>show 1 < _;cbv
 | num i=>show 1 < _;cbv
 | op s =>
  rw[pieces,ends,mv];show 1+_+1 < _;cbv
 | iR =>
  rw[pieces,ends,mv];show 1+_+1 < _;cbv
 | lt x =>
  rw[pieces,ends,mv];show 1+_+1 < _;cbv
 | mk c =>
  rw[pieces,ends,mv];show 1+_+1 < _;cbv
 | ask f =>
  cases ks with
  | nil=>exact absurd h.2.1 (by decide)
  | cons k ks =>
   have hp:=gA k;rw[pieces,ends,ZC,mv];show 1+(4 * k.size - 1+(1+0))+_+1 < 4 * (k.size+aV ks+1) - 1;cbv
 | g8 r hs =>
  cases ks with
  | nil=>exact absurd h.2.2 (by simp)
  | cons k ks =>
   have hp:=gA k;rw[pieces,ends,ZC];have:=yi hs ks;show 1+(4 * k.size - 1+(1+0))+_+1 < 4 * (k.size+aV ks+1) - 1;cbv
 | new k hs =>
  rw[pieces,ends];have:=yi hs ks;show 1+_+1 < _;cbv
end DL
namespace L2
open PySem PySem.Spec PyProof.Rows
section
variable{X:Cx}
theorem oB:fH X (.type "str") (λxs H Q=>(∃ i,xs=[.int i]/\i.natAbs.log2 < 1920/\Q (.str (toString i)) H)\/∃ z,xs=[.str z]/\Q (.str z) H):=by
 intro pins s O H xs us Q I r h;rcases h with h | ⟨z,rfl,q⟩
 .exact vJ pins s O H xs us Q I r h
 .let(u,rfl,t,rfl):=vals1 r;exact PySem.P.str_of_str #[.str z,H,I,#[_,U],q]
theorem Bw:fH X (.type "int") (λxs H Q=>∃ n:Int,xs=[.str (toString n)]/\0<=n/\n < 10 ^ 10/\Q (.int n) H):=by
 intro pins s O H xs us Q I r h;let(n,rfl,h0,h1,q):=h;let(u,rfl,t,rfl):=vals1 r;exact PySem.W.KIN.call_num h0 h1 #[.int n,H,I.tok _,#[_,U],q]
theorem A8:JZ X "str.startswith" (λx vs H Q=>∃ z y,x=.str z/\vs=[.str y]/\Q (.bl (Txt.startswith z y)) H):=by
 intro pins s O H x vs v us Q I rx rv h;let(z,y,rfl,rfl,q):=h;let(t,rfl):=rx;let(u,rfl,t',rfl):=rv.one;exact PySem.SC.startswith #[.bl _,H,I,U,q]
theorem zj:JZ X "str.rstrip" (λx vs H Q=>∃ z y,x=.str z/\vs=[.str y]/\z.length<=sizeLine/\Q (.str (Txt.rstripChars z y)) H):=by
 intro pins s O H x vs v us Q I rx rv h;let(z,y,rfl,rfl,hz,q):=h;let(t,rfl):=rx;let(u,rfl,t',rfl):=rv.one;exact PySem.SC.rstripChars (λt' k=>#[.str _,H,I.tok k,#[t',U],q]) hz
end
end L2
namespace DL
open PySem PySem.Spec L2
section
variable{X:Cx}{c:Ent}
def MQ:aav:=λas k=>(∃ i,as=[.int i]/\i.natAbs.log2 < 1920/\k (.str (toString i)))\/∃ z,as=[.str z]/\k (.str z)
theorem yR:AE X c (λxs H Q=>(∃ i,xs=[.int i]/\i.natAbs.log2 < 1920/\Q (.str (toString i)) H)\/∃ z,xs=[.str z]/\Q (.str z) H) MQ:=λM s as O H xs ds k Q L r h kk=>by
 rcases h with ⟨i,rfl,hz,hk⟩ | ⟨i,rfl,hk⟩
 .let(v,rfl,e1):=cH r;have e1:v=.int i:=e1;subst e1;exact .inl #[i,U,hz,kk _ hk M H _ L .refl U]
 .let(v,rfl,e1):=cH r;have e1:v=.str i:=e1;subst e1;exact .inr #[i,U,kk _ hk M H _ L .refl U]
def OS:aav:=λas k=>∃ n:Int,as=[.str (toString n)]/\0<=n/\n < 10 ^ 10/\k (.int n)
theorem Jx:AE X c (λxs H Q=>∃ n:Int,xs=[.str (toString n)]/\0<=n/\n < 10 ^ 10/\Q (.int n) H) OS:=λM s as O H xs ds k Q L r h kk=>by
 let(i,rfl,h0,h1,hk):=h;let(v,rfl,e1):=cH r;have e1:v=.str (toString i):=e1;subst e1;exact#[i,U,h0,h1,kk _ hk M H _ L .refl U]
end
theorem CP{i:Int}(h0:0<=i)(h1:i < 1000000):i.natAbs.log2 < 1920:=by
 have h:i.natAbs < 2 ^ 20:=by cbv
 by_cases z:i.natAbs=0
 .rw[z];decide
 .have:=(Nat.log2_lt z).mpr h;cbv
end DL
namespace DL
open PySem L2
theorem C5:∀ zs:List Str,cd (Txt.join "" zs)=zs.flatMap cd
 | []=>rfl
 | a::l=>by
  show cd (Builtin.Str.glued "" (a::l))=_;rw[StrLaws.glued_eq_join]
  induction l generalizing a with
  | nil=>simp[PySem.Str.join]
  | cons b l ih =>
   show cd (a++""++PySem.Str.join "" (b::l))=_;rw[aZ,aZ,ih b];show cd a++[]++_=cd a++_;rw[YA]
   rfl
theorem dY.Ff{f:Fm}{n:Nat}(h:dY f n):n<=4 * f.w:=by
 cases f with
 | nm x=>exact Nat.le_of_eq h.2
 | num i=>exact Nat.le_of_eq h.2
 | op s=>rw[h.2];exact (by decide:2<=4 * 1)
 | iR=>rw[show n=3 from h];decide
 | lt x=>rw[h.2];exact (by decide:2<=4 * 1)
 | mk c=>exact Yw h.2 (by decide:3<=4 * 1)
 | ask f=>exact h.2.2
 | g8 r hs=>rw[h.2.2];exact Ze h.2.1.1
 | new k hs=>rw[h.2.2];exact Yw h.2.1.1 (by decide:3<=4 * 1)
mutual
theorem xJ:∀ t:Tm,t.gt->t.size<=1+4 * t.g7
 | .node f ks,h=>by
  have h1:=tQ ks h.2;have h2:=h.1.Ff;show aV ks+1<=1+4 * (f.w+dM ks);cbv
theorem tQ:∀ ks:List Tm,kI ks->aV ks<=ks.length+4 * dM ks
 | [],_=>YO _
 | t::r,h=>by
  have h1:=xJ t h.1;have h2:=tQ r h.2;show t.size+aV r<=r.length+1+4 * (t.g7+dM r);cbv
end
theorem Df(u:Tm):xn (toD u) "str"=some false:=by
 cases u with
 | node f ks =>
  show xn (Dl f (toDs ks)) "str"=_;cases f<;>rfl
theorem fU(ts:List (List Nat)):(ts.flatMap (32::·)).length=ts.length+(ts.map List.length).sum:=by
 induction ts with
 | nil=>rfl
 | cons a l ih =>
  rw[Yt,Yl,ih];simp only[List.length_cons,List.map_cons,List.sum_cons];cbv
theorem Kg{x:Str}(h:Nm x):(cd x).length<=8:=by rw[eN];exact h.2.2.1
theorem P0{x:Str}(h:rY x):(cd x).length<=8:=by
 rcases h with h | rfl
 .exact Kg h
 .decide
theorem AZ{x:Str}{ns:List Str}(hx:Nm x)(hl:ns.length<=3)(hn:∀ n∈ns,Nm n):(bc (cd x::ns.map cd)).length<=35:=by
 have h1:=Kg hx;have h2:((ns.map cd).map List.length).sum<=8 * ns.length:=by
  clear hl
  induction ns with
  | nil=>exact Ys _
  | cons a l ih =>
   have a1:=ih λn h=>hn n (Yo _ h);have a2:=Kg (hn a Ym);simp only[List.map_cons,List.sum_cons,List.length_cons];cbv
 rw[bc,Yl,fU,Yk];cbv
theorem oz:∀ (hs:List (Str×List Str)) (ts:List (List Nat)),(∀ h∈hs,Nm h.1/\h.2.length<=3/\∀ n∈h.2,Nm n)->(cv hs ts).length<=41 * hs.length+(ts.map List.length).sum
 | [],_,_=>by simp[cv]
 | _::_,[],_=>by simp[cv]
 | h::hs,t::ts,hh=>by
  have h1:=oz hs ts λx hx=>hh x (Yo _ hx);let(a,b,c):=hh h Ym;have h2:=AZ a b c;rw[cv];simp only[List.length_cons,List.length_append,List.map_cons,List.sum_cons];cbv
theorem Bg{f:Fm}{ts:List (List Nat)}(h:dY f ts.length):(e8 f ts).length<=8+150 * f.w+(ts.map List.length).sum:=by
 cases f with
 | nm x=>exact Yw (Kg h.1) (by cbv)
 | num i =>
  have:=jK h.1.1 h.1.2;show (cd (eL i)).length<=_;rw[eN];cbv
 | op s =>
  have hs:(cd s).length=1:=by rcases h.1 with rfl | rfl | rfl<;>rfl
  have h2:=h.2;show (cd s++_).length<=8+150 * 1+_;rw[Yl,fU];cbv
 | iR =>
  have h2:ts.length=3:=h;show (cd "zero"++_).length<=8+150 * 1+_;rw[Yl,fU,show (cd "zero").length=4 from U];cbv
 | lt x =>
  have h1:=Kg h.1;have h2:=h.2;show (cd "let "++cd x++_).length<=8+150 * 1+_;rw[Yl,Yl,fU,show (cd "let ").length=4 from U];cbv
 | mk x =>
  have h1:=Kg h.1;have h2:=h.2;show (cd "make "++cd x++_).length<=8+150 * 1+_;rw[Yl,Yl,fU,show (cd "make ").length=5 from U];cbv
 | ask x =>
  have h1:=Kg h.1;have h2:=h.2.2;cases ts with
  | nil=>exact absurd h.2.1 (by decide)
  | cons t ts =>
   show (cd "ask "++t++(32::cd x)++ts.flatMap (32::·)).length<=8+150 * 1+_;rw[Yl,Yl,Yl,fU,show (cd "ask ").length=4 from U];simp only[List.length_cons,List.map_cons,List.sum_cons] at h2 ⊢;cbv
 | g8 r hs =>
  have h1:=P0 h.1;have h2:=h.2.2;have h3:=h.2.1.1;cases ts with
  | nil=>exact absurd h2 (by simp)
  | cons t ts =>
   have h4:=oz hs ts h.2.1.2;show (cd "case "++t++cd " to "++cd r++cv hs ts).length<=8+150 * 1+_;rw[Yl,Yl,Yl,Yl,show (cd "case ").length=5 from U,show (cd " to ").length=4 from U];simp only[List.map_cons,List.sum_cons];cbv
 | new k hs =>
  have h1:=P0 h.1;have h3:=h.2.1.1;have h4:=oz hs ts h.2.1.2;show (cd "new "++cd k++cv hs ts).length<=8+150 * 1+_;rw[Yl,Yl,show (cd "new ").length=4 from U];cbv
mutual
theorem oY:∀ t:Tm,t.gt->t.T.length<=8+200 * t.g7
 | .node f ks,h=>by
  have h1:=Ae ks h.2;have h2:=h.1.Ff;have hl:(je ks).length=ks.length:=by rw[mN,Yk]
  have h3:=Bg (f:=f) (ts:=je ks) (by rw[hl];exact h.1);rw[Tm.T,o7];show _<=8+200 * (f.w+dM ks);split
  .next e =>
   rw[e] at h2 h3;cbv
  .next e =>
   simp only[List.length_append,List.length_cons,List.length_nil];have:1<=f.w:=by cbv
   cbv
theorem Ae:∀ ks:List Tm,kI ks->((je ks).map List.length).sum<=8 * ks.length+200 * dM ks
 | [],_=>YO _
 | t::r,h=>by
  have h1:=oY t h.1;have h2:=Ae r h.2;show t.T.length+((je r).map List.length).sum<=8 * (r.length+1)+200 * (t.g7+dM r);cbv
end
def lN:Tm->D
 | .node (.nm x) _=>.str x
 | .node (.num i) _=>.str (eL i)
 | t=>toD t
def fX:List (Str×List Str)->List Tm->List D
 | h::hs,k::ks=>.str "|"::.str h.1::(h.2.map .str++.str ":"::lN k::fX hs ks)
 | _,_=>[]
def cO:Fm->Str
 | .op s=>s
 | .iR=>"zero"
 | .lt _=>"let"
 | .mk _=>"make"
 | .ask _=>"ask"
 | .g8 _ _=>"case"
 | .new _ _=>"new"
 | .nm x=>x
 | .num i=>eL i
def fG:Fm->List Tm->List D
 | .lt x,ks=>.str x::ks.map lN
 | .mk c,ks=>.str c::ks.map lN
 | .ask f,ks=>lN (ks.headD (.node .iR []))::.str f::ks.tail.map lN
 | .g8 r hs,ks=>lN (ks.headD (.node .iR []))::.str "to"::.str r::fX hs ks.tail
 | .new k hs,ks=>.str k::fX hs ks
 | _,ks=>ks.map lN
theorem uE{f:Fm}{ks:List Tm}(h:f.w=1):lN (.node f ks)=toD (.node f ks):=by
 cases f<;>first | rfl | cases h
theorem Np(a b:Nat):(([a]:List Nat) < [b])↔a < b:=by
 constructor
 .intro h;cases h with
  | rel h=>exact h
  | cons h=>cases h
 .intro h;exact .rel h
theorem pO{X:Cx}{j p pos}:PE X (.UnaryOp .USub (.Constant (.int 2) j p) pos) (tC (.int (-2))):=λpins s O H Q I h=>IA EV aR pins s O H Q I #[2,U,h]
theorem Kj{x y:D}{l:List D}:iz (x::y::l) 1=some y:=fT (j:=1) U
inductive El where
 | w (x:Str) | k (t:Tm)
def El.it:El->D
 | .w x=>.str x
 | .k t=>lN t
def El.T:El->List Nat
 | .w x=>cd x
 | .k t=>t.T
def eZ:List (Str×List Str)->List Tm->List El
 | h::hs,k::ks=>.w "|"::.w h.1::(h.2.map .w++.w ":"::.k k::eZ hs ks)
 | _,_=>[]
def fP:Fm->List Tm->List El
 | .lt x,ks=>.w x::ks.map .k
 | .mk c,ks=>.w c::ks.map .k
 | .ask f,ks=>.k (ks.headD (.node .iR []))::.w f::ks.tail.map .k
 | .g8 r hs,ks=>.k (ks.headD (.node .iR []))::.w "to"::.w r::eZ hs ks.tail
 | .new k hs,ks=>.w k::eZ hs ks
 | _,ks=>ks.map .k
theorem xF:∀ (hs:List (Str×List Str)) (ks:List Tm),(eZ hs ks).map El.it=fX hs ks
 | [],_=>by simp[eZ,fX]
 | _::_,[]=>by simp[eZ,fX]
 | h::hs,k::ks=>by
  rw[eZ,fX,Yp,Yp,Yr,Yp,Yp,xF hs ks,YF]
  rfl
theorem Fp(f:Fm)(ks:List Tm):(fP f ks).map El.it=fG f ks:=by
 have hm:∀ ks:List Tm,(ks.map El.k).map El.it=ks.map lN:=λks=>by rw[YF];rfl
 cases f<;>simp only[fP,fG,List.map_cons,hm,xF]<;>rfl
theorem uV:∀ (hs:List (Str×List Str)) (ks:List Tm),((eZ hs ks).flatMap λe=>32::e.T)=cv hs (je ks)
 | [],_=>by simp[eZ,cv]
 | _::_,[]=>by simp[eZ,cv,je]
 | h::hs,k::ks=>by
  rw[eZ,je,cv,Yt,Yt,YL,Yt,Yt,uV hs ks,bc];have e:((h.2.map El.w).flatMap λe=>32::e.T)=(h.2.map cd).flatMap (32::·):=by
   rw[ZD,ZD]
   rfl
  rw[e];show (32::[124])++((32::cd h.1)++((h.2.map cd).flatMap (32::·)++((32::[58])++((32::k.T)++cv hs (je ks)))))=_;simp only[List.cons_append,List.nil_append,List.append_assoc]
theorem Kv{f:Fm}{ks:List Tm}(h:dY f ks.length)(hw:f.w=1):e8 f (je ks)=cd (cO f)++(fP f ks).flatMap λe=>32::e.T:=by
 have hm:∀ ks:List Tm,((ks.map El.k).flatMap λe=>32::e.T)=(je ks).flatMap (32::·):=λks=>by
  rw[mN,ZD,ZD]
  rfl
 cases f with
 | nm x=>cases hw
 | num x=>cases hw
 | op s=>exact congrArg (cd s++·) (hm ks).symm
 | iR=>exact congrArg (cd "zero"++·) (hm ks).symm
 | lt x =>
  rw[fP,Yt,hm];show cd "let "++cd x++_=cd "let"++((32::cd x)++_);rw[show cd "let "=cd "let"++[32] from U];simp only[List.cons_append,List.nil_append,List.append_assoc]
 | mk x =>
  rw[fP,Yt,hm];show cd "make "++cd x++_=cd "make"++((32::cd x)++_);rw[show cd "make "=cd "make"++[32] from U];simp only[List.cons_append,List.nil_append,List.append_assoc]
 | ask x =>
  cases ks with
  | nil=>exact absurd h.2.1 (by decide)
  | cons a r =>
   rw[fP,Yt,Yt,Zw,ZC,hm];show cd "ask "++a.T++(32::cd x)++_=cd "ask"++((32::a.T)++((32::cd x)++_));rw[show cd "ask "=cd "ask"++[32] from U];simp only[List.cons_append,List.nil_append,List.append_assoc]
   rfl
 | g8 r hs =>
  cases ks with
  | nil=>exact absurd h.2.2 (by simp)
  | cons a js =>
   rw[fP,Yt,Yt,Yt,Zw,ZC,uV];show cd "case "++a.T++cd " to "++cd r++cv hs (je js)=cd "case"++((32::a.T)++((32::cd "to")++((32::cd r)++cv hs (je js))));rw[show cd "case "=cd "case"++[32] from U,show cd " to "=32::cd "to"++[32] from U];simp only[List.cons_append,List.nil_append,List.append_assoc]
 | new k hs =>
  rw[fP,Yt,uV];show cd "new "++cd k++cv hs (je ks)=cd "new"++((32::cd k)++cv hs (je ks));rw[show cd "new "=cd "new"++[32] from U];simp only[List.cons_append,List.nil_append,List.append_assoc]
def eB(n:Nat):List (List Nat)->List (List Nat)
 | []=>[]
 | [x]=>[x++List.replicate n 41]
 | x::y::l=>x::eB n (y::l)
theorem qc(n:Nat):∀ {l:List (List Nat)},l≠[]->eB n l≠[]
 | [x],_=>by simp[eB]
 | x::y::l,_=>by simp[eB]
theorem sj(n:Nat):∀ (a:List (List Nat)) {b:List (List Nat)},b≠[]->eB n (a++b)=a++eB n b
 | [],b,_=>rfl
 | [x],b,h=>by
  cases b with
  | nil=>exact absurd U h
  | cons y b=>rfl
 | x::y::a,b,h=>by
  have:=sj n (y::a) h;show x::eB n ((y::a)++b)=x::((y::a)++eB n b);rw[this]
theorem tF(m n:Nat):∀ l:List (List Nat),eB n (eB m l)=eB (m+n) l
 | []=>rfl
 | [x]=>by simp[eB,List.replicate_append_replicate]
 | x::y::l=>by
  have:=tF m n (y::l);cases e:eB m (y::l) with
  | nil=>exact absurd e (qc m (by simp))
  | cons z r =>
   show eB n (x::eB m (y::l))=x::eB (m+n) (y::l);rw[<- this,e]
   rfl
theorem nE:∀ l:List (List Nat),eB 0 l=l
 | []=>rfl
 | [x]=>by simp[eB]
 | x::y::l=>by
  show x::eB 0 (y::l)=_;rw[nE (y::l)]
theorem DX:∀ {a b:List (List Nat)},a≠[]->bc (a++b)=bc a++b.flatMap (32::·)
 | x::a,b,_=>by
  show x++(a++b).flatMap (32::·)=x++a.flatMap (32::·)++_;rw[YL,YI]
theorem ku{l:List (List Nat)}(h:l≠[]):l.flatMap (32::·)=32::bc l:=by
 cases l with
 | nil=>exact absurd U h
 | cons x l=>rfl
theorem t9(n:Nat):∀ {l:List (List Nat)},l≠[]->bc (eB n l)=bc l++List.replicate n 41
 | [x],_=>by simp[eB,bc]
 | x::y::l,_=>by
  have h:=t9 n (l:=y::l) (by simp);show x++(eB n (y::l)).flatMap (32::·)=x++(y::l).flatMap (32::·)++_;rw[ku (qc n (by simp)),h,ku (by simp)];simp
mutual
noncomputable def Tm.ws:Tm->List (List Nat)
 | .node f ks=>if f.w=0 then [e8 f []] else eB 1 ((40::cd (cO f))::Cr f ks)
noncomputable def Cr:Fm->List Tm->List (List Nat)
 | .lt x,ks=>cd x::Ik ks
 | .mk c,ks=>cd c::Ik ks
 | .ask f,[]=>[cd f]
 | .ask f,t::ks=>t.ws++cd f::Ik ks
 | .g8 r hs,[]=>[cd r]
 | .g8 r hs,t::ks=>t.ws++cd "to"::cd r::KY hs ks
 | .new k hs,ks=>cd k::KY hs ks
 | _,ks=>Ik ks
noncomputable def Ik:List Tm->List (List Nat)
 | []=>[]
 | t::ks=>t.ws++Ik ks
noncomputable def KY:List (Str×List Str)->List Tm->List (List Nat)
 | h::hs,k::ks=>cd "|"::cd h.1::(h.2.map cd++cd ":"::(k.ws++KY hs ks))
 | _,_=>[]
end
def El.ws:El->List (List Nat)
 | .w x=>[cd x]
 | .k t=>t.ws
theorem jZ:∀ ks:List Tm,Ik ks=(ks.map El.k).flatMap El.ws
 | []=>by simp[Ik]
 | t::ks=>by rw[Ik,jZ ks];rfl
theorem yI:∀ (hs:List (Str×List Str)) (ks:List Tm),KY hs ks=(eZ hs ks).flatMap El.ws
 | [],_=>by simp[KY,eZ]
 | _::_,[]=>by simp[KY,eZ]
 | h::hs,k::ks=>by
  rw[KY,eZ,yI hs ks,Yt,Yt,YL,Yt,Yt];have e:(h.2.map El.w).flatMap El.ws=h.2.map cd:=by
   induction h.2 with
   | nil=>rfl
   | cons a l ih=>rw[Yp,Yt,ih];rfl
  rw[e]
  rfl
theorem Dr{f:Fm}{ks:List Tm}(h:dY f ks.length):Cr f ks=(fP f ks).flatMap El.ws:=by
 cases f with
 | ask x =>
  cases ks with
  | nil=>exact absurd h.2.1 (by decide)
  | cons a r=>rw[Cr,fP,Yt,Yt,Zw,ZC,jZ];rfl
 | g8 r hs =>
  cases ks with
  | nil=>exact absurd h.2.2 (by simp)
  | cons a js=>rw[Cr,fP,Yt,Yt,Yt,Zw,ZC,yI];rfl
 | lt x=>rw[Cr,fP,Yt,jZ];rfl
 | mk x=>rw[Cr,fP,Yt,jZ];rfl
 | new k hs=>rw[Cr,fP,Yt,yI];rfl
 | nm x=>simp only[Cr];exact jZ ks
 | num x=>simp only[Cr];exact jZ ks
 | op x=>simp only[Cr];exact jZ ks
 | iR=>simp only[Cr];exact jZ ks
def pD(c:List Nat):Prop:=c≠[]/\∀ n∈c,n≠32/\n≠40/\n≠41
noncomputable instance (c:List Nat):Decidable (pD c):=by unfold pD;infer_instance
theorem eM{x:Str}(h:Nm x):pD (cd x):=by
 refine#[λz=>?_,λn hn=>?_]
 .have:=eN x;rw[z] at this;have:=h.2.1;simp at *;cbv
 .have:=h.1 n hn;cbv
theorem p0{x:Str}(h:rY x):pD (cd x):=by
 rcases h with h | rfl
 .exact eM h
 .decide
theorem pY{i:Int}(h0:0<=i):pD (cd (eL i)):=by
 let(n,rfl):=ZE h0;have e:cd (eL (n:Int))=(Nat.toDigits 10 n).map Char.toNat:=aap n;refine#[λz=>?_,λc hc=>?_]
 .rw[e] at z;exact Nat.toDigits_ne_nil (ZW.mp z)
 .rw[e] at hc;let(ch,hm,rfl):=YB.mp hc;have:=Zt (by decide) (by decide) hm;unfold Char.isDigit at this;simp only[Bool.and_eq_true,decide_eq_true_eq] at this;have h2:48<=ch.toNat:=this.1;cbv
theorem xD{f:Fm}{n:Nat}(h:dY f n):pD (cd (cO f)):=by
 cases f with
 | nm x=>exact eM h.1
 | num i=>exact pY h.1.1
 | op s=>rcases h.1 with rfl | rfl | rfl<;>decide
 | iR=>exact (by decide:pD (cd "zero"))
 | lt x=>exact (by decide:pD (cd "let"))
 | mk x=>exact (by decide:pD (cd "make"))
 | ask x=>exact (by decide:pD (cd "ask"))
 | g8 r hs=>exact (by decide:pD (cd "case"))
 | new k hs=>exact (by decide:pD (cd "new"))
def BH(ks:List Tm):El->Prop
 | .w x=>pD (cd x)
 | .k t=>t∈ks
theorem ql:∀ {hs:List (Str×List Str)} {ks js:List Tm},n6 hs->(∀ t∈ks,t∈js)->∀ e∈eZ hs ks,BH js e
 | [],_,_,_,_,e,he=>by simp[eZ] at he
 | _::_,[],_,_,_,e,he=>by simp[eZ] at he
 | h::hs,k::ks,js,hh,hk,e,he=>by
  let(a,b,c):=hh.2 h Ym;rw[eZ] at he;rcases Yn.mp he with rfl | he
  .exact (by decide:pD (cd "|"))
  .rcases Yn.mp he with rfl | he
   .exact eM a
   .rcases Yz.mp he with he | he
    .let(z,hz,rfl):=YB.mp he;exact eM (c z hz)
    .rcases Yn.mp he with rfl | he
     .exact (by decide:pD (cd ":"))
     .rcases Yn.mp he with rfl | he
      .exact hk k Ym
      .exact ql #[by have:=hh.1;simp only[List.length_cons] at this;cbv,λx hx=>hh.2 x (List.mem_cons_of_mem _ hx)] (λt ht=>hk t (List.mem_cons_of_mem _ ht)) e he
theorem zU{f:Fm}{ks:List Tm}(h:dY f ks.length)(hw:f.w=1):(∀ e∈fP f ks,BH ks e)/\fP f ks≠[]:=by
 have hm:∀ (js ks:List Tm),(∀ t∈ks,t∈js)->∀ e∈ks.map El.k,BH js e:=λjs ks hk e he=>by
  let(t,ht,rfl):=YB.mp he;exact hk t ht
 have hc:∀ (js:List Tm) (a:El) (l:List El),BH js a->(∀ e∈l,BH js e)->∀ e∈a::l,BH js e:=λjs a l ha hl e he=>by
  rcases Yn.mp he with rfl | he
  .exact ha
  .exact hl e he
 cases f with
 | nm x=>cases hw
 | num x=>cases hw
 | op s =>
  refine#[hm ks ks λ_ h=>h,λz=>?_];have:ks.map El.k=[]:=z;have h2:=h.2;rw[ZW.mp this] at h2;cases h2
 | iR =>
  refine#[hm ks ks λ_ h=>h,λz=>?_];have:ks.map El.k=[]:=z;have h:ks.length=3:=h;rw[ZW.mp this] at h;cases h
 | lt x=>exact#[hc _ _ _ (eM h.1) (hm ks ks λ_ h=>h),by simp[fP]]
 | mk x=>exact#[hc _ _ _ (eM h.1) (hm ks ks λ_ h=>h),by simp[fP]]
 | ask x =>
  cases ks with
  | nil=>exact absurd h.2.1 (by decide)
  | cons a r=>exact#[hc _ _ _ (List.mem_cons_self (a:=a)) (hc _ _ _ (eM h.1) (hm _ r λt ht=>List.mem_cons_of_mem _ ht)),by simp[fP]]
 | g8 r hs =>
  cases ks with
  | nil=>exact absurd h.2.2 (by simp)
  | cons a js=>exact#[hc _ _ _ (List.mem_cons_self (a:=a)) (hc _ _ _ (by decide:pD (cd "to")) (hc _ _ _ (p0 h.1) (ql h.2.1 λt ht=>List.mem_cons_of_mem _ ht))),by simp[fP]]
 | new k hs=>exact#[hc _ _ _ (p0 h.1) (ql h.2.1 λt ht=>ht),by simp[fP]]
inductive Cl:List (List D)->Nat->List (List D)->Prop
 | zero {fr:List (List D)}:Cl fr 0 fr
 | succ {base:List (List D)} {prev:List D} {f:Fm} {ks:List Tm} {n:Nat} {pq:List (List D)}:dY f ks.length->f.w=1->kI ks->Cl (base++[prev++[toD (.node f ks)]]) n pq->Cl (base++[prev]++[.str (cO f)::fG f ks]) (n+1) pq
inductive Run:List (List D)->List (List Nat)->List (List D)->Prop
 | nil {fr:List (List D)}:Run fr [] fr
 | Wb {fr:List (List D)} {h:List Nat} {ws:List (List Nat)} {pq:List (List D)}:pD h->Run (fr++[[.str (bp h)]]) ws pq->Run fr ((40::h)::ws) pq
 | Te {base:List (List D)} {cur:List D} {x:List Nat} {n:Nat} {sQ:List (List D)} {ws:List (List Nat)} {pq:List (List D)}:pD x->Cl (base++[cur++[.str (bp x)]]) n sQ->Run sQ ws pq->Run (base++[cur]) ((x++List.replicate n 41)::ws) pq
def wk(e:El):Prop:=e.ws≠[]/\∀ (base:List (List D)) (cur:List D) (n:Nat) (sQ:List (List D)) (rest:List (List Nat)) (pq:List (List D)),Cl (base++[cur++[e.it]]) n sQ->Run sQ rest pq->Run (base++[cur]) (eB n e.ws++rest) pq
theorem goodW{x:Str}(h:pD (cd x)):wk (.w x):=#[by simp[El.ws],λbase cur n sQ rest pq hc hr=>by
 show Run (base++[cur]) ((cd x++List.replicate n 41)::rest) pq;refine .Te h ?_ hr;rw[oP];exact hc]
theorem FJ:∀ (es:List El),es≠[]->(∀ e∈es,wk e)->es.flatMap El.ws≠[]/\∀ (base:List (List D)) (cur:List D) (n:Nat) (sQ:List (List D)) (rest:List (List Nat)) (pq:List (List D)),Cl (base++[cur++es.map El.it]) n sQ->Run sQ rest pq->Run (base++[cur]) (eB n (es.flatMap El.ws)++rest) pq
 | [],h,_=>absurd U h
 | [e],_,hg=>by
  let(h1,h2):=hg e Ym;refine#[by simpa using h1,λbase cur n sQ rest pq hc hr=>?_];have:=h2 base cur n sQ rest pq hc hr;simpa using this
 | e::e2::es,_,hg=>by
  let(h1,h2):=hg e Ym;let(h3,h4):=FJ (e2::es) (by simp) λx hx=>hg x (List.mem_cons_of_mem _ hx);refine#[by rw[Yt];exact λz=>h1 (List.append_eq_nil_iff.mp z).1,λbase cur n sQ rest pq hc hr=>?_];rw[Yt,sj n _ h3,YI,<- nE e.ws];refine h2 base cur 0 _ _ _ .zero (h4 base (cur++[e.it]) n sQ rest pq ?_ hr);rw[Yp] at hc;rw[YI];exact hc
theorem HG:∀ (m:Nat) (t:Tm),t.size<=m->t.gt->wk (.k t)
 | 0,t,h,_=>by have:=gA t;cbv
 | m+1,.node f ks,h,#[aN,hg]=>by
  by_cases hw:f.w=0
  .have e1:(Tm.node f ks).ws=[e8 f []]:=by rw[Tm.ws,if_pos hw]
   have e2:pD (e8 f [])/\lN (.node f ks)=.str (bp (e8 f [])):=by
    cases f with
    | nm x=>exact#[eM aN.1,congrArg D.str (oP x).symm]
    | num i=>exact#[pY aN.1.1,congrArg D.str (oP (eL i)).symm]
    | _=>cases hw
   refine#[by show (Tm.node f ks).ws≠[];rw[e1];simp,λbase cur n sQ rest pq hc hr=>?_];show Run (base++[cur]) (eB n (Tm.node f ks).ws++rest) pq;rw[e1];refine .Te e2.1 ?_ hr;have hc:Cl (base++[cur++[lN (.node f ks)]]) n sQ:=hc;rw[e2.2] at hc;exact hc
  .have hw1:f.w=1:=by cases f<;>first | rfl | exact absurd U hw
   have hkm:∀ t∈ks,wk (.k t):=λt ht=>HG m t (by
    have:t.size<=aV ks:=by
     clear h aN hg
     induction ks with
     | nil=>cases ht
     | cons a l ih =>
      show t.size<=a.size+aV l;rcases Yn.mp ht with rfl | ht
      .cbv
      .have:=ih ht;cbv
    have h:aV ks+1<=m+1:=h;cbv) (dB hg t ht)
   let(hmok,hmne):=zU aN hw1;let(h3,h4):=FJ (fP f ks) hmne λe he=>by
    have:=hmok e he;cases e with
    | w x=>exact goodW this
    | k t=>exact hkm t this
   have e1:(Tm.node f ks).ws=eB 1 ((40::cd (cO f))::(fP f ks).flatMap El.ws):=by rw[Tm.ws,if_neg hw,Dr aN]
   refine#[by show (Tm.node f ks).ws≠[];rw[e1];exact qc 1 (by simp),λbase cur n sQ rest pq hc hr=>?_];show Run (base++[cur]) (eB n (Tm.node f ks).ws++rest) pq;rw[e1,tF,show (40::cd (cO f))::(fP f ks).flatMap El.ws=[40::cd (cO f)]++(fP f ks).flatMap El.ws from U,sj _ _ h3,YI];refine .Wb (xD aN) ?_;rw[oP];refine h4 (base++[cur]) [.str (cO f)] (1+n) sQ rest pq ?_ hr;rw[Fp,Nat.add_comm];refine .succ aN hw1 hg ?_;have hc:Cl (base++[cur++[lN (.node f ks)]]) n sQ:=hc;rw[uE hw1] at hc;exact hc
def P9(e:El):Prop:=e.ws≠[]/\bc e.ws=e.T/\∀ x∈e.ws,32∉x
theorem xO{n:Nat}:∀ {l:List (List Nat)},(∀ x∈l,32∉x)->∀ x∈eB n l,32∉x
 | [],_,x,hx=>(nomatch hx)
 | [y],h,x,hx=>by
  rw[eB,Yx] at hx;rw[hx];intro z;rcases Yz.mp z with z | z
  .exact h y Ym z
  .exact absurd (Z5 z) (by decide)
 | y::z::l,h,x,hx=>by
  rw[eB] at hx;rcases Yn.mp hx with rfl | hx
  .exact h x Ym
  .exact xO (λx hx=>h x (Yo _ hx)) x hx
theorem WI{es:List El}(h:∀ e∈es,P9 e):((es.flatMap El.ws).flatMap (32::·)=es.flatMap λe=>32::e.T)/\∀ x∈es.flatMap El.ws,32∉x:=by
 induction es with
 | nil=>exact#[U,λx hx=>(nomatch hx)]
 | cons e es ih =>
  let(h1,h2):=ih λx hx=>h x (Yo _ hx);let(g1,g2,g3):=h e Ym;refine#[?_,λx hx=>?_]
  .rw[Yt,YL,h1,ku g1,g2,Yt]
  .rw[Yt] at hx;exact (Yz.mp hx).elim (g3 x) (h2 x)
theorem Wn:∀ (m:Nat) (t:Tm),t.size<=m->t.gt->P9 (.k t)
 | 0,t,h,_=>by have:=gA t;cbv
 | m+1,.node f ks,h,#[aN,hg]=>by
  by_cases hw:f.w=0
  .have e1:(Tm.node f ks).ws=[e8 f []]:=by rw[Tm.ws,if_pos hw]
   have e2:pD (e8 f [])/\e8 f (je ks)=e8 f []:=by
    cases f with
    | nm x=>exact#[eM aN.1,U]
    | num i=>exact#[pY aN.1.1,U]
    | _=>cases hw
   refine#[by show (Tm.node f ks).ws≠[];rw[e1];simp,?_,λx hx=>?_]
   .show bc (Tm.node f ks).ws=(Tm.node f ks).T;rw[e1,Tm.T,o7,if_pos hw,e2.2];simp[bc]
   .have hx:x∈(Tm.node f ks).ws:=hx;rw[e1,Yx] at hx;rw[hx];exact λz=>(e2.1.2 32 z).1 U
  .have hw1:f.w=1:=by cases f<;>first | rfl | exact absurd U hw
   have hkm:∀ t∈ks,P9 (.k t):=λt ht=>Wn m t (by
    have:t.size<=aV ks:=by
     clear h aN hg
     induction ks with
     | nil=>cases ht
     | cons a l ih =>
      show t.size<=a.size+aV l;rcases Yn.mp ht with rfl | ht
      .cbv
      .have:=ih ht;cbv
    have h:aV ks+1<=m+1:=h;cbv) (dB hg t ht)
   let(hmok,hmne):=zU aN hw1;let(h3,h4):=WI (es:=fP f ks) λe he=>by
    have:=hmok e he;cases e with
    | w x =>
     have this:pD (cd x):=this;exact#[by simp[El.ws],by simp[El.ws,El.T,bc],λy hy=>by rw[show y=cd x from List.mem_singleton.mp hy];exact λz=>(this.2 32 z).1 U]
    | k t=>exact hkm t this
   have hph:=xD aN;have e1:(Tm.node f ks).ws=eB 1 ((40::cd (cO f))::(fP f ks).flatMap El.ws):=by rw[Tm.ws,if_neg hw,Dr aN]
   refine#[by show (Tm.node f ks).ws≠[];rw[e1];exact qc 1 (by simp),?_,λx hx=>?_]
   .show bc (Tm.node f ks).ws=(Tm.node f ks).T;rw[e1,t9 1 (by simp),bc,h3,Tm.T,o7,if_neg hw,Kv aN hw1];simp
   .have hx:x∈(Tm.node f ks).ws:=hx;rw[e1] at hx;refine xO (λy hy=>?_) x hx;rcases Yn.mp hy with rfl | hy
    .intro z;rcases Yn.mp z with z | z
     .cases z
     .exact (hph.2 32 z).1 U
    .exact h4 y hy
end DL
namespace HT
open PySem PySem.Spec PyProof.Rows
open PySem.Builtin PySem.Builtin.Str
section
variable{prog:Program}{w:World}{A:Around}{E:aat}{s:Shared}{x y:Str}{t u:Tok}{Q:aat}
theorem yT(hy:(y.length == 0)=false)(h:∀ (l:List (Str×Tok)) (k:Nat),l.map (·.1)=Txt.split x y->Q (.ref ↑s) { s with heap:=s.heap.push { cls:=.type "list",data:=.seq (strValues l).toArray },toks:=k })(hsz:x.length+2<=sizeLine) :
  wpAny (model prog w) A (call (.builtin "str.split") [.str x t,.str y u]) Q E s:=by
 have hn:(partsBetween x (occurrences x y 0 x.length (x.length+1)) y.length).length<=sizeLine:=by
  have e1:=StrLaws.occ_length_le x y 0 x.length (x.length+1);rw[length_partsBetween];cbv
 cases h1:(decide (x.length < y.length)||decide (strKind x < strKind y))
 .cases hf:(occurrences x y 0 x.length (x.length+1)).isEmpty
  .refine call_meets Zq (typeIs_str _ _ _) aab (Z6 _ _) (meets_str_split_sep x y t u h1 hy hf (by cbv) hn) ?_;show wants Q E _ { s with toks:=_,heap:=s.heap.push { cls:=.type "list",data:=.seq (strsFrom s.toks (partsBetween x (occurrences x y 0 x.length (x.length+1)) y.length)).toArray } };rw[strsFrom_eq];exact h (numbered s.toks _) _ ((numbered_texts _ _).trans ((if_neg (ne_true_of_eq_false h1)).trans (if_neg (ne_true_of_eq_false hf))).symm)
  .exact call_meets Zq (typeIs_str _ _ _) aab (Z6 _ _) (meets_str_split_not_found x y t u h1 hy hf)
    (h [(x,t)] s.toks ((if_neg (ne_true_of_eq_false h1)).trans (if_pos hf)).symm)
 .exact call_meets Zq (typeIs_str _ _ _) aab (Z6 _ _) (meets_str_split_cannot_occur x y t u h1)
   (h [(x,t)] s.toks (if_pos h1).symm)
end
end HT
namespace L2
open PySem PySem.Spec PyProof.Rows
section
variable{X:Cx}
theorem uB:∀ (l:List (Str×Tok)),Vals ((l.map (·.1)).map V.str) (strValues l)
 | []=>.nil
 | p::l=>.cons #[p.2,U] (uB l)
def K1:V->List V->Hp->VK->Prop:=λx vs H Q=>∃ z y,x=.str z/\vs=[.str y]/\(y.length == 0)=false/\z.length+2<=sizeLine/\(Txt.split z y).length<=sizeLine/\∀ p,H p=none->Q (.ref p) (upd H p (.lst ((Txt.split z y).map V.str)))
theorem v8:JZ X "str.split" K1:=by
 intro pins s O H x vs v us Q I rx rv h;let(z,y,rfl,rfl,hy,hz,hl,q):=h;let(t,rfl):=rx;let(u,rfl,t',rfl):=rv.one;refine HT.yT hy (λl k e=>?_) hz;have hf:H ↑s=none:=I.aN.fresh (Ys _);refine#[.ref ↑s,upd H ↑s (.lst ((Txt.split z y).map V.str)),I.laid (t':=k) (λb u e=>Yq _ e) (Ys _) ?_,U,q _ hf];have hv:=uB l;rw[e] at hv;exact#[by rw[Yk];exact hl,strValues l,0,hv,YD _ U]
end
end L2
namespace DL
open PySem L2
end DL
namespace DL
open PySem L2
open PySem.Builtin.Str
theorem Px(l:List Nat)(h:∀ c∈l,c≠41):l.takeWhile (λc=>(#v[41]:Array Nat).contains c)=[]:=by
 cases l with
 | nil=>rfl
 | cons a l =>
  rw[List.takeWhile_cons];have:(#v[41]:Array Nat).contains a=false:=by
   have:=h a Ym;simp[this]
   try cbv
  rw[this]
  rfl
theorem Me(n:Nat)(l:List Nat)(h:∀ c∈l,c≠41):((List.replicate n 41++l).takeWhile (λc=>(#v[41]:Array Nat).contains c)).length=n:=by
 induction n with
 | zero=>rw[List.replicate_zero,YE,Px l h];rfl
 | succ n ih =>
  rw[List.replicate_succ,YT,List.takeWhile_cons];rw[if_pos (by simp),List.length_cons,ih]
theorem Hi{x:List Nat}(n:Nat)(h:pD x):Txt.rstripChars (bp (x++List.replicate n 41)) ")"=bp x:=by
 unfold Txt.rstripChars;rw[PyProof.Rows.stripBy_eq];have e1:stripLo (")":Str).cps.contains false (bp (x++List.replicate n 41))=0:=rfl;have e2:stripHi (")":Str).cps.contains true (bp (x++List.replicate n 41)) 0=x.length:=by
  show (bp (x++List.replicate n 41)).length - ((((x++List.replicate n 41).drop 0).reverse.takeWhile λc=>(#v[41]:Array Nat).contains c).length)=_;rw[ZA,List.reverse_append,List.reverse_replicate,Me n x.reverse λc hc=>(h.2 c (List.mem_reverse.mp hc)).2.2,bB,Yl,Zu];cbv
 rw[e1,e2];refine cJ ?_;show ((x++List.replicate n 41).toArray.extract 0 x.length).toList=x;simp
theorem Ab(a:Nat)(l:List Nat):Txt.startswith (bp (a::l)) "("=decide (a=40):=by
 unfold Txt.startswith subAt;have e:(bp (a::l)).cps.extract 0 (0+("(":Str).length)=#v[a]:=by
  show ((a::l).toArray.extract 0 1)=#v[a];simp
 rw[e];have:(bp (a::l)).length=l.length+1:=bB _;rw[this];show (decide (0+1<=l.length+1)&&(#v[a] == #v[40]))=_;rw[decide_eq_true (by cbv),aah];by_cases h:a=40
 .subst h;decide
 .rw[decide_eq_false h];simp[h]
theorem JY(a:Nat)(l:List Nat):Txt.slice (bp (a::l)) (some 1) none=bp l:=by
 have hn:(bp (a::l)).length=l.length+1:=bB _;have hi:strSliceIndices (some 1) none 1 (l.length+1)=(List.range l.length).map (·+1):=by
  show sliceRange (max 0 (min (1:Int) ((l.length+1:Nat):Int))) ((l.length+1:Nat):Int) 1=_;rw[show max 0 (min (1:Int) ((l.length+1:Nat):Int))=1 by cbv];have hc:(if (1:Int) < ((l.length+1:Nat):Int) then (((l.length+1:Nat):Int) - 1+1 - 1) / 1 else 0).toNat=l.length:=by
   split
   .rw[Int.ediv_one];cbv
   .cbv
  show (List.range (if (1:Int) < ((l.length+1:Nat):Int) then (((l.length+1:Nat):Int) - 1+1 - 1) / 1 else 0).toNat).map (λ(k:Nat)=>(1+1 * (k:Int)).toNat)=_;rw[hc];refine Zl λk _=>?_;cbv
 unfold Txt.slice;rw[hn,hi];rw[if_neg (by simp)];refine cJ ?_;show ((List.range l.length).map (·+1)).filterMap ((a::l).toArray[·]?)=l;rw[Z1];have:∀ (k:Nat),(((a::l).toArray[·]?)∘(·+1)) k=l[k]?:=λk=>by simp
 rw[show (((a::l).toArray[·]?)∘(·+1))=λk=>l[k]? from funext this];have hg:∀ k∈List.range l.length,l[k]?=some (l.getD k 0):=λk hk=>by
  have:=List.mem_range.mp hk;rw[ZU,YY this]
  rfl
 have hf:∀ m:List Nat,(∀ k∈m,l[k]?=some (l.getD k 0))->m.filterMap (λk=>l[k]?)=m.map λk=>l.getD k 0:=λm=>by
  induction m with
  | nil=>intro _;rfl
  | cons k m ih =>
   intro hm;rw[List.filterMap_cons,hm k Ym,Yp];exact congrArg (_::·) (ih λx hx=>hm x (Yo _ hx))
 rw[hf _ hg];refine List.ext_getElem (by simp) λi h1 h2=>?_;simp[List.getD_eq_getElem?_getD,List.getElem?_eq_getElem h2]
end DL
namespace L2
open PySem PySem.Calls PyProof.Rows PyProof.V PySem.Spec
structure LR(P:Program)(w:World)(K:Frag)(d:Addr)(kvs:List (Str×Value)):Prop where
 ob:∃ o,K.lookup d=some o/\o.IsDictOf (strKind P w) kvs
 nm:(d == sysModules)=false
section
variable{X:Cx}{d:Addr}{kvs:List (Str×Value)}
def SJ(d:Addr)(kvs:List (Str×Value)):R2:=λx y H Q=>∃ i,x=.str i/\y=.ref d/\Q (.bl (valueAt kvs i).isSome) H
def RV(d:Addr)(kvs:List (Str×Value)):R2:=λx y H Q=>∃ i f,x=.ref d/\y=.str i/\valueAt kvs i=some (.ref f)/\Q (.ref f) H
theorem LR.dict{pins:aau}{O:St}{H:Hp}{s:Shared}(h:LR X.prog X.w X.K d kvs)(I:Inv X pins O H s):s.heap.DictOf (strKind X.prog X.w) d kvs:=by
 let(o,hk,hd):=h.ob;exact Heap.dictOf_iff.mpr #[o,I.Ig d o hk,hd]
theorem Jp(h:LR X.prog X.w X.K d kvs):iT X (compareOp .In) (SJ d kvs):=by
 intro pins s O H x y v u Q I rx ry q;let(i,rfl,rfl,q):=q;let(t,rfl):=rx;cases (show u=Value.ref d from ry);exact wpAny_in_of (strKind_is _ _ _ _) h.nm (h.dict I).mapOf (bq (I.tok _) q U)
theorem S4(h:LR X.prog X.w X.K d kvs):F4 X (RV d kvs):=by
 intro value slice pins s O H x y v u Q I rx ry q hs;let(i,f,rfl,rfl,e,q):=q;let(t,rfl):=ry;cases (show v=Value.ref d from rx);exact tail_any (h.dict I).typeIs slot_dict_getitem.lookup (wpAny_getItem_of (strKind_is _ _ _ _) (h.dict I).mapOf e #[.ref f,H,I.tok _,U,q]) hs
def Oa(X:Cx)(k:Nat)(f:Addr)(sp:Sp):Prop:=∃ fd ps,bV X.prog X.w X.K X.mg X.base aD k f fd ps sp/\keepIn X.K (.ref f)=true/\Binds X.K fd ps []
def K7(X:Cx)(k:Nat)(tf:TE)(t:TA):TE:=λO H Q=>tf O H λv H1=>∃ f sp,v=.ref f/\Oa X k f sp/\t O H1 λvs H2=>sp vs H2 Q E0
theorem EC{k:Nat}{a b e:Expr}{es:List Expr}{p pos:Pos}{tf:TE}{t:TA}(hr:cU k X.A)(hf:PE X (.Subscript a b p) tf)(ha:PA X (e::es) t)(he:aaw X.env e es:=by rfl)(fC:aax X.env pos es:=by rfl) :
  PE X (.Call (.Subscript a b p) (e::es) [] pos) (K7 X k tf t):=by
 intro pins s O H Q I h;rw[show eval (.Call (.Subscript a b p) (e::es) [] pos) X.env=(do callWith pos (<- eval (.Subscript a b p) X.env) [] (backTo pos (starEach (e::es) X.env)) (backToKw pos (keywordEach [] X.env))) from U];refine wpAny_bind (b9 (hf pins s O H _ I h) λv s1 #[x,H1,I1,r,f,sp,e1,#[fd,ps,F,hk,hb],q]=>?_);subst e1;cases (show v=Value.ref f from r);refine PySem.W.callWith_K (h₀:=X.base) I1.ok.mod.QI hk (b9 (ha pos pins s1 O H1 _ I1 q) λus s2 zz=>el2 zz λvs H2 I2 r2 q2=>#[I2.Ig,?_]) he fC;exact Cu F hr hb .nil fW I2 r2 (by rw[YA];exact q2)
end
end L2
namespace DL
open PySem L2
def dW(c:Nat):List (List Nat)->List Nat
 | []=>[]
 | a::l=>a++l.flatMap (c::·)
theorem Ha(l:List (List Nat)):dW 32 l=bc l:=by
 cases l<;>rfl
theorem iG{c:Nat}{l:List (List Nat)}(h:l≠[]):l.flatMap (c::·)=c::dW c l:=by
 cases l with
 | nil=>exact absurd U h
 | cons a l=>rfl
theorem Oz{c:Nat}:∀ {x y:List Nat} {r s:List Nat},c∉x->c∉y->x++c::r=y++c::s->x=y/\r=s
 | [],[],r,s,_,_,h=>#[U,by injection h]
 | [],b::y,r,s,_,hy,h=>by
  injection h with h1 h2;exact absurd (h1▸Ym) hy
 | a::x,[],r,s,hx,_,h=>by
  injection h with h1 h2;exact absurd (h1▸Ym) hx
 | a::x,b::y,r,s,hx,hy,h=>by
  injection h with h1 h2;let(e1,e2):=Oz (λz=>hx (Yo _ z)) (λz=>hy (Yo _ z)) h2;exact#[by rw[h1,e1],e2]
theorem uz{c:Nat}:∀ {a b:List (List Nat)},a≠[]->b≠[]->(∀ x∈a,c∉x)->(∀ x∈b,c∉x)->dW c a=dW c b->a=b
 | [x],[y],_,_,_,_,h=>by simpa [dW] using h
 | [x],y::z::b,_,_,ha,_,h=>by
  have h:x++[]=y++(z::b).flatMap (c::·):=h;rw[iG (by simp),List.append_nil] at h;exact absurd (by rw[h];simp) (ha x List.mem_cons_self)
 | x::z::a,[y],_,_,_,hb,h=>by
  have h:x++(z::a).flatMap (c::·)=y++[]:=h;rw[iG (by simp),List.append_nil] at h;exact absurd (by rw[<- h];simp) (hb y List.mem_cons_self)
 | x::z::a,y::u::b,_,_,ha,hb,h=>by
  have h:x++(z::a).flatMap (c::·)=y++(u::b).flatMap (c::·):=h;rw[iG (by simp),iG (by simp)] at h;let(e1,e2):=Oz (ha x Ym) (hb y Ym) h;rw[e1,uz (by simp) (by simp) (λx hx=>ha x (List.mem_cons_of_mem _ hx)) (λx hx=>hb x (List.mem_cons_of_mem _ hx)) e2]
theorem qR{s:Str}{c:Nat}(hs:cd s=[c]):∀ zs:List Str,cd (PySem.Str.join s zs)=dW c (zs.map cd)
 | []=>rfl
 | [a]=>by simp[PySem.Str.join,dW]
 | a::b::l=>by
  have ih:=qR hs (b::l);show cd (a++s++PySem.Str.join s (b::l))=_;rw[aZ,aZ,hs,ih];simp[dW]
theorem wq{s:Str}{c:Nat}(hs:cd s=[c])(zs:List Str):cd (Txt.join s zs)=dW c (zs.map cd):=by
 show cd (Builtin.Str.glued s zs)=_;rw[StrLaws.glued_eq_join];exact qR hs zs
theorem C8:∀ l:List Str,l.map (bp∘cd)=l:=λl=>by
 induction l with
 | nil=>rfl
 | cons a l ih=>rw[Yp,ih];exact congrArg (·::l) (oP a)
theorem AK{s:Str}{c:Nat}(hs:cd s=[c])(e2:∀ z:Str,∀ p∈Txt.split z s,c∉cd p){ws:List (List Nat)}(h1:ws≠[])(h3:∀ x∈ws,c∉x):Txt.split (bp (dW c ws)) s=ws.map bp:=by
 have e1:PySem.Str.join s (Txt.split (bp (dW c ws)) s)=bp (dW c ws):=StrLaws.join_split _ _;have e3:dW c ((Txt.split (bp (dW c ws)) s).map cd)=dW c ws:=by
  rw[<- qR hs,e1]
 have i6:Txt.split (bp (dW c ws)) s≠[]:=λz=>by
  have:=PyProof.Rows.split_pos (bp (dW c ws)) s;rw[z] at this;exact absurd this (by decide)
 have e4:=uz (a:=(Txt.split (bp (dW c ws)) s).map cd) (b:=ws) (λz=>i6 (ZW.mp z)) h1 (λx hx=>by
  let(p,hp,rfl):=YB.mp hx;exact e2 _ p hp) h3 e3
 have e5:Txt.split (bp (dW c ws)) s=((Txt.split (bp (dW c ws)) s).map cd).map bp:=by
  rw[YF];exact (C8 _).symm
 rw[e4] at e5;exact e5
theorem qN{ws:List (List Nat)}(h1:ws≠[])(h3:∀ x∈ws,32∉x):Txt.split (bp (bc ws)) " "=ws.map bp:=by
 rw[<- Ha];exact AK U (λz=>StrLaws.split_free z 32) h1 h3
theorem DD{ws:List (List Nat)}(h1:ws≠[])(h3:∀ x∈ws,10∉x):Txt.split (bp (dW 10 ws)) "\n"=ws.map bp:=AK U (λz=>StrLaws.split_free z 10) h1 h3
structure Hd where
 nm:Str
 fs:List (Str×Str)
 res:Option Str
def Hd.tl(h:Hd):List D:=match h.res with
 | none=>[]
 | some r=>[.str r]
def Hd.cells(h:Hd):List D:=.str h.nm::.tup (h.fs.map pairD)::h.tl
def kY(h:Hd):D:=.tup h.cells
structure Tb where
 h:Hd
 rows:List (Str×Tm)
def kK(t:Tb):D:=.tup (t.h.cells++[.tup (t.rows.map eG)])
structure Kp where
 asked:Bool
 nm:Str
 heads:List Hd
 tabs:List Tb
def bX(k:Kp):D:=.tup [.str (bG k.asked),.str k.nm,.tup (k.heads.map kY),.tup (k.tabs.map kK)]
structure et(mk:Bool)(h:Hd):Prop where
 nm:Nm h.nm
 fl:h.fs.length<=3
 fs:∀ p∈h.fs,Nm p.1/\rY p.2
 res:if mk=true then h.res=none else ∃ r,h.res=some r/\rY r
def vE(t:Tm):Prop:=t.gt/\t.dep<=11/\t.g7<=9
structure nN(mk:Bool)(t:Tb):Prop where
 h:et mk t.h
 rl:t.rows.length<=5
 rs:∀ r∈t.rows,Nm r.1/\vE r.2
structure dH(k:Kp):Prop where
 nm:Nm k.nm
 hl:k.heads.length<=5
 hs:∀ h∈k.heads,et (!k.asked) h
 tl:k.tabs.length<=5
 ts:∀ t∈k.tabs,nN k.asked t
def Hd.ws(h:Hd):List Str:=h.nm::(h.fs.flatMap λp=>[p.1,p.2])
def Hd.to(h:Hd):List Str:=match h.res with
 | none=>[]
 | some r=>["to",r]
def Hd.c6(h:Hd):List El:=(h.ws++h.to).map .w
def Kp.c6(k:Kp):List El:=.w (bG k.asked)::.w k.nm::k.heads.flatMap λh=>.w "|"::h.c6
def tabS(b:Bool):Str:=if b=true then "tab" else "def"
def ml(r:Str×Tm):List El:=[.w r.1,.w ":",.k r.2]
def Tb.c6(a:Bool)(t:Tb):List El:=.w (tabS a)::(t.h.c6++t.rows.flatMap λr=>.w "|"::ml r)
def Kp.rws(k:Kp):List (List El):=k.c6::k.tabs.map (Tb.c6 k.asked)
def bZ(es:List El):List Nat:=bc (es.map El.T)
theorem uD{a b:List El}(h:a≠[]):bZ (a++b)=bZ a++b.flatMap λe=>32::e.T:=by
 unfold bZ;rw[List.map_append,DX (by simpa using h),List.flatMap_map]
theorem gy(e:El)(b:List El):bZ (e::b)=e.T++b.flatMap λe=>32::e.T:=by
 rw[show e::b=[e]++b from U,uD (by simp)];simp[bZ,bc]
theorem jR{b:List El}(h:b≠[]):(b.flatMap λe=>32::e.T)=32::bZ b:=by
 cases b with
 | nil=>exact absurd U h
 | cons e b =>
  rw[gy,Yt]
  rfl
theorem Ew:∀ (g:List El) (gs:List (List El)),g≠[]->(∀ x∈gs,x≠[])->cd (PySem.Str.join " | " ((g::gs).map λx=>bp (bZ x)))=bZ (g++gs.flatMap λx=>.w "|"::x)
 | g,[],hg,_=>by
  rw[List.flatMap_nil,YA];simp[PySem.Str.join]
 | g,x::gs,hg,h=>by
  have ih:=Ew x gs (h x Ym) λy hy=>h y (Yo _ hy);show cd (bp (bZ g)++" | "++PySem.Str.join " | " ((x::gs).map λx=>bp (bZ x)))=_;rw[aZ,aZ,ih,uD hg,Yt,YT,Yt];have e:(El.w "|"::(x++gs.flatMap λx=>.w "|"::x)).flatMap (λe=>32::e.T)=32::124::32::bZ (x++gs.flatMap λx=>.w "|"::x):=by
   rw[List.flatMap_cons,jR (by simp[h x List.mem_cons_self])]
   rfl
  rw[Yt] at e;rw[e];show bZ g++cd " | "++_=_;rw[show cd " | "=[32,124,32] from U];simp
theorem mq(g:List El)(gs:List (List El))(hg:g≠[])(h:∀ x∈gs,x≠[]):Txt.join " | " ((g::gs).map λx=>bp (bZ x))=bp (bZ (g++gs.flatMap λx=>.w "|"::x)):=by
 refine cJ ?_;show cd (Builtin.Str.glued " | " _)=_;rw[StrLaws.glued_eq_join];exact Ew g gs hg h
theorem uO(ws:List Str):Txt.join " " ws=bp (bZ (ws.map .w)):=by
 refine cJ ?_;rw[lU];show _=bc _;rw[YF]
 rfl
theorem zL{n:Nat}:∀ {es:List El},(∀ e∈es,e.T.length<=n)->(bZ es).length<=(n+1) * es.length
 | [],_=>by simp[bZ,bc]
 | e::es,h=>by
  have h1:=h e Ym;have h2:∀ {l:List El},(∀ e∈l,e.T.length<=n)->(l.flatMap λe=>32::e.T).length<=(n+1) * l.length:=λ{l} h=>by
   induction l with
   | nil=>simp
   | cons a l ih =>
    have h3:=ih λe he=>h e (Yo _ he);have h4:=h a Ym;rw[Yt,Yl,Yv,Yv,Nat.mul_add];cbv
  have h3:=h2 λe he=>h e (Yo _ he);rw[gy,Yl,Yv,Nat.mul_add];cbv
theorem kG:∀ {l:List (Str×Str)},(∀ p∈l,p.1.length<=8/\p.2.length<=8)->((l.flatMap λp=>[p.1,p.2]).map (·.length)).sum<=16 * l.length/\(l.flatMap λp=>[p.1,p.2]).length=2 * l.length
 | [],_=>by simp
 | p::l,h=>by
  let(h1,h2):=kG λq hq=>h q (Yo _ hq);let(h3,h4):=h p Ym;rw[Yt,Yr,Zc,Yl,h2,Yv];simp only[List.map_cons,List.map_nil,List.sum_cons,List.sum_nil,List.length_cons,List.length_nil];cbv
theorem bJ{x:Str}(h:Nm x):x.length<=8:=h.2.2.1
theorem iD{x:Str}(h:rY x):x.length<=8:=by
 rcases h with h | rfl
 .exact bJ h
 .decide
theorem et.BK{b:Bool}{h:Hd}(o:et b h):h.nm.length<=8/\h.fs.length<=3/\∀ p∈h.fs,p.1.length<=8/\p.2.length<=8:=#[bJ o.nm,o.fl,λp hp=>#[bJ (o.fs p hp).1,iD (o.fs p hp).2]]
theorem Gh{h:Hd}(o:h.nm.length<=8/\h.fs.length<=3/\∀ p∈h.fs,p.1.length<=8/\p.2.length<=8):(bZ (h.ws.map .w)).length<=63:=by
 have h1:=(kG o.2.2).2;have h2:=zL (n:=8) (es:=h.ws.map .w) λe he=>by
  let(x,hx,rfl):=YB.mp he;show (cd x).length<=8;rw[eN];rcases Yn.mp hx with rfl | hx
  .exact o.1
  .let(p,hp,hx):=YN.mp hx;rcases Yn.mp hx with rfl | hx
   .exact (o.2.2 p hp).1
   .rw[Yx.mp hx];exact (o.2.2 p hp).2
 have h3:(h.ws.map El.w).length=1+2 * h.fs.length:=by
  show ((h.nm::h.fs.flatMap λp=>[p.1,p.2]).map El.w).length=_;rw[Yk,Yv,h1];cbv
 rw[h3] at h2;have:=o.2.1;cbv
theorem L8{ws:List Str}(hw:ws≠[])(r:Str):bp (bZ (ws.map .w))++" to "++r=bp (bZ ((ws++(["to",r]:List Str)).map .w)):=by
 refine cJ ?_;rw[aZ,aZ,List.map_append,uD (by simpa using hw)];show bZ (ws.map .w)++cd " to "++cd r=bZ (ws.map .w)++((32::cd "to")++((32::cd r)++[]));rw[show cd " to "=32::cd "to"++[32] from U];simp
theorem Mp(x:Str)(t:Tm):x++" : "++bp t.T=bp (bZ (ml (x,t))):=by
 refine cJ ?_;rw[aZ,aZ];show cd x++cd " : "++t.T=cd x++((32::cd ":")++((32::t.T)++[]));rw[show cd " : "=32::cd ":"++[32] from U];simp
theorem cj{α:Type}{g:pQ}{tb:kC}{R:jb}(f:α->D)(I:List α->DS->Prop){l:List α}(h0:∀ s,I l s->R.nx s)(h1:∀ dn x td s (E:jb),l=dn++x::td->I dn s->(∀ s',I (dn++[x]) s'->E.nx s')->(∀ d,R.rt d->E.rt d)->g (f x) s λs1=>tb E s1)(s:DS)(h:I [] s):mT g tb R (l.map f) s:=by
 refine jY (λxs s=>∃ dn td,l=dn++td/\xs=td.map f/\I dn s) ?_ ?_ _ s #[[],l,U,U,h]
 .rintro s ⟨dn,td,e,hx,hi⟩;cases td with
  | nil=>rw[YA] at e;subst e;exact h0 s hi
  | cons a b=>cases hx
 .rintro x xs s E ⟨dn,td,e,hx,hi⟩ hN hE;cases td with
  | nil=>cases hx
  | cons a td =>
   injection hx with e1 e2;subst e1 e2;exact h1 dn a td s E e hi (λs' hs=>hN s' #[dn++[a],td,by rw[e];simp,U,hs]) hE
section
variable{X:Cx}{c:Ent}{a b:Expr}{ta tb:bH}{pos:Pos}
theorem N8{r1 r2:R2}(h1:F4 X r1)(h2:F4 X r2):F4 X λx y H Q=>r1 x y H Q\/r2 x y H Q:=λvalue slice pins s O H x y v u Q I rx ry h hs=>h.elim (λh=>h1 value slice pins s O H x y v u Q I rx ry h hs) λh=>h2 value slice pins s O H x y v u Q I rx ry h hs
def OR:D->D->(D->Prop)->Prop:=λa b k=>∃ ds i d,(a=.tup ds\/a=.lst ds)/\b=.int i/\iz ds i=some d/\k d
theorem OI:sA X c (λx y H Q=>La X.K x y H Q\/AR X.K x y H Q) OR:=λM s as O H x y dx dy k Q L rx ry h kk=>by
 let(ds,i,d,e1,e2,h,hk):=h;rcases e1 with e1 | e1
 .exact .inl (HP M s as O H x y dx dy k Q L rx ry #[ds,i,d,e1,e2,h,hk] kk)
 .exact .inr (HX M s as O H x y dx dy k Q L rx ry #[ds,i,d,e1,e2,h,hk] kk)
theorem OE(ha:DE X c a ta)(hb:DE X c b tb)(hs:iS b:=by exact λ_ _=>rfl):DE X c (.Subscript a b pos) (vS OR ta tb):=AV (N8 EW bO) OI ha hb hs
end
section
open PyProof.Rows
variable{P:Program}{w:World}{K:Frag}{mg:Str->Option Value}{base:Heap}{q:D3}{k nos:Nat}{g:A9}{t:aav}{N:List Str}
theorem Own.n(o:Own K mg q)(S:ao N q.2.2 (ag q.2.1))(len:∀ ds R,t ds R->ds.length=q.2.2.length)(hb:∀ (f:Addr) (a9:Value) (A:Around) (outer:List Env) (s:Shared) (H:Hp) (E:XK) (M:Addr->Prop),cU k (A.deeper (envOfC q.1 (ag q.2.1) ↑s f a9)) ->
   ∃ tb,xT (m9 aD P w K mg base N q.1 (ag q.2.1) f a9 A outer s H E).Ai #[g,M,H] (aS q.2.1) tb/\∀ ds R,t ds R->tb { nx:=λ_=>False,rt:=λ_=>False,rf:=R } (fM N.length nos ds))(hg:g.ju=[]:=by rfl):C4 P w K mg base aD q (k+1) (hZ K g t):=o.c λf fd F=>LZ F S len (hb f) hg
end
theorem GW{α:Type}{x y:α}{r:List α}:iz (x::y::r) 1=some y:=fT (j:=1) U
theorem FE{α:Type}{x y z:α}{r:List α}:iz (x::y::z::r) 2=some z:=fT (j:=2) U
def iH(l:List El)(n:Nat):Prop:=l.length<=n/\∀ e∈l,e.T.length<=1808
theorem iH.len{l:List El}{n:Nat}(h:iH l n):(bZ l).length<=1809 * n:=Yw (zL h.2) (Nat.mul_le_mul_left _ h.1)
theorem iH.app{l r:List El}{m n:Nat}(h:iH l m)(k:iH r n):iH (l++r) (m+n):=#[by rw[Yl];exact Nat.add_le_add h.1 k.1,λe he=>(Yz.mp he).elim (h.2 e) (k.2 e)]
theorem iH.cons{r:List El}{n:Nat}{x:Str}(h:x.length<=8)(k:iH r n):iH (.w x::r) (n+1):=#[by rw[Yv];exact Ze k.1,λe he=>by
 rcases Yn.mp he with rfl | he
 .show (cd x).length<=_;rw[eN];cbv
 .exact k.2 e he]
theorem iH.nil:iH [] 0:=#[Ys _,λ_ h=>by cases h]
theorem iH.ws{l:List Str}{n:Nat}(hl:l.length<=n)(h:∀ x∈l,x.length<=8):iH (l.map .w) n:=#[by rw[Yk];exact hl,λe he=>by
 let(x,hx,rfl):=YB.mp he;show (cd x).length<=_;rw[eN];have:=h x hx;cbv]
theorem iH.flat{α:Type}{f:α->List El}{m:Nat}:∀ {l:List α} {n:Nat},l.length<=n->(∀ x∈l,iH (f x) m)->iH (l.flatMap f) (n * m)
 | [],n,_,_=>#[YO _,λ_ h=>by cases h]
 | x::l,0,h,_=>absurd h (by simp)
 | x::l,n+1,h,k=>by
  rw[Yt,aar,Nat.add_comm];exact (k x Ym).app (iH.flat (aag h) λy hy=>k y (Yo _ hy))
theorem et.HV{b:Bool}{h:Hd}(o:et b h):h.ws.length<=7/\∀ x∈h.ws,x.length<=8:=by
 have hl:=o.BK;refine#[?_,λx hx=>?_]
 .show (_::_).length<=_;rw[Yv,(kG hl.2.2).2];have:=o.fl;cbv
 .rcases Yn.mp hx with rfl | hx
  .exact hl.1
  .let(p,hp,hx):=YN.mp hx;rcases Yn.mp hx with rfl | hx
   .exact (hl.2.2 p hp).1
   .rw[Yx.mp hx];exact (hl.2.2 p hp).2
theorem et.JQ{b:Bool}{h:Hd}(o:et b h):h.to.length<=2/\∀ x∈h.to,x.length<=8:=by
 have hr:=o.res;unfold Hd.to;cases e:h.res with
 | none=>exact#[YO _,λ_ h=>by cases h]
 | some r =>
  refine#[Ys _,λx hx=>?_];rcases Yn.mp hx with rfl | hx
  .decide
  .rw[Yx.mp hx];cases b with
   | true=>rw[if_pos U,e] at hr;cases hr
   | false =>
    rw[if_neg Yy] at hr;let(r',h1,h2):=hr;rw[e] at h1;injection h1 with h1;rw[h1];exact iD h2
theorem et.c6{b:Bool}{h:Hd}(o:et b h):iH h.c6 9:=by
 unfold Hd.c6;refine iH.ws (by rw[Yl];have:=o.HV.1;have:=o.JQ.1;cbv) λx hx=>?_;exact (Yz.mp hx).elim (o.HV.2 x) (o.JQ.2 x)
theorem pU{r:Str×Tm}(h1:Nm r.1)(h2:vE r.2):iH (ml r) 3:=by
 refine iH.cons (bJ h1) (iH.cons (by decide) #[Ys _,λe he=>?_]);rw[Yx.mp he];have:=oY r.2 h2.1;have:=h2.2.2;show r.2.T.length<=_;cbv
theorem wF(b:Bool):(bG b).length<=8:=by cases b<;>decide
theorem G6(b:Bool):(tabS b).length<=8:=by cases b<;>decide
theorem nN.c6{b a:Bool}{t:Tb}(o:nN b t):iH (t.c6 a) 30:=iH.cons (G6 a) (o.h.c6.app (iH.flat o.rl λr hr=>iH.cons (by decide) (pU (o.rs r hr).1 (o.rs r hr).2)))
theorem dH.c6{k:Kp}(o:dH k):iH k.c6 52:=iH.cons (wF _) (iH.cons (bJ o.nm) (iH.flat o.hl λh hh=>iH.cons (by decide) (o.hs h hh).c6))
theorem dH.rws{k:Kp}(o:dH k):k.rws.length<=6/\∀ r∈k.rws,(bZ r).length<=100000:=by
 refine#[?_,λr hr=>?_]
 .show (_::_).length<=_;rw[Yv,Yk];exact Ze o.tl
 .rcases Yn.mp hr with rfl | hr
  .exact Yw o.c6.len (by decide)
  .let(t,ht,rfl):=YB.mp hr;exact Yw (o.ts t ht).c6.len (by decide)
theorem gq{ws:List Str}{n:Nat}(hn:ws.length<=n)(QS:n<=100)(h:∀ x∈ws,x.length<=100000){s:Str}(hs:s.length<=3):(ws.map (·.length)).sum+ws.length * s.length<=16777216:=by
 have h1:∀ {l:List Str},(∀ x∈l,x.length<=100000)->(l.map (·.length)).sum<=l.length * 100000:=λ{l} h=>by
  induction l with
  | nil=>exact Ys _
  | cons a l ih =>
   have:=ih λx hx=>h x (Yo _ hx);have:=h a Ym;rw[Yp,Zi,Yv,aar];cbv
 have h2:=h1 h;have h3:ws.length * s.length<=100 * 3:=Nat.mul_le_mul (Yw hn QS) hs;have h4:ws.length * 100000<=100 * 100000:=Nat.mul_le_mul_right _ (Yw hn QS);cbv
theorem ie{g:List El}{gs:List (List El)}(hl:gs.length<=99)(hg:(bZ g).length<=100000)(h:∀ x∈gs,(bZ x).length<=100000){s:Str}(hs:s.length<=3):(((g::gs).map λx=>bp (bZ x)).map (·.length)).sum+((g::gs).map λx=>bp (bZ x)).length * s.length<=16777216:=by
 refine gq (n:=100) (by rw[Yk,Yv];cbv) (Ys _) (λx hx=>?_) hs;let(y,hy,rfl):=YB.mp hx;rw[bB];rcases Yn.mp hy with rfl | hy
 .exact hg
 .exact h y hy
theorem mi{α:Type}(g:List El)(f:α->List El)(l:List α):[D.lst ([D.str (bp (bZ g))]++l.map λx=>.str (bp (bZ (f x))))]=[D.lst (((g::l.map f).map λx=>bp (bZ x)).map .str)]:=by simp
theorem Ci(a b:Str):a++" "++b=bp (bZ [.w a,.w b]):=by
 refine cJ ?_;rw[aZ,aZ];show _=cd a++((32::cd b)++[]);rw[show cd " "=[32] from U];simp
theorem IV(b:Str):("made ":Str)++b=bp (bZ [.w "made",.w b]):=Ci "made" b
theorem Gv(b:Str):("asked ":Str)++b=bp (bZ [.w "asked",.w b]):=Ci "asked" b
theorem HM{a:Str}{l:List El}(h:l≠[]):a++" "++bp (bZ l)=bp (bZ (.w a::l)):=by
 refine cJ ?_;rw[aZ,aZ,gy,jR h];rw[show cd " "=[32] from U];simp[El.T]
theorem Po{l:List El}(h:l≠[]):("def ":Str)++bp (bZ l)=bp (bZ (.w "def"::l)):=HM (a:="def") h
theorem Ol{l:List El}(h:l≠[]):("tab ":Str)++bp (bZ l)=bp (bZ (.w "tab"::l)):=HM (a:="tab") h
theorem dY.arr{f:Fm}{n:Nat}(h:dY f n):f.ar n=true:=by
 cases f<;>simp only[dY,Fm.ar] at h ⊢
 .simp[h.2]
 .simp[h.2]
 .simp[h.2]
 .simp[h]
 .simp[h.2]
 .simp[h.2.1]
 .simp[h.2.2];exact λa b hab=>Yw (h.2.1.2 _ hab).2.1 (by decide)
 .simp[h.2.2];exact λa b hab=>Yw (h.2.1.2 _ hab).2.1 (by decide)
mutual
theorem zP:∀ t:Tm,t.gt->t.wf=true/\t.size<=1+5 * t.g7
 | .node f ks,h=>by
  let(h1,h2):=Ei ks h.2;have h3:=h.1.Ff;refine#[?_,?_]
  .show (f.ar ks.length&&p5 ks)=true;rw[h.1.arr,h1]
   rfl
  .show aV ks+1<=1+5 * (f.w+dM ks);cbv
theorem Ei:∀ ks:List Tm,kI ks->p5 ks=true/\aV ks<=ks.length+5 * dM ks
 | [],_=>#[U,YO _]
 | t::r,h=>by
  let(h1,h2):=zP t h.1;let(h3,h4):=Ei r h.2;refine#[?_,?_]
  .show (t.wf&&p5 r)=true;rw[h1,h3]
   rfl
  .show t.size+aV r<=(r.length+1)+5 * (t.g7+dM r);cbv
end
def lu:Tm->Option (Bool×Str)
 | .node (.mk x) _=>some (false,x)
 | .node (.ask x) _=>some (true,x)
 | _=>none
def FG(b:Bool):Str:=if b=true then "ask" else "make"
def eV(u:Bool×Str):List Key:=[.inr (FG u.1),.inr u.2]
def Ms:Option (Bool×Str)->D
 | none=>.cw
 | some u=>.tup [.str (FG u.1),.str u.2]
theorem ir{u v:Bool×Str}:eV u=eV v↔u=v:=by
 refine#[λh=>?_,λh=>by rw[h]];let(b,x):=u;let(c,y):=v;simp only[eV,List.cons.injEq,Sum.inr.injEq,and_true] at h;let(h1,h2):=h;subst h2;cases b<;>cases c<;>first | rfl | exact absurd h1 (by decide)
abbrev Cn:=List ((Bool×Str)×Nat)
def GV(l:Cn):D:=.sC (l.map λp=>eV p.1) (l.map λp=>.int p.2)
def lk:Cn->Bool×Str->Nat
 | [],_=>0
 | p::r,u=>if p.1=u then p.2 else lk r u
def pI(l:Cn)(u:Bool×Str):Bool:=l.any λp=>decide (p.1=u)
def bump(l:Cn)(u:Bool×Str):Cn:=if pI l u=true then l.map λp=>if p.1=u then (p.1,lk l u+1) else p else l++[(u,1)]
theorem u0:∀ (l:Cn) (u:Bool×Str),(jy (l.map λp=>eV p.1) (l.map λp=>D.int p.2) (eV u)).getD (.int 0)=.int (lk l u)
 | [],_=>rfl
 | p::r,u=>by
  rw[Yp,Yp,jy,lk];by_cases h:p.1=u
  .rw[if_pos (ir.mpr h),if_pos h]
   rfl
  .rw[if_neg (λz=>h (ir.mp z)),if_neg h];exact u0 r u
theorem JP(l:Cn)(u:Bool×Str):va (l.map λp=>eV p.1) (eV u)=pI l u:=by
 unfold va pI;rw[List.any_map];refine congrArg (List.any l) (funext λp=>?_);exact decide_eq_decide.mpr ir
theorem GJ{l:Cn}{u:Bool×Str}(h:pI l u=false):lk l u=0:=by
 induction l with
 | nil=>rfl
 | cons p r ih =>
  unfold pI at h ih;rw[Zh,Bool.or_eq_false_iff] at h;rw[lk,if_neg (of_decide_eq_false h.1)];exact ih h.2
theorem IP(l:Cn)(u:Bool×Str):D.sC (jD (l.map λp=>eV p.1) (eV u)) (jB (l.map λp=>eV p.1) (l.map λp=>.int p.2) (eV u) (.int ((lk l u:Nat)+1:Int)))=GV (bump l u):=by
 unfold jD jB bump;rw[JP];cases e:pI l u with
 | false =>
  simp only[Bool.false_eq_true,if_false];rw[GJ e];unfold GV;rw[Yr,Yr]
  rfl
 | true =>
  simp only[if_true];unfold GV;have h1:(l.map λp=>if p.1=u then (p.1,lk l u+1) else p).map (λp=>eV p.1)=l.map λp=>eV p.1:=by
   rw[YF];refine Zl λp _=>?_;show eV (if p.1=u then (p.1,lk l u+1) else p).1=_;split<;>rfl
  rw[h1]
  congr 1
  have h2:∀ (r:Cn) (n:Nat),uc (r.map λp=>eV p.1) (r.map λp=>D.int p.2) (eV u) (.int ((n:Nat)+1:Int))=(r.map λp=>if p.1=u then (p.1,n+1) else p).map λp=>D.int p.2:=λr n=>by
   induction r with
   | nil=>rfl
   | cons p r ih =>
    simp only[List.map_cons,uc];rw[ih];by_cases h:p.1=u
    .rw[if_pos (ir.mpr h),if_pos h]
     rfl
    .rw[if_neg (λz=>h (ir.mp z)),if_neg h]
  exact h2 l _
theorem F1(l:Cn)(u v:Bool×Str):lk (bump l u) v=if u=v then lk l u+1 else lk l v:=by
 unfold bump;cases e:pI l u with
 | false =>
  simp only[Bool.false_eq_true,if_false];have h:∀ r:Cn,pI r u=false->lk (r++[(u,1)]) v=if u=v then lk r u+1 else lk r v:=λr hr=>by
   induction r with
   | nil=>simp[lk]
   | cons p r ih =>
    unfold pI at hr ih;rw[Zh,Bool.or_eq_false_iff] at hr;have hp:=of_decide_eq_false hr.1;rw[YT,lk,ih hr.2,lk,lk,if_neg hp];by_cases h:u=v
    .subst h;rw[if_neg hp,if_pos U];simp
    .rw[if_neg h,if_neg h]
  exact h l e
 | true =>
  simp only[if_true];have h:∀ (r:Cn) (n:Nat),pI r u=true->lk (r.map λp=>if p.1=u then (p.1,n) else p) v=if u=v then n else lk r v:=λr n hr=>by
   induction r with
   | nil=>cases hr
   | cons p r ih =>
    rw[Yp,lk];by_cases hp:p.1=u
    .rw[if_pos hp];show (if p.1=v then n else _)=_;rw[hp];by_cases h:u=v
     .rw[if_pos h,if_pos h]
     .rw[if_neg h,if_neg h,lk,hp,if_neg h];have h2:∀ r:Cn,lk (r.map λp=>if p.1=u then (p.1,n) else p) v=lk r v:=λr=>by
       induction r with
       | nil=>rfl
       | cons p r ih =>
        rw[Yp,lk,lk,ih];by_cases hp:p.1=u
        .rw[if_pos hp];show (if p.1=v then n else _)=_;rw[hp,if_neg h,if_neg h]
        .rw[if_neg hp]
      exact h2 r
    .have hr:pI r u=true:=by
      unfold pI at hr ⊢;rw[Zh,decide_eq_false hp,Bool.false_or] at hr;exact hr
     rw[if_neg hp,ih hr,lk];by_cases h:u=v
     .subst h;rw[if_pos U,if_pos U,if_neg hp]
     .rw[if_neg h,if_neg h]
  exact h l _ e
theorem D6(l:Cn)(u:Bool×Str):(bump l u).length<=l.length+1:=by
 unfold bump;split
 .rw[Yk];cbv
 .rw[Yl];exact Ys _
def sO(l:Cn)(us:List (Bool×Str)):Prop:=l.length<=us.length/\∀ u,lk l u=us.count u
theorem sO.nil:sO [] []:=#[Ys _,λ_=>rfl]
theorem sO.bump{l:Cn}{us:List (Bool×Str)}(h:sO l us)(u:Bool×Str):sO (bump l u) (us++[u]):=by
 refine#[by rw[Yl];exact Yw (D6 l u) (Ze h.1),λv=>?_];rw[F1,List.count_append,<- h.2 v];by_cases e:u=v
 .subst e;rw[if_pos U];simp
 .rw[if_neg e];simp[e]
def zi(r:Str×Tm):List (Bool×Str):=r.2.pre.filterMap lu
def Tb.uses(t:Tb):List (Bool×Str):=t.rows.flatMap zi
def Kp.uses(k:Kp):List (Bool×Str):=k.tabs.flatMap Tb.uses
theorem cy{α β:Type}{f:α->List β}{m:Nat}:∀ {l:List α} {n:Nat},l.length<=n->(∀ x∈l,(f x).length<=m)->(l.flatMap f).length<=n * m
 | [],n,_,_=>YO _
 | x::l,0,h,_=>absurd h (by simp)
 | x::l,n+1,h,k=>by
  rw[Yt,aar,Yl];have h1:=cy (f:=f) (aag h) λy hy=>k y (Yo _ hy);have h2:=k x Ym;cbv
theorem wV{r:Str×Tm}(h:vE r.2):(zi r).length<=46:=by
 refine Yw (Z4 _ _) ?_;rw[p8];have:=(zP r.2 h.1).2;have:=h.2.2;cbv
theorem dH.uses{k:Kp}(o:dH k):k.uses.length<=5 * (5 * 46):=cy o.tl λt ht=>cy (o.ts t ht).rl λr hr=>wV ((o.ts t ht).rs r hr).2
def Kp.mK(k:Kp)(b:Bool):List Hd:=if k.asked=b then k.heads else k.tabs.map (·.h)
def Kp.told(k:Kp):List (Bool×Str):=(k.mK false).map (λh=>(false,h.nm))++(k.mK true).map λh=>(true,h.nm)
def Om(l:List (Bool×Str)):D:=.sC (l.map eV) (l.map λ_=>.bl true)
def rp(l us:List (Bool×Str)):Prop:=l.length<=us.length/\l.Nodup/\∀ u,u∈l↔u∈us
theorem rp.nil:rp [] []:=#[Ys _,.nil,λ_=>Iff.rfl]
def Bk(l:List (Bool×Str))(u:Bool×Str):List (Bool×Str):=if u∈l then l else l++[u]
theorem EA(l:List (Bool×Str))(u:Bool×Str):D.sC (jD (l.map eV) (eV u)) (jB (l.map eV) (l.map λ_=>D.bl true) (eV u) (.bl true))=Om (Bk l u):=by
 have hh:va (l.map eV) (eV u)=decide (u∈l):=by
  unfold va;rw[List.any_map,ZF,List.any_eq_true,decide_eq_true_iff];refine#[λ#[x,hx,e]=>?_,λh=>#[u,h,decide_eq_true U]];rw[ir.mp (of_decide_eq_true e)] at hx;exact hx
 unfold jD jB Bk;rw[hh];by_cases h:u∈l
 .rw[decide_eq_true h,if_pos U,if_pos U,if_pos h];have h2:∀ r:List (Bool×Str),uc (r.map eV) (r.map λ_=>D.bl true) (eV u) (.bl true)=r.map λ_=>D.bl true:=λr=>by
   induction r with
   | nil=>rfl
   | cons p r ih =>
    simp only[List.map_cons,uc];rw[ih];split<;>rfl
  rw[h2]
  rfl
 .rw[decide_eq_false h,if_neg Yy,if_neg Yy,if_neg h];unfold Om;rw[Yr,Yr]
  rfl
theorem rp.put{l us:List (Bool×Str)}(h:rp l us)(u:Bool×Str):rp (Bk l u) (us++[u]):=by
 let(h1,h2,h3):=h;unfold Bk;by_cases e:u∈l
 .rw[if_pos e];refine#[by rw[Yl];cbv,h2,λv=>?_];rw[Yz,<- h3 v,Yx];exact#[.inl,λz=>z.elim id λz=>z▸e]
 .rw[if_neg e];refine#[by rw[Yl,Yl];exact Ze h1,?_,λv=>?_]
  .rw[List.nodup_append];exact#[h2,by simp,λa ha b hb=>by rw[List.mem_singleton.mp hb];exact λz=>e (z▸ha)]
  .rw[Yz,Yz,h3 v]
theorem dH.mK{k:Kp}(o:dH k)(b:Bool):(k.mK b).length<=5:=by
 unfold Kp.mK;split
 .exact o.hl
 .rw[Yk];exact o.tl
theorem dH.told{k:Kp}(o:dH k):k.told.length<=10:=by
 unfold Kp.told;rw[Yl,Yk,Yk];have:=o.mK false;have:=o.mK true;cbv
theorem BN{l us ns:List (Bool×Str)}(h:rp l ns):(l.map λu=>us.count u).sum=us.countP λu=>decide (u∈ns):=by
 have h0:us.countP (λu=>decide (u∈ns))=us.countP λu=>decide (u∈l):=congrArg (λf=>List.countP f us) (funext λu=>decide_eq_decide.mpr (h.2.2 u).symm);rw[h0];have hn:=h.2.1;clear h0 h
 induction us with
 | nil =>
  clear hn
  induction l with
  | nil=>rfl
  | cons a l ih=>simpa using ih
 | cons u us ih =>
  rw[List.countP_cons,<- ih];have h1:∀ {l:List (Bool×Str)},l.Nodup->(l.map λv=>(u::us).count v).sum=(l.map λv=>us.count v).sum+if decide (u∈l)=true then 1 else 0:=λ{l} hn=>by
   induction l with
   | nil=>simp
   | cons v l ih =>
    rw[Za] at hn;rw[Yp,Zi,ih hn.2,Yp,Zi,List.count_cons];by_cases e:u=v
    .subst e;simp[hn.1];cbv
    .simp[e];cbv
  exact h1 hn
end DL
namespace DF
open PySem PyProof.Rows
variable{prog:Program}{w:World}{A:Around}{E:aat}{s:Shared}{it d:Addr}{i ep:Nat}{es:Array DictEntry}{od:Obj}
theorem OB:Builtin.Dict_items.ownsTuple "dict_keyiterator"=false:=by decide
theorem M9{Q:aat}(n:(d == sysModules)=false)(g:s.heap.get? d=some od)(c:od.ExactDict)(e:od.data=.dict es ep)(q:Q (.ref ↑s) { s with heap:=s.heap.push { cls:=.type "dict_keyiterator",data:=.fields #v[.ref d,.int 0 0,.int es.size 0,.int ep 0] } }):wpAny (model prog w) A (pyIter (.ref d)) Q E s:=by
 have ty:s.TypeIs (.ref d) "dict":=#[od,g,c.1];refine wpAny_pyIter_slot ty F.slot_dict_iter (wpAny_call_entry F.slot_dict_iter ty F.entry_dict_iter ?_ (F.args_dict_iter_1 _));unfold Builtin.«dict.__iter__»;unfold Builtin.Dict.dictSlotNone;refine wpAny_bind (wpAny_bind (wpAny_notOrdered_dict ty (wpAny_pure ?_)));show wpAny _ _ (Builtin.Dict.showsAll d >>= _) _ _ s;unfold Builtin.Dict.showsAll;rw[if_neg (by rw[n];exact Yy)];refine wpAny_bind (wpAny_pure (wpAny_bind (wpAny_dictEntries g e (wpAny_bind (wpAny_dictEpoch g e ?_)))));exact wpAny_bind (wpAny_newObj_type (wpAny_pure #[_,U,"dict_keyiterator",_,#[_,Heap.get?_push_size _ U,U],F.slot_dict_keyiterator_next.lookup,by simpa [rawInt] using q]))
theorem ON{Q:Option Value->Shared->Prop}(hit:s.heap.IsKeyIter it d i es.size ep)(g:s.heap.get? d=some od)(e:od.data=.dict es ep)(lt:i < es.size)(q:∀ h',h'.IsKeyIter it d (i+1) es.size ep->Heap.SameBut it s.heap h'->Q (some es[i].key) { s with heap:=h' }):wpAny (model prog w) A (pyNext (.ref it)) Q E s:=by
 let(oi,gi,ci,di):=id hit;unfold pyNext;refine wpAny_bind (wpAny_attempt (wpAny_callSpecial?_slot (name:=Str.ofString "__next__") hit.typeIs F.slot_dict_keyiterator_next (wpAny_call_entry F.slot_dict_keyiterator_next hit.typeIs F.entry_dict_keyiterator_next ?_ (F.args_dict_keyiterator_next_1 _))));refine wpAny_bind (wpAny_pure (wpAny_bind (wpAny_bind ?_)))
 first | refine wpAny_bind (wpAny_typeNameOfWhole_keyiter hit.typeIs (wpAny_pure (wpAny_bind (wpAny_fieldsOf gi di ?_)))) | refine wpAny_bind (wpAny_typeNameOf_keyiter hit.typeIs (wpAny_pure (wpAny_bind (wpAny_fieldsOf gi di ?_))))
 simp only[OB,Bool.false_eq_true,if_false];show wpAny _ _ (if (Value.ref d == Value.none)=true then _ else _) _ _ s;rw[if_neg (show ¬ ((Value.ref d == Value.none)=true) from Yy)];refine wpAny_bind (wpAny_pure (wpAny_bind (wpAny_dictEntries g e ?_)));rw[if_neg (by simp)];refine wpAny_bind (wpAny_pure (wpAny_bind (wpAny_dictEpoch g e ?_)));rw[if_neg (by simp)];refine wpAny_pure ?_;simp only[show ¬ ((i:Int) < 0) from by cbv,if_false,Int.toNat_natCast,Array.getElem?_eq_getElem lt];refine wpAny_bind ?_
 first | refine wpAny_bind (wpAny_typeNameOfWhole_keyiter hit.typeIs (wpAny_pure (wpAny_bind (wpAny_isOneOf_keyiter hit.typeIs ?_)))) | refine wpAny_bind (wpAny_typeNameOf_keyiter hit.typeIs (wpAny_pure (wpAny_bind (wpAny_isOneOf_keyiter hit.typeIs ?_))))
 show wpAny _ _ (setField (.ref it) 1 (rawInt ((i:Int)+1)) >>= _) _ _ s;refine wpAny_bind (wpAny_setField gi di (by simp) ?_);have zt:(s.heap.update it (Obj.mapFields (·.setIfInBounds 1 (rawInt ((i:Int)+1))))).IsKeyIter it d (i+1) es.size ep:=#[_,Heap.get?_update_self _ gi (Obj.isFreed_of_fields (Obj.data_mapFields di _)),(Obj.cls_mapFields ..).trans ci,by rw[Obj.data_mapFields di];simp[rawInt]];refine wpAny_bind (wpAny_holding (wpAny_bind (wpAny_isOneOf_keyiter (s:={ s with heap:=s.heap.update it (Obj.mapFields (·.setIfInBounds 1 (rawInt ((i:Int)+1)))) }) zt.typeIs ?_)));show wpAny _ _ (pure es[i].key) _ _ _;exact wpAny_pure (wpAny_pure #[_,U,wpAny_pure (q _ zt (Heap.SameBut.update ..))])
theorem RJ{Q:Option Value->Shared->Prop}(hh:A.handled=none)(hit:s.heap.IsKeyIter it d i es.size ep)(g:s.heap.get? d=some od)(e:od.data=.dict es ep)(ge:es.size<=i)(q:∀ h',Heap.ExtBut it s.heap h'->Q none { s with heap:=h' }):wpAny (model prog w) A (pyNext (.ref it)) Q E s:=by
 let(oi,gi,ci,di):=id hit;unfold pyNext;refine wpAny_bind (wpAny_attempt (wpAny_callSpecial?_slot (name:=Str.ofString "__next__") hit.typeIs F.slot_dict_keyiterator_next (wpAny_call_entry F.slot_dict_keyiterator_next hit.typeIs F.entry_dict_keyiterator_next ?_ (F.args_dict_keyiterator_next_1 _))));refine wpAny_bind (wpAny_pure (wpAny_bind (wpAny_bind ?_)))
 first | refine wpAny_bind (wpAny_typeNameOfWhole_keyiter hit.typeIs (wpAny_pure (wpAny_bind (wpAny_fieldsOf gi di ?_)))) | refine wpAny_bind (wpAny_typeNameOf_keyiter hit.typeIs (wpAny_pure (wpAny_bind (wpAny_fieldsOf gi di ?_))))
 simp only[OB,Bool.false_eq_true,if_false];show wpAny _ _ (if (Value.ref d == Value.none)=true then _ else _) _ _ s;rw[if_neg (show ¬ ((Value.ref d == Value.none)=true) from Yy)];refine wpAny_bind (wpAny_pure (wpAny_bind (wpAny_dictEntries g e ?_)));rw[if_neg (by simp)];refine wpAny_bind (wpAny_pure (wpAny_bind (wpAny_dictEpoch g e ?_)));rw[if_neg (by simp)];refine wpAny_pure ?_;simp only[show ¬ ((i:Int) < 0) from by cbv,if_false,Int.toNat_natCast,Array.getElem?_eq_none ge];refine wpAny_bind ?_
 first | refine wpAny_bind (wpAny_typeNameOfWhole_keyiter hit.typeIs (wpAny_pure ?_)) | refine wpAny_bind (wpAny_typeNameOf_keyiter hit.typeIs (wpAny_pure ?_))
 show wpAny _ _ (setField (.ref it) 0 .none >>= _) _ _ s;refine wpAny_bind (wpAny_setField gi di (by simp) ?_);show wpAny _ _ (newExc (.type "StopIteration") [] >>= _) _ _ _;refine wpAny_bind ?_;simp only[newExc,newTuple];refine wpAny_bind (wpAny_newObj_type (wpAny_bind (m:=firstArgMember _ _) (wpAny_of_eq (a:=Value.none) (by first | rfl | (simp only[firstArgMember];rfl)) (wpAny_newObj_type ?_ (by size_fits)))) (by size_fits));simp only[raiseNew];refine wpAny_bind (wpAny_handled ?_);rw[show A.in1.handled=none from hh];refine wpAny_bind (wpAny_pure (wpAny_throw ?_));refine wpAny_bind (wpAny_isInstance (T:="StopIteration") (b:=true) #[_,YD _ U,U] isSubtype_stop ?_);exact wpAny_pure (q _ (((Heap.SameBut.update ..).extBut.push _).push _))
end DF
namespace L2
open PySem PySem.Spec PyProof.Rows DL
def WC(a:Addr)(o:Obj)(ts:List Addr):It :=
 #[λi H=>(∃ u,H a=some (.iX o u))/\i < ts.length,λi H x H'=>H'=H/\∃ t,ts[i]?=some t/\x=.ref t,λi H=>(∃ u,H a=some (.iX o u))/\ts.length<=i]
theorem y8{P:Program}{w:World}{K:Frag}{tg:Expr}{a it:Addr}{o:Obj}{ts:List Addr}{es:Array DictEntry}{ep:Nat}(e:o.data=.dict es ep)(hk:es.toList.map (·.key)=ts.map Value.ref):Turn P w K tg (WC a o ts) [it] it (λi h=>h.IsKeyIter it a i es.size ep) where
 mem:=by simp
 obj:=λi h st b hb=>by
  obtain rfl:b=it:=by simpa using hb
  let(o,e,c,d):=st;exact#[o,e,λv z=>by rw[d] at z;cases z]
 keep:=λi h h' st k=>by
  let(o,e,r):=st;exact#[o,k it (by simp) o e,r]
 item:=by
  intro X hP hw hK hc i pins s O H E I hf st hg;subst hP hw hK;let((u,hu),hl):=hg;have g:s.heap.get? a=some o:=(I.aN a _ hu).1;let(f0,f1,f2,f3,f4,f5):=hf it (by simp);have hn:es.size=ts.length:=by
   have:=congrArg List.length hk;simpa using this
  have lt:i < es.size:=by cbv
  refine DF.ON st g e lt λh' st' sb=>?_;have I1:Inv X pins O H { s with heap:=h' }:=I.turned (t':=s.toks) (λb o hb e=>(sb.2 b hb).trans e) f0 f1 f3 f4 f5;let(oi,ei,c,d):=id st';have hk2:es[i].key=.ref ts[i]:=by
   have:=congrArg (λl=>l[i]?) hk;simp only[List.getElem?_map,List.getElem?_eq_getElem hl] at this;rw[show es.toList[i]?=some es[i] by simp[lt]] at this;simpa using this
  exact#[_,U,w9 (s:={ s with heap:=h' }) ei c d (by decide) #[.ref ts[i],H,I1,hk2,#[U,ts[i],YY hl,U],st',λb hb=>(hf b hb).1]]
 done:=by
  intro X hP hw hK hc i pins s O H E I hf st hg;subst hP hw hK;let((u,hu),hl):=hg;have g:s.heap.get? a=some o:=(I.aN a _ hu).1;let(f0,f1,f2,f3,f4,f5):=hf it (by simp);have hn:es.size=ts.length:=by
   have:=congrArg List.length hk;simpa using this
  exact DF.RJ (I.ok.hd hc) st g e (by cbv) λh' eb=>#[U,I.turned (t':=s.toks) (λb o hb e=>eb b o hb e) f0 f1 f3 f4 f5]
 self:=λA i s Q E st h=>wpAny_pyIter_keyiter st h
def Ji(tl:TE):TI:=λO H R=>tl O H λv H1=>∃ a o kvs ts,v=.ref a/\H1 a=some (.iX o (.dT kvs))/\vv o ts/\(ts.length<=sizeLine->R (WC a o ts) H1)
section
variable{X:Cx}
theorem EF{tg l:Expr}{tl:TE}(hl:PE X l tl):PI X tg l (Ji tl):=by
 intro pins s O H R I h;refine b9 (hl pins s O H _ I h) λv s1 z=>?_;let(x,H1,I1,r1,a,o,kvs,ts,rfl,e,(hc,es,ep,hd,hk),q):=z;cases r1;let(g,z,y,xs,r,o2,es2,ep2,g2,c2,d2,k2,n2):=(show c8 X.prog X.w H1 s1.heap a (.iX o (.dT kvs)) from I1.aN a _ e);refine DF.M9 y g hc hd ?_;have hz:ts.length<=sizeLine:=by
  rw[g] at g2;cases g2;rw[hd] at d2;cases d2;have h1:=congrArg List.length hk;have h2:=congrArg List.length k2;simp only[List.length_map] at h1 h2;have h3:=Paired.length r;cbv
 exact#[↑s1,[↑s1],_,_,H1,U,I1.kept (t':=s1.toks) λb o e=>Yq _ e,y8 hd hk,#[_,YD _ U,U,U],λb hb=>by
  obtain rfl:b=↑s1:=by simpa using hb
  exact I1.vL (Ys _) (I1.aN.fresh (Ys _)),q hz]
end
end L2
namespace L2
open PySem PySem.Spec DL
open PyProof.Rows hiding St
section
variable{X:Cx}
theorem rQ{α β γ:Type}{F:α->β->Prop}{G:α->γ->Prop}(f:β->γ):∀ {l:List α} {m:List β},Paired F l m->(∀ a b,F a b->G a (f b))->Paired G l (m.map f)
 | _,_,.nil,_=>.nil
 | _,_,.cons r t,k=>.cons (k _ _ r) (rQ f t k)
theorem Inv.iX{pins:aau}{O:St}{H:Hp}{s:Shared}{a:Addr}{kvs:List (List Key×V)}(I:Inv X pins O H s)(h:H a=some (.dT kvs)) :
  ∃ o ts,vv o ts/\Paired (λp t=>H t=some (.tup (p.1.map kV))) kvs ts/\Inv X pins O (upd H a (.iX o (.dT kvs))) s:=by
 let(z,y,xs,r,o,es,ep,g,c,d,k,n):=(show c8 X.prog X.w H s.heap a (.dT kvs) from I.aN a _ h);refine#[o,xs.map (·.2.1),#[c,es,ep,d,by rw[k];simp[entryOfKey]],rQ _ r λp q z=>z.2.1,?_];have I':=Inv.write (x:=a) (e:=a) (o:=.iX o (.dT kvs)) (t':=s.toks) (h':=s.heap) I (by rw[h];exact trivial) (.inl U) (λb u _ e=>e) #[o,g] #[g,z,y,xs,L2.Paired.EI r λp q z=>#[z.1,by
  rw[aq (λe=>by rw[e,h] at z;exact absurd z.2.1 (by intro z;cases z))];exact z.2.1,z.2.2],o,es,ep,g,c,d,k,n]
 exact I'
def Xz(t:TE):TE:=λO H Q=>t O H λv H1=>∃ a kvs,v=.ref a/\H1 a=some (.dT kvs)/\∀ o ts,vv o ts->Paired (λp t=>H1 t=some (.tup (p.1.map kV))) kvs ts->Q v (upd H1 a (.iX o (.dT kvs)))
theorem Mb{e:Expr}{t:TE}(h:PE X e t):PE X e (Xz t):=by
 intro pins s O H Q I h';refine b9 (h pins s O H _ I h') λu s1 z=>?_;let(x,H1,I1,r,a,kvs,rfl,ea,q):=z;let(o,ts,k,p,IF):=I1.iX ea;exact#[_,_,IF,r,q o ts k p]
end
end L2
namespace DL
open PySem PySem.Spec L2
open PyProof.Rows hiding St
section
variable{K:Frag}{c:Ent}{M M' M1:Addr->Prop}{s s' s1:DS}{as:List Addr}{O:St}{H H' H1:Hp}{a q:Addr}{o:HO}
theorem aE.Yb{kvs:List (List Key×V)}(L:aE K c M s as O H)(hq:H q=some (.dT kvs))(nm:¬ M q)(ng:¬ c.g.own q)(nw:¬ d6 s as q)(h0:c.H0 q=none):aE K c M s as O (upd H q o):=by
 have kp:∀ b u,b≠q->H b=some u->upd H q o b=some u:=λb u ne e=>by rw[aq ne];exact e
 have km:∀ b u,M b->H b=some u->upd H q o b=some u:=λb u m e=>kp b u (λz=>nm (z▸m)) e;refine#[#[c.g.loc H _ L.base.lI λb u g e=>kp b u (λz=>g.elim (λg=>ng (z▸g)) λ#[φ,f]=>by subst f;rw[z,hq] at e;cases e) e,λb u e g=>kp b u (λz=>by rw[z,h0] at e;cases e) (L.base.fr b u e g),λb m=>?_,L.base.mo,L.base.m0,L.base.mn],L.len,L.gg,λi e h=>?_,L.own,λl e b h1 h2=>?_,L.inj,L.lt]
 .let(u,e):=L.base.md b m;exact#[u,km b u m e]
 .let(w,h1,h2):=L.dat i e h;exact#[w,h1,Rep.mono (λ_ m=>m) km e w h2]
 .let((u,q1,q2),q3):=L.obj l e b h1 h2;refine#[#[u,kp b u (λz=>?_) q1,q2.mono (λ_ m=>m) km],q3];subst z;exact nw #[l,e,h1,h2]
theorem aE.zO:∀ {ts:List Addr} {M:Addr->Prop},aE K c M s as O H->(∀ t∈ts,∃ xs,H t=some (.tup xs))->aE K c (λb=>M b\/b∈ts) s as O H
 | [],M,L,_=>by
  have e:(λb=>M b\/b∈([]:List Addr))=M:=by funext b;simp
  rw[e];exact L
 | t::ts,M,L,h=>by
  let(xs,e):=h t Ym;have:=(L.Jz e).zO (ts:=ts) λt ht=>h t (Yo _ ht);have e2:(λb=>(M b\/b=t)\/b∈ts)=λb=>M b\/b∈t::ts:=by funext b;simp[or_assoc]
  rw[e2] at this;exact this
end
section
variable{X:Cx}{c:Ent}{e:Expr}{te:bH}
def TM(te:bH):bH:=λs Q=>te s λd s1=>∃ ks vs,d=.sC ks vs/\Q (.BP ks vs) s1
theorem DN.df(h:DN X c e te):DE X c e (TM te):=#[(Mb h.pe).imp λO H Q zz=>d7 zz λM s as R L q k =>
 #[M,s,as,_,L,q,λd s' z M' H' a o L' E ha ro nm ng nw h0 hn=>by
  let(ks,vs,rfl,r):=z;cases o with
  | dT kvs =>
   let(e1,r1):=(show kvs.map (·.1)=ks/\ay X.K H' M' vs (kvs.map (·.2)) from ro);refine#[a,kvs,U,ha,λob ts hk hp=>?_];have i6:∀ t xs,H' t=some (HO.tup xs)->t≠a:=λt xs e z=>by rw[z,ha] at e;cases e
   have hts:∀ t∈ts,∃ xs,H' t=some (HO.tup xs):=by
    intro t ht;clear hk r1 ro e1 ha
    induction hp with
    | nil=>cases ht
    | cons p q ih=>exact (Yn.mp ht).elim (λz=>z▸#[_,p]) ih
   have L1:aE X.K c M' s' as O (upd H' a (.iX ob (.dT kvs))):=L'.Yb ha nm ng nw h0;have L2:=(L1.grown au ng nw h0).zO (ts:=ts) λt ht=>by
    let(xs,e):=hts t ht;exact#[xs,by rw[aq (i6 t xs e)];exact e]
   have kM:∀ b u,M' b->H' b=some u->upd H' a (.iX ob (.dT kvs)) b=some u:=λb u m e=>by
    rw[aq (show b≠a from λz=>nm (z▸m))];exact e
   refine k (.BP ks vs) s' r _ _ (.ref a) L2 ?_ #[a,ob,kvs,ts,U,#[.inl (.inr U),au],hk,?_,e1,ay.mono (λb m=>.inl (.inl m)) kM _ _ r1]
   .refine#[λb m=>.inl (.inl (E.sub b m)),λb m=>?_,λb u e g n=>?_,E.kO]
    .rcases m with (m | rfl) | m
     .exact E.new b m
     .exact .inr (hn.imp .inl id)
     .let(xs,e):=hts b m;cases f:H b with
      | none=>exact .inr (.inl (.inl f))
      | some u =>
       by_cases g:c.g.own b
       .exact absurd e (c.g.nt H' b xs L'.base.lI g)
       .by_cases w:d6 s as b
        .exact .inr (.inr w)
        .have:=E.keep b u f g w;rw[e] at this;cases this;exact .inr (.inl (.inr #[xs,f]))
    .have ne:b≠a:=λz=>by
      subst z;rcases hn with hn | hn
      .rw[hn] at e;cases e
      .exact n hn
     rw[aq ne];exact E.keep b u e g n
   .rw[<- e1];have up:∀ {l:List (List Key×V)} {Qq:List Addr},(∀ t∈Qq,t∈ts)->Paired (λp t=>H' t=some (.tup (p.1.map kV))) l Qq->Paired (λk t=>(((M' t\/t=a)\/t∈ts)/\upd H' a (.iX ob (.dT kvs)) t=some (HO.tup (k.map kV)))) (l.map (·.1)) Qq:=λ{l Qq} hs p=>by
     induction p with
     | nil=>exact .nil
     | cons p q ih=>exact .cons #[.inr (hs _ Ym),by rw[aq (i6 _ _ p)];exact p] (ih λt ht=>hs t (Yo _ ht))
    exact up (λ_ h=>h) hp
  | _=>exact ro.elim]]
end
section
variable{X:Cx}{c:Ent}
theorem qi{α β:Type}{F:α->β->Prop}:∀ {l:List α} {m:List β} {i:Nat} {x:α},Paired F l m->l[i]?=some x->∃ y,m[i]?=some y/\F x y
 | _,_,i,x,.nil,h=>by simp at h
 | _,_,0,x,.cons r t,h=>by
  simp at h;subst h;exact#[_,U,r]
 | _,_,i+1,x,.cons r t,h=>by
  let(y,h1,h2):=qi (i:=i) (x:=x) t (by simpa using h);exact#[y,by simpa using h1,h2]
def N4(k:List Key):D:=.tup (k.map kD)
def Kw(te:bH):gb:=λs Q=>te s λd s1=>∃ ks vs,d=.BP ks vs/\Q (ks.map N4) s1
theorem Hj{tg e:Expr}{te:bH}(he:DE X c e te):DI X c tg e (Kw te):=#[λpins s O H R I zz=>d7 zz λM s0 as R0 L q k=>EF he.pe pins s O H R I
 #[M,s0,as,_,L,q,λd s1 z M1 H1 v L1 E1 rv=>by
  let(ks,vs,rfl,q1):=z;let(a,o,kvs,ts,rfl,(m,h),hk,hp,e1,rr):=rv;have hl:=Paired.length hp;refine#[a,o,kvs,ts,U,h,hk,λhz=>k _ s1 q1 M1 H1 _ L1 E1 (λM2 H2 G=>?_) (by rw[Yk];cbv)];have h2:H2 a=some (.iX o (.dT kvs)):=(G a m).2 _ h;refine#[λi hi=>#[#[_,h2],by rw[Yk] at hi;cbv],λi d hd=>?_];rw[YS] at hd;let(kk,g1,g2):=YK.mp hd;subst g2;let(t,f1,f2,f3):=qi hp g1;let(f4,_):=Yu.mp f1;refine#[#[#[_,h2],f4],λx H3 y=>.inl ?_];let(y1,t',y2,y3):=y;rw[f1] at y2;cases y2;exact#[y1,t,_,y3,#[(G t f2).1,(G t f2).2 _ f3],sX kk]]]
end
end DL
namespace L2
open PySem PySem.Spec
open PyProof.Rows hiding St
section
variable{X:Cx}
theorem uv:∀ {ns:List Nat} {us:List Value},Vals (ns.map λn:Nat=>V.int n) us->∃ l:List (Int×Tok),us=l.map (λp=>Value.int p.1 p.2)/\l.map (·.1)=ns.map λn:Nat=>(n:Int)
 | [],us,h=>by
  cases h;exact#[[],U,U]
 | n::ns,us,h=>by
  cases h with
  | cons r t =>
   let(l,e1,e2):=uv t;let(tk,e):=(show ∃ t,_=Value.int (n:Int) t from r);exact#[((n:Int),tk)::l,by rw[e1,e];rfl,by rw[Yp,e2];rfl]
theorem j4{l:List (Int×Tok)}{ns:List Nat}(h:l.map (·.1)=ns.map λn:Nat=>(n:Int)):∀ k,preSum (numAt l.toArray) k=(((ns.take k).sum:Nat):Int)
 | 0=>by simp[preSum]
 | k+1=>by
  have hk:=j4 h k;have hn:numAt l.toArray k=(((ns[k]?).getD 0:Nat):Int):=by
   have:=congrArg (λl=>l[k]?) h;simp only[List.getElem?_map] at this;unfold numAt;rw[List.getElem?_toArray,this];cases ns[k]?<;>rfl
  rw[preSum,hk,hn,Zz,Zc];cases ns[k]?<;>simp
theorem oJ(ns:List Nat)(k:Nat):(ns.take k).sum<=ns.sum:=by
 have:=congrArg List.sum (List.take_append_drop k ns);rw[Zc] at this;cbv
theorem Cz(hc:X.calm=true):fH X (.builtin "sum") (λxs H Q=>∃ (p:Addr) (ns:List Nat),xs=[.ref p]/\cn X.K H p (ns.map λn:Nat=>V.int n)/\ns.sum<=1000000/\Q (.int (ns.sum:Nat)) H):=by
 intro pins s O H xs us Q I r h;let(p,ns,rfl,hq,hs,q):=h;let(u,rfl,rx):=vals1 r;cases rx;let(its,rv,pl,hz):=I.list hq;let(l,e1,e2):=uv rv;have ei:its.toArray=intItems l.toArray:=by rw[e1];simp[intItems]
 have hll:l.length=ns.length:=by simpa using congrArg List.length e2
 refine sum_intList (xs:=l.toArray) (I.ok.hd hc) (by rw[<- ei];exact pl.isList) (λj hj=>#[?_,?_]) λh' tk t' kp=>?_
 .have hn:numAt l.toArray j=(((ns[j]?).getD 0:Nat):Int):=by
   have:=congrArg (λl=>l[j]?) e2;simp only[List.getElem?_map] at this;unfold numAt;rw[List.getElem?_toArray,this];cases ns[j]?<;>rfl
  have hle:(ns[j]?).getD 0<=ns.sum:=by
   have h1:=oJ ns (j+1);rw[Zz,Zc] at h1;cases e:ns[j]? with
   | none=>exact YO _
   | some v=>rw[e] at h1;simp at h1 ⊢;cbv
  rw[hn];exact#[by cbv,by cbv]
 .rw[j4 e2];have:=oJ ns (j+1);exact#[by cbv,by cbv]
 .have hsum:preSum (numAt l.toArray) l.toArray.size=((ns.sum:Nat):Int):=by
   rw[j4 e2,YH,hll,ZP]
  rw[hsum];exact#[.int (ns.sum:Nat),H,I.kept (t':=tk) kp,#[t',U],q]
end
end L2
namespace DL
open PySem PySem.Spec L2
open PyProof.Rows hiding St
section
variable{X:Cx}{c:Ent}
def RC:aav:=λas k=>∃ ns:List Nat,as=[.lst (ns.map λn:Nat=>D.int n)]/\ns.sum<=1000000/\k (.int (ns.sum:Nat))
theorem xK{K:Frag}{H:Hp}{M:Addr->Prop}:∀ {ns:List Nat} {vs:List V},ay K H M (ns.map λn:Nat=>D.int n) vs->vs=ns.map λn:Nat=>V.int n
 | [],vs,r=>r
 | n::ns,vs,r=>by
  let(x,xr,rfl,r1,r2):=r;have r1:x=.int n:=r1;rw[r1,xK r2,Yp]
theorem MH:AE X c (λxs H Q=>∃ (p:Addr) (ns:List Nat),xs=[.ref p]/\cn X.K H p (ns.map λn:Nat=>V.int n)/\ns.sum<=1000000/\Q (.int (ns.sum:Nat)) H) RC:=λM s as O H xs ds k Q L r h kk=>by
 let(ns,e,hs,hk):=h;subst e;let(v,rfl,p,ys,rfl,(m,h),r'):=cH r;rw[xK r'] at h;exact#[p,ns,U,.of h,hs,kk _ hk M H _ L .refl U]
end
end DL
namespace L2
open PySem PySem.Spec
open PyProof.Rows hiding St
section
variable{X:Cx}{e:Expr}{es:List Expr}{te:TE}{pos:Pos}
abbrev TJ:=Str->St->Hp->(Str->Hp->Prop)->Prop
def PJ(X:Cx)(es:List Expr)(t:TJ):Prop:=∀ (pins:aau) (s:Shared) (O:St) (H:Hp) (acc:Str) (Q:Str->Hp->Prop),Inv X pins O H s->t acc O H Q->Joins (model X.prog X.w) X.A X.xe (evalEach es X.env) acc (λout s1=>∃ H',Inv X pins O H' s1/\Q out H') s
theorem Jn:PJ X [] λacc _ H Q=>Q acc H:=λpins s O H acc Q I h=>#[H,I,h]
theorem Hh{t:TJ}(he:PE X e te)(hr:PJ X es t):PJ X (e::es) λacc O H Q=>te O H λv H1=>∃ y,v=.str y/\(acc++y).length<=sizeLine/\t (acc++y) O H1 Q:=λpins s O H acc Q I h=>b9 (he pins s O H _ I h) λu s1 z=>by
 let(x,H1,I1,r,y,rfl,hl,q):=z;let(t,rfl):=(show ∃ t,u=Value.str y t from r);exact#[y,t,U,hl,hr pins s1 O H1 _ Q I1 q]
theorem A1{e2:Expr}{t:TJ}(h:PJ X (e::e2::es) t):PE X (.JoinedStr (e::e2::es) pos) λO H Q=>t Str.empty O H λout H1=>out.length<=sizeLine/\Q (.str out) H1:=λpins s O H Q I q=>wpAny_JoinedStr (by
 have:=h pins s O H _ _ I q;refine qA this λout s1 z=>?_;let(H1,I1,hl,q1):=z;exact#[hl,.str out,H1,I1.tok _,#[_,U],q1])
where qA {M:Model} {A:Around} {E:aat}:∀ {l:List (Sem Value)} {acc:Str} {Q Q':Str->Shared->Prop} {s:Shared},Joins M A E l acc Q s->(∀ o s,Q o s->Q' o s)->Joins M A E l acc Q' s
 | [],acc,Q,Q',s,h,k=>k _ _ h
 | x::l,acc,Q,Q',s,h,k=>b9 (show wpAny M A x _ E s from h) λv s1 z=>by
  let(y,t,e,hl,q):=z;exact#[y,t,e,hl,qA q k]
def Rq(te:TE):TE:=λO H Q=>te O H λv H1=>(∃ i:Int,v=.int i/\i.natAbs.log2 < 1920/\Q (.str (toString i)) H1)\/∃ x,v=.str x/\x.length<=sizeLine/\Q (.str x) H1
theorem Jf(he:PE X e te):PE X (.FormattedValue e (-1) none pos) (Rq te):=λpins s O H Q I h=>wpAny_FormattedValue_plain (b9 (he pins s O H _ I h) λu s1 z=>by
 let(v,H1,I1,r,z):=z;rcases z with ⟨i,rfl,hi,q⟩ | ⟨x,rfl,hx,q⟩
 .let(t,rfl):=(show ∃ t,u=Value.int i t from r);exact wpAny_formatField_int hi #[.str (toString i),H1,I1.tok _,#[_,U],q]
 .let(t,rfl):=(show ∃ t,u=Value.str x t from r);exact wpAny_formatField_str #[.str x,H1,I1,#[_,U],q] #[.str x,H1,I1.tok _,#[_,U],q] hx)
end
end L2
namespace DL
open PySem PySem.Spec L2
open PyProof.Rows hiding St
section
variable{X:Cx}{c:Ent}{e:Expr}{es:List Expr}{te:bH}{pos:Pos}
abbrev Io:=Str->DS->(Str->DS->Prop)->Prop
def XC(K:Frag)(c:Ent)(t:Io):TJ:=λacc O H Q=>∃ M s as R,aE K c M s as O H/\t acc s R/\∀ o s',R o s'->∀ M' H',aE K c M' s' as O H'->Ext c as M s H M' s' H'->Q o H'
structure DJ(X:Cx)(c:Ent)(es:List Expr)(t:Io):Prop where
 pj:PJ X es (XC X.K c t)
def NQ:Io:=λacc s Q=>Q acc s
def Jr(te:bH)(t:Io):Io:=λacc s Q=>te s λd s1=>∃ y,d=.str y/\(acc++y).length<=sizeLine/\t (acc++y) s1 Q
theorem JI:DJ X c [] NQ:=#[λpins s O H acc Q I zz=>d7 zz λM s0 as R L q k=>Jn pins s O H acc Q I (k acc s0 q M H L .refl)]
theorem kj{t:Io}(he:DE X c e te)(hr:DJ X c es t):DJ X c (e::es) (Jr te t):=#[λpins s O H acc Q I zz=>d7 zz λM s0 as R L q k=>Hh he.pe hr.pj pins s O H acc Q I
 #[M,s0,as,_,L,q,λd s1 z M1 H1 v L1 E1 rv=>by
  let(y,rfl,hl,q1):=z;exact#[y,rv,hl,M1,s1,as,_,L1,q1,λo s2 r M2 H2 L2 E2=>k o s2 r M2 H2 L2 (E1.trans L1.base E2)]]]
def K5(t:Io):bH:=λs Q=>t Str.empty s λo s1=>o.length<=sizeLine/\Q (.str o) s1
theorem Eh{e2:Expr}{t:Io}(h:DJ X c (e::e2::es) t):DE X c (.JoinedStr (e::e2::es) pos) (K5 t):=#[(A1 h.pj).imp λO H Q zz=>d7 zz λM s as R L q k =>
 #[M,s,as,_,L,q,λo s1 z M1 H1 L1 E1=>#[z.1,k _ s1 z.2 M1 H1 _ L1 E1 U]]]
def Si:D->(D->Prop)->Prop:=λd k=>(∃ i:Int,d=.int i/\i.natAbs.log2 < 1920/\k (.str (toString i)))\/∃ x,d=.str x/\x.length<=sizeLine/\k (.str x)
theorem CC(he:DE X c e te):DE X c (.FormattedValue e (-1) none pos) (T6 Si te):=#[(Jf he.pe).imp λO H Q zz=>d7 zz λM s as R L q k =>
 #[M,s,as,_,L,q,λd s1 z M1 H1 v L1 E1 rv=>by
  rcases z with ⟨i,rfl,hi,r⟩ | ⟨x,rfl,hx,r⟩
  .exact .inl #[i,rv,hi,k _ s1 r M1 H1 _ L1 E1 U]
  .exact .inr #[x,rv,hx,k _ s1 r M1 H1 _ L1 E1 U]]]
end
end DL
namespace DL
open PySem L2
def nS(k o:Kp):Nat:=k.uses.countP λu=>decide (u∈o.told)
theorem Cq{k o:Kp}(h:dH k):nS k o<=1150:=Yw (List.countP_le_length) h.uses
def LW(l:List (Bool×Str)):D:=.BP (l.map eV) (l.map λ_=>.bl true)
theorem rN{α β:Type}{F:α->β->Prop}(f:α->D)(g:β->D):∀ {ps:List α} {ls:List β},Paired F ps ls->(ps.zip ls).map (·.1)=ps/\(∀ p∈ps.zip ls,F p.1 p.2)/\pB (ps.map f) (ls.map g)=(ps.zip ls).map λp=>.tup [f p.1,g p.2]
 | _,_,.nil=>#[U,λ_ h=>(nomatch h),U]
 | _,_,.cons r t=>by
  let(h1,h2,h3):=rN f g t;refine#[?_,λp hp=>?_,?_]
  .rw[ZH,Yp,h1]
  .rw[ZH] at hp;rcases Yn.mp hp with rfl | hp
   .exact r
   .exact h2 p hp
  .rw[ZH,Yp,Yp,Yp,<- h3]
   rfl
theorem Gm{k o:Kp}{l:Cn}{n:List (Bool×Str)}(hl:sO l k.uses)(hn:rp n o.told):(n.map λu=>lk l u).sum=nS k o:=by
 rw[show (n.map λu=>lk l u)=n.map λu=>k.uses.count u from Zl λu _=>hl.2 u];exact BN hn
def ny(ps:List Kp):List (Kp×Kp):=ps.flatMap λk=>ps.map λo=>(k,o)
def Vk(p:Kp×Kp):D:=.tup [bX p.1,bX p.2,.int (nS p.1 p.2:Nat)]
theorem G5(ps:List Kp):(ps.flatMap λk=>ps.map λo=>D.tup [bX k,bX o,.int (nS k o:Nat)])=(ny ps).map Vk:=by
 unfold ny;rw[aak];refine congrArg (λf=>List.flatMap f ps) (funext λk=>?_);rw[YF]
 rfl
def cC(p:Kp×Kp):Bool:=(p.1.asked != p.2.asked)&&decide (0 < nS p.1 p.2)
def mO(p:Kp×Kp):Str×Str×Nat:=(p.1.nm,p.2.nm,nS p.1 p.2)
def dw(ps:List Kp):List (Str×Str×Nat):=((ny ps).filter cC).map mO
def jz(x:Str×Str×Nat):D:=.tup [.str x.1,.str x.2.1,.int (x.2.2:Nat)]
def jv(x:Str×Str×Nat):Str:="cross "++x.1++" "++x.2.1++" "++eL (x.2.2:Nat)
def qp(ps:List Kp):List Str:=(ps.flatMap λk=>k.rws.map λr=>bp (bZ r))++(dw ps).map jv
def kU(ps:List Kp):Prop:=ps.length<=5/\∀ k∈ps,dH k
structure Qr(x:Str×Str×Nat):Prop where
 a:Nm x.1
 b:Nm x.2.1
 n:x.2.2<=1150
theorem C9{ps:List Kp}(h:kU ps):(ny ps).length<=25/\∀ p∈ny ps,dH p.1/\dH p.2:=by
 refine#[cy (m:=5) h.1 λx _=>by rw[Yk];exact h.1,λp hp=>?_];let(k,hk,hp):=YN.mp hp;let(o,ho,rfl):=YB.mp hp;exact#[h.2 k hk,h.2 o ho]
theorem fY{ps:List Kp}(h:kU ps):(dw ps).length<=25/\∀ x∈dw ps,Qr x:=by
 let(h1,h2):=C9 h;refine#[?_,λx hx=>?_]
 .unfold dw;rw[Yk];exact Yw (ZN _ _) h1
 .let(p,hp,rfl):=YB.mp hx;let(o1,o2):=h2 p (List.mem_filter.mp hp).1;exact#[o1.nm,o2.nm,Cq o1]
theorem rC{x:Str×Str×Nat}(h:Qr x):(jv x).length<=40:=by
 have h1:=bJ h.a;have h2:=bJ h.b;have h3:=jK (i:=((x.2.2:Nat):Int)) (by cbv) (by have:=h.n;cbv);unfold jv;simp only[Str.length_append];have e6:("cross ":Str).length=6:=rfl;have e1:(" ":Str).length=1:=rfl;cbv
theorem mW{ps:List Kp}(h:kU ps):(qp ps).length<=55/\∀ x∈qp ps,x.length<=100000:=by
 let(h1,h2):=fY h;refine#[?_,λx hx=>?_]
 .unfold qp;rw[Yl,Yk];have:=cy (f:=λk:Kp=>k.rws.map λr=>bp (bZ r)) (m:=6) h.1 λk hk=>by
   rw[Yk];exact (h.2 k hk).rws.1
  cbv
 .rcases Yz.mp hx with hx | hx
  .let(k,hk,hx):=YN.mp hx;let(r,hr,rfl):=YB.mp hx;rw[bB];exact (h.2 k hk).rws.2 r hr
  .let(y,hy,rfl):=YB.mp hx;exact Yw (rC (h2 y hy)) (by decide)
theorem empty_app(x:Str):Str.empty++x=x:=by
 refine cJ ?_;rw[aZ]
 rfl
end DL
namespace L2
open PySem PySem.Spec PyProof.Rows
def pM{α:Type}:List α->List α
 | []=>[]
 | [x]=>[x]
 | x::_::r=>x::pM r
theorem sZ{α:Type}:∀ l:List α,(List.range ((l.length+1) / 2)).filterMap (λi=>l[2 * i]?)=pM l
 | []=>by simp[pM]
 | [x]=>by simp[pM,List.range_succ]
 | x::y::r=>by
  have ih:=sZ r;rw[show ((x::y::r).length+1) / 2=(r.length+1) / 2+1 by simp only[List.length_cons];cbv,List.range_succ_eq_map,List.filterMap_cons];show x::_=x::_;rw[<- ih,Z1];refine congrArg (x::·) (congrArg (λf=>List.filterMap f _) (funext λi=>?_));show (x::y::r)[2 * (i+1)]?=r[2 * i]?;rw[show 2 * (i+1)=2 * i+1+1 by cbv]
  rfl
theorem vB{α β:Type}(f:α->β):∀ l:List α,pM (l.map f)=(pM l).map f
 | []=>rfl
 | [x]=>rfl
 | x::y::r=>by
  show f x::pM (r.map f)=_;rw[vB f r]
  rfl
theorem EE(items:Array Value)(a:Nat):slicePick items (some a) none (some 2)=(pM (items.toList.drop a)).toArray:=by
 have hb:sliceBounds (some (a:Int)) none (some 2) items.size=(((min a items.size:Nat):Int),(items.size:Int),2):=by
  unfold sliceBounds;refine Prod.ext ?_ U;show (if (2:Int) > 0 then max 0 (min (if (a:Int) < 0 then (a:Int)+items.size else a) (items.size:Int)) else max (-1) (min (if (a:Int) < 0 then (a:Int)+items.size else a) ((items.size:Int) - 1)))=_;rw[if_pos (by decide),if_neg (by cbv)];cbv
 unfold slicePick;rw[hb];show ((sliceRange ((min a items.size:Nat):Int) (items.size:Int) 2).filterMap (items[·]?)).toArray=_;refine congrArg List.toArray ?_;rw[<- sZ];unfold sliceRange;simp only[show (2:Int) > 0 by decide,if_true];rw[Z1];have hc:(if ((min a items.size:Nat):Int) < (items.size:Int) then ((items.size:Int) - ((min a items.size:Nat):Int)+2 - 1) / 2 else 0).toNat=((items.toList.drop a).length+1) / 2:=by
  rw[ZO,ZV];split<;>cbv
 rw[hc];refine congrArg (λf=>List.filterMap f _) (funext λk=>?_);show items[(((min a items.size:Nat):Int)+2 * (k:Int)).toNat]?=(items.toList.drop a)[2 * k]?;rw[List.getElem?_drop,show (((min a items.size:Nat):Int)+2 * (k:Int)).toNat=min a items.size+2 * k by cbv,ZM];by_cases h:a<=items.size
 .rw[Nat.min_eq_left h]
 .rw[aaf (by cbv),aaf (by cbv)]
def Rt(K:Frag)(te:TE)(a:Nat):TE:=λO H Q=>te O H λx H1=>∃ p xs,x=.ref p/\cn K H1 p xs/\∀ l,H1 l=none->Q (.ref l) (upd H1 l (.lst (pM (xs.drop a))))
theorem xC:∀ {xs:List V} {us:List Value},Vals xs us->Vals (pM xs) (pM us)
 | [],_,h=>by cases h;exact .nil
 | [x],_,h=>by
  cases h with
  | cons r t=>cases t;exact .cons r .nil
 | x::y::xs,_,h=>by
  cases h with
  | cons r t=>cases t with
   | cons q t=>exact .cons r (xC t)
theorem zy{α:Type}:∀ l:List α,(pM l).length<=l.length
 | []=>Ys _
 | [x]=>Ys _
 | x::y::r=>by
  have:=zy r;show (pM r).length+1<=r.length+2;cbv
section
variable{X:Cx}
theorem Ko{e lo st:Expr}{te:TE}{a:Nat}{p2 pos:Pos}(he:PE X e te)(QK:PE X lo (tC (.int a)))(kX:PE X st (tC (.int 2))):PE X (.Subscript e (.Slice (some lo) none (some st) p2) pos) (Rt X.K te a):=by
 intro pins s O H Q I h;refine Subscript_ (b9 (he pins s O H _ I h) λv s1 z=>?_);let(x,H1,I1,r1,p,xs,rfl,hq,q):=z;cases r1;refine wpAny_Slice ?_;rw[evalPart_some];refine b9 (QK pins s1 O H1 (λv H2=>v=.int a/\H2=H1) I1 #[U,U]) λu s2 z=>?_;let(y,H2,I2,r2,rfl,rfl):=z;let(t,rfl):=r2;rw[evalPart_none];refine wpAny_pure ?_;rw[evalPart_some];refine b9 (kX pins s2 O H2 (λv H3=>v=.int 2/\H3=H2) I2 #[U,U]) λu s3 z=>?_;let(y,H3,I3,r3,rfl,rfl):=z;let(t3,rfl):=r3;let(its,r,ht,hz):=I3.list hq;have hlen:=r.length;have I4:Inv X pins O H3 { s3 with heap:=s3.heap.push { cls:=.type "slice",data:=.fields #v[.int a t,.none,.int 2 t3] } }:=I3.kept (t':=s3.toks) λb ob q=>Yq _ q;show wpAny (model X.prog X.w) X.A (subscriptTail e (.Slice (some lo) none (some st) p2) (.ref p) (.ref ↑s3)) (EP X pins O Q) X.xe { s3 with heap:=s3.heap.push { cls:=.type "slice",data:=.fields #v[.int a t,.none,.int 2 t3] } };refine tail_any (ops:=[.ref p,.ref ↑s3]) (ht.isList.push _).typeIs slot_list_getitem.lookup ?_ (by with_unfolding_all rfl);refine wpAny_getItem_list_slice (ht.isList.push _) (Heap.IsSliceOf.new ..) (.int a t) .none (.int 2 t3) (by decide) ?_ (by rw[YH];cbv);rw[EE];refine#[.ref _,_,I4.laid (t':=s3.toks) (o:=.lst (pM (xs.drop a))) (λb ob q=>Yq _ q) (Ys _) ?_,U,q _ (I4.aN.fresh (Ys _))];exact#[Yw (zy _) (by rw[ZO];cbv),_,0,xC (r.drop a),YD _ U]
end
end L2
namespace DL
open PySem PySem.Spec L2
open PyProof.Rows hiding St
section
variable{X:Cx}{c:Ent}{e lo st:Expr}{te:bH}{p2 pos:Pos}
theorem ay.pM{K:Frag}{H:Hp}{M:Addr->Prop}:∀ {ds:List D} {vs:List V},ay K H M ds vs->ay K H M (L2.pM ds) (L2.pM vs)
 | [],_,r=>by
  have r:_=[]:=r;rw[r]
  rfl
 | [d],_,r=>by
  let(x,xr,rfl,r1,r2):=r;have r2:xr=[]:=r2;subst r2;exact#[x,[],U,r1,U]
 | d::e::ds,_,r=>by
  let(x,xr,rfl,r1,y,yr,rfl,r2,r3):=r;exact#[x,_,U,r1,ay.pM r3]
def Rj(a:Nat):D->(D->Prop)->Prop:=λd k=>∃ ds,d=.lst ds/\k (.lst (pM (ds.drop a)))
theorem Ic(a:Nat)(he:DE X c e te)(QK:PE X lo (tC (.int a)))(kX:PE X st (tC (.int 2))):DN X c (.Subscript e (.Slice (some lo) none (some st) p2) pos) (T6 (Rj a) te):=#[(Ko he.pe QK kX).imp λO H Q zz=>d7 zz λM s as R L q k =>
 #[M,s,as,_,L,q,λd s1 z M1 H1 v L1 E1 rv=>by
  let(ds,rfl,q1):=z;let(p,xs,rfl,(m,t),r):=rv;exact#[p,xs,U,.of t,λb hb=>j5 (d:=.lst _) L L1 E1 hb (r.drop a).pM (k _ s1 q1)]]]
end
end DL
namespace DL
open PySem L2
theorem Ac:∀ fs:List (Str×Str),pM (fs.flatMap λp=>[p.1,p.2])=fs.map (·.1)
 | []=>rfl
 | p::r=>by
  rw[Yt,Yp,<- Ac r]
  rfl
theorem Af:∀ fs:List (Str×Str),pM ((fs.flatMap λp=>[p.1,p.2]).drop 1)=fs.map (·.2)
 | []=>rfl
 | [p]=>rfl
 | p::q::r=>by
  rw[Yp,<- Af (q::r)]
  rfl
theorem zK:∀ fs:List (Str×Str),pB ((fs.map (·.1)).map .str) ((fs.map (·.2)).map .str)=fs.map pairD
 | []=>rfl
 | p::r=>by
  rw[Yp,Yp,Yp,Yp,Yp,<- zK r]
  rfl
theorem CI(h:Hd):(h.ws.map D.str).length=2 * h.fs.length+1:=by
 have:∀ l:List (Str×Str),(l.flatMap λp=>[p.1,p.2]).length=2 * l.length:=λl=>by
  induction l with
  | nil=>rfl
  | cons p l ih =>
   rw[Yt,Yl,ih];show 2+_=2 * (l.length+1);cbv
 rw[Yk];show (_::_).length=_;rw[Yv,this]
theorem A2{α:Type}(xs:List α)(a b:α):iz (xs++[a,b]) (-2)=some a:=by
 have e:xZ (xs++[a,b]).length (-2)=some xs.length:=by
  have hl:(xs++[a,b]).length=xs.length+2:=by simp
  unfold xZ;rw[hl,if_neg (by decide),if_pos (by cbv)]
  congr 1
  cbv
 unfold iz;rw[e];show (xs++[a,b])[xs.length]?=some a;simp
theorem Bo{α:Type}(xs:List α)(a b:α):iz (xs++[a,b]) (-1)=some b:=by
 have:=ft (xs++[a]) b;rw[YI] at this;exact this
theorem yc(xs:List D)(a b:D):cutD (xs++[a,b]) none (some (-2))=xs:=by
 have hl:(xs++[a,b]).length=xs.length+2:=by simp
 unfold cutD;rw[hl];rw[show HT.cz (xs.length+2) (xs.length+2) (some (-2))=xs.length from by
  show (if (-2:Int) < 0 then ((-2:Int)+((xs.length+2:Nat):Int)).toNat else min (-2:Int).toNat (xs.length+2))=_;rw[if_pos (by decide)];cbv,show HT.cz (xs.length+2) 0 none=0 from U,ZA,Z3,List.take_left]
end DL
namespace DL
open PySem PySem.Spec L2
open PyProof.Rows hiding St
section
variable{X:Cx}{c:Ent}
def J6(to:bH)(t:gb):bH:=λs Q=>to s λa s1=>∃ z,a=.str z/\t s1 λds s2=>∃ y,ds=[.str y]/\(y.length == 0)=false/\z.length+2<=sizeLine/\(Txt.split z y).length<=sizeLine/\Q (.lst ((Txt.split z y).map .str)) s2
theorem As{o e:Expr}{es:List Expr}{to:bH}{t:gb}{apos cB:Pos}(ho:DE X c o to)(ha:DA X c (e::es) t)(iu:attributeBase o "split" X.env (eval o X.env)=eval o X.env:=by rfl)(u6:((backTo cB (starEach (e::es) X.env)).all (λx=>!x.1)&&(backToKw cB (keywordEach [] X.env)).all (λx=>x.1.isSome)
   && decide ((e::es).length+([]:List Keyword).length+(if ([]:List Keyword).isEmpty then 0 else 1) < 30))=true:=by rfl)(gW:(apos.endLine == cB.line)=true:=by rfl)(hs:aaw X.env e es:=by rfl)(iK:(backTo cB (starEach es X.env)).any (·.1)=false:=by rfl) :
  DN X c (.Call (.Attribute o "split" apos) (e::es) [] cB) (J6 to t):=#[(gx Zp Zq PySem.F.type_str_split v8 ho.pe ha.pa iu u6 gW hs iK).imp λO H Q zz=>d7 zz λM s as R L q kk=>by
 refine#[M,s,as,_,L,q,λd s1 z M1 H1 v L1 E1 rv=>?_];let(z,rfl,q1):=z;cases (show v=.str z from rv);refine#[U,M1,s1,as,_,L1,q1,λds s2 y M2 H2 vs Lb E2 rvs hl=>?_];let(y,rfl,h1,h2,h3,q2):=y;let(u,rfl,e):=cH rvs;cases (show u=.str y from e);exact#[z,y,U,U,h1,h2,h3,λp hp=>j5 (d:=.lst _) L Lb (E1.trans L1.base E2) hp (gm _) (kk _ s2 q2)]]
end
end DL
namespace DL
open PySem L2
def Fh(e:El):Prop:=wk e/\P9 e
theorem US{x:Str}(h:pD (cd x)):P9 (.w x):=#[by simp[El.ws],by simp[El.ws,bc,El.T],λy hy=>by
 rw[show El.ws (.w x)=[cd x] from U,Yx] at hy;rw[hy];exact λz=>(h.2 32 z).1 U]
theorem rO{x:Str}(h:pD (cd x)):Fh (.w x):=#[goodW h,US h]
theorem O7{t:Tm}(h:t.gt):Fh (.k t):=#[HG t.size t (Ys _) h,Wn t.size t (Ys _) h]
theorem zI{es:List El}(i6:es≠[])(h:∀ e∈es,Fh e):es.flatMap El.ws≠[]/\bc (es.flatMap El.ws)=bZ es/\∀ x∈es.flatMap El.ws,32∉x:=by
 let(h1,h2):=WI λe he=>(h e he).2;have h3:=(FJ es i6 λe he=>(h e he).1).1;refine#[h3,?_,h2];have h4:=ku h3;rw[h1,jR i6] at h4;injection h4 with _ h4;exact h4.symm
theorem FQ{es:List El}(i6:es≠[])(h:∀ e∈es,Fh e):Run [[]] (es.flatMap El.ws) [es.map El.it]:=by
 have:=(FJ es i6 λe he=>(h e he).1).2 [] [] 0 [es.map El.it] [] [es.map El.it] .zero .nil;rw[nE,YA] at this;exact this
theorem xf{b:Bool}{h:Hd}(o:et b h):∀ e∈h.c6,Fh e:=by
 intro e he;let(x,hx,rfl):=YB.mp he;refine rO ?_;rcases Yz.mp hx with hx | hx
 .rcases Yn.mp hx with rfl | hx
  .exact eM o.nm
  .let(p,hp,hx):=YN.mp hx;rcases Yn.mp hx with rfl | hx
   .exact eM (o.fs p hp).1
   .rw[Yx.mp hx];exact p0 (o.fs p hp).2
 .have hr:=o.res;unfold Hd.to at hx;cases e:h.res with
  | none=>rw[e] at hx;cases hx
  | some r =>
   rw[e] at hx;rcases Yn.mp hx with rfl | hx
   .decide
   .rw[Yx.mp hx];cases b with
    | true=>rw[if_pos U,e] at hr;cases hr
    | false =>
     rw[if_neg Yy] at hr;let(r',h1,h2):=hr;rw[e] at h1;injection h1 with h1;rw[h1];exact p0 h2
theorem BW{r:Str×Tm}(h1:Nm r.1)(h2:r.2.gt):∀ e∈ml r,Fh e:=by
 intro e he;simp only[ml,List.mem_cons,List.not_mem_nil,or_false] at he;rcases he with rfl | rfl | rfl
 .exact rO (eM h1)
 .exact rO (by decide)
 .exact O7 h2
theorem xu:Fh (.w "|"):=rO (by decide)
theorem dH.good{k:Kp}(o:dH k):∀ r∈k.rws,r≠[]/\∀ e∈r,Fh e:=by
 intro r hr;rcases Yn.mp hr with rfl | hr
 .refine#[ZQ _ _,λe he=>?_];rcases Yn.mp he with rfl | he
  .exact rO (by cases k.asked<;>decide)
  .rcases Yn.mp he with rfl | he
   .exact rO (eM o.nm)
   .let(h,hh,he):=YN.mp he;rcases Yn.mp he with rfl | he
    .exact xu
    .exact xf (o.hs h hh) e he
 .let(t,ht,rfl):=YB.mp hr;have ot:=o.ts t ht;refine#[ZQ _ _,λe he=>?_];rcases Yn.mp he with rfl | he
  .exact rO (by cases k.asked<;>decide)
  .rcases Yz.mp he with he | he
   .exact xf ot.h e he
   .let(r,hr,he):=YN.mp he;rcases Yn.mp he with rfl | he
    .exact xu
    .exact BW (ot.rs r hr).1 (ot.rs r hr).2.1 e he
def qj(w0 x:Str):Prop:=∃ ws,x=bp (bc (cd w0::ws))/\(∀ y∈cd w0::ws,32∉y)/\x.length<=100000
theorem AX:∀ l:List (List Nat),l.length<=(bc l).length+1
 | []=>YO _
 | a::l=>by
  have h:∀ l:List (List Nat),l.length<=(l.flatMap (32::·)).length:=λl=>by
   induction l with
   | nil=>exact Ys _
   | cons b l ih =>
    rw[Yt,Yl,Yv,Yv];cbv
  have:=h l;show l.length+1<=(a++l.flatMap (32::·)).length+1;rw[Yl];cbv
theorem Ld{k:Kp}(o:dH k):∀ r∈k.rws,∃ w0:Str,w0≠"cross"/\qj w0 (bp (bZ r)):=by
 intro r hr;let(g1,g2):=o.good r hr;let(h1,h2,h3):=zI g1 g2;have h4:=o.rws.2 r hr;rcases Yn.mp hr with rfl | hr
 .refine#[bG k.asked,by cases k.asked<;>decide,_,by rw[<- h2];rfl,h3,by rw[bB];exact h4]
 .let(t,ht,rfl):=YB.mp hr;exact#[tabS k.asked,by cases k.asked<;>decide,_,by rw[<- h2];rfl,h3,by rw[bB];exact h4]
theorem Qh{x:Str×Str×Nat}(o:Qr x):qj "cross" (jv x):=by
 have h1:=eM o.a;have h2:=eM o.b;have h3:=pY (i:=((x.2.2:Nat):Int)) (by cbv);refine#[[cd x.1,cd x.2.1,cd (eL (x.2.2:Nat))],?_,?_,Yw (rC o) (by decide)]
 .refine cJ ?_;unfold jv;simp only[aZ];rw[show cd "cross "=cd "cross"++[32] from U,show cd " "=[32] from U];simp[bc]
 .intro y hy;simp only[List.mem_cons,List.not_mem_nil,or_false] at hy;rcases hy with rfl | rfl | rfl | rfl
  .decide
  .exact λz=>(h1.2 32 z).1 U
  .exact λz=>(h2.2 32 z).1 U
  .exact λz=>(h3.2 32 z).1 U
theorem enum_zip(l:List Str):oR (l.map D.str)=l.zipIdx.map λp=>D.tup [.int (p.2:Nat),.str p.1]:=by
 refine List.ext_getElem? λi=>?_;unfold oR;rw[aao,YS,YS,List.getElem?_zipIdx,Yk];cases h:l[i]? with
 | none=>cases (List.range l.length)[i]?<;>rfl
 | some x =>
  have hi:=(Yu.mp h).1;rw[List.getElem?_range hi];simp
theorem kx(n:Nat):dQ 0 n=(List.range n).map λi:Nat=>D.int (i:Int):=by
 unfold dQ;refine Zl λi _=>?_;rw[Int.zero_add]
section
variable{P:Program}{w:World}{K:Frag}{mg:Str->Option Value}{base:Heap}{CX:xW}{d:D3}{k:Nat}{t t':aav}
theorem C4.or(h1:C4 P w K mg base CX d k (aO K .no t))(h2:C4 P w K mg base CX d k (aO K .no t')):C4 P w K mg base CX d k (aO K .no λds R=>t ds R\/t' ds R):=by
 let(f,fd,J,F,m,b):=h1;let(f2,fd2,J2,F2,m2,b2):=h2;rw[m] at m2;cases m2;let(oc,od,kV,doc,pm,an,a9,ct,xU,e,lk,_):=id F.ex;let(oc2,od2,kV2,doc2,pm2,an2,cdv2,ct2,osl2,e2,lk2,_):=id F2.ex;rw[lk] at lk2;cases lk2;refine#[f,fd,#[λvs H Q E h=>?_,λA outer s H args us vs Q E hr e0 hb hv h=>?_],F,m,b]
 .let(M,ds,R,B,r,q,kk):=h;exact q.elim (λq=>J.len vs H Q E #[M,ds,R,B,r,q,kk]) λq=>J2.len vs H Q E #[M,ds,R,B,r,q,kk]
 .let(M,ds,R,B,r,q,kk):=h;exact q.elim (λq=>J.run A outer s H args us vs Q E hr e0 hb hv #[M,ds,R,B,r,q,kk]) λq=>J2.run A outer s H args us vs Q E hr e0 hb hv #[M,ds,R,B,r,q,kk]
end
theorem Fq{t1:kC}{E:jb}{c:Bool}{s:DS}(s':DS)(h1:c=true->∀ E':jb,E'.nx s'->t1 E' s)(h2:c=false->s=s')(k:E.nx s'):if c=true then t1 E s else EZ E s:=by
 cases c with
 | true=>exact gn U (h1 U E k)
 | false =>
  refine cq U ?_;rw[h2 U];exact k
theorem sk(a:List Nat):cd (bp a)=a:=by simp
theorem HN(zs:List Str):cd (Txt.join "" zs)=(zs.map cd).flatten:=by
 show cd (Builtin.Str.glued "" zs)=_;rw[StrLaws.glued_eq_join]
 induction zs with
 | nil=>rfl
 | cons a l ih =>
  cases l with
  | nil=>simp[PySem.Str.join]
  | cons b l =>
   show cd (a++""++PySem.Str.join "" (b::l))=_;rw[aZ,aZ,ih,show cd ""=[] from U];simp
def pb(r:Str×Tm):Str:=bp (32::124::32::bZ (ml r))
theorem Li(r:Str×Tm):Txt.join "" [" | ",r.1," : ",bp r.2.T]=pb r:=by
 refine cJ ?_;rw[HN];show cd " | "++(cd r.1++(cd " : "++(cd (bp r.2.T)++[])))=cd (bp (32::124::32::bZ [.w r.1,.w ":",.k r.2]));rw[sk (32::_),gy];show _=32::124::32::(cd r.1++((32::cd ":")++((32::r.2.T)++[])));rw[show cd " | "=[32,124,32] from U,show cd " : "=32::cd ":"++[32] from U,sk r.2.T];simp
theorem tH(a:Bool)(t:Tb):tabS a++" "++bp (bZ t.h.c6)++Txt.join "" (t.rows.map pb)=bp (bZ (t.c6 a)):=by
 refine cJ ?_;rw[aZ,HN,aZ,aZ,sk (bZ t.h.c6),sk (bZ (t.c6 a))];have h:((t.rows.map pb).map cd).flatten=(t.rows.flatMap λr=>El.w "|"::ml r).flatMap λe=>32::e.T:=by
  rw[List.flatMap_assoc,YF,<- List.flatMap_def];refine congrArg (λf=>List.flatMap f t.rows) (funext λr=>?_);show cd (bp (32::124::32::bZ (ml r)))=_;rw[sk (32::_),Yt,jR (by intro z;cases z)]
  rfl
 rw[h,show t.c6 a=.w (tabS a)::(t.h.c6++t.rows.flatMap λr=>.w "|"::ml r) from U,gy,YL,jR (b:=t.h.c6) (by intro z;cases z),show cd " "=[32] from rfl];simp[El.T]
theorem Dn{r:Str×Tm}(h1:Nm r.1)(h2:vE r.2):(pb r).length<=10000:=by
 have:=(pU h1 h2).len;unfold pb;rw[bB];simp only[List.length_cons];cbv
theorem yZ(xs:List D)(a:D):cutD (xs++[a]) none (some (-1))=xs:=by
 have hl:(xs++[a]).length=xs.length+1:=by simp
 unfold cutD;rw[hl];rw[show HT.cz (xs.length+1) (xs.length+1) (some (-1))=xs.length from by
  show (if (-1:Int) < 0 then ((-1:Int)+((xs.length+1:Nat):Int)).toNat else min (-1:Int).toNat (xs.length+1))=_;rw[if_pos (by decide)];cbv,show HT.cz (xs.length+1) 0 none=0 from U,ZA,Z3,List.take_left]
def cnt(us:List (Bool×Str))(t:Tm):Nat:=(t.pre.filterMap lu).countP λu=>decide (u∈us)
def lH(us:List (Bool×Str))(ts:List Tm):Nat:=(ts.map (cnt us)).sum
def hit(us:List (Bool×Str))(t:Tm):Nat:=match lu t with
 | none=>0
 | some u=>if u∈us then 1 else 0
theorem vX(us:List (Bool×Str))(a b:List Tm):lH us (a++b)=lH us a+lH us b:=by
 unfold lH;rw[Yr,Zc]
theorem t6(us:List (Bool×Str)):∀ ks:List Tm,lH us ks=((jf ks).filterMap lu).countP λu=>decide (u∈us)
 | []=>rfl
 | t::r=>by
  show cnt us t+lH us r=((t.pre++jf r).filterMap lu).countP _;rw[t6 us r,List.filterMap_append,List.countP_append]
  rfl
theorem CU(us:List (Bool×Str))(f:Fm)(ks:List Tm):cnt us (.node f ks)=hit us (.node f ks)+lH us ks:=by
 rw[t6];unfold cnt hit;rw[show (Tm.node f ks).pre=.node f ks::jf ks from U,List.filterMap_cons];cases lu (.node f ks) with
 | none=>simp
 | some u =>
  rw[List.countP_cons];by_cases h:u∈us
  .simp[h];cbv
  .simp[h]
theorem oq:∀ a:List Tm,a.length<=aV a
 | []=>Ys _
 | t::a=>by
  have:=oq a;have:=size_pos t;show a.length+1<=t.size+aV a;cbv
def Kp.fF(k:Kp):List Tm:=k.tabs.flatMap λt=>t.rows.map (·.2)
theorem B5(k o:Kp):nS k o=lH o.told k.fF:=by
 unfold nS lH Kp.uses Kp.fF Tb.uses zi;have h2:∀ rs:List (Str×Tm),((rs.flatMap λr=>r.2.pre.filterMap lu).countP λu=>decide (u∈o.told))=((rs.map (·.2)).map (cnt o.told)).sum:=λrs=>by
  induction rs with
  | nil=>rfl
  | cons r rs ih =>
   rw[Yt,List.countP_append,ih,Yp,Yp,Zi]
   rfl
 induction k.tabs with
 | nil=>rfl
 | cons t ts ih =>
  rw[Yt,List.countP_append,ih,Yt,Yr,Zc,h2]
theorem qw{n:Nat}:∀ (l:List Tm),(∀ t∈l,t.size<=n)->aV l<=l.length * n
 | [],_=>YO _
 | t::l,h=>by
  have h1:=qw l λx hx=>h x (Yo _ hx);have h2:=h t Ym;show t.size+aV l<=(l.length+1) * n;rw[aar];cbv
theorem dH.fF{k:Kp}(o:dH k):(∀ t∈k.fF,t.gt)/\k.fF.length<=25/\aV k.fF<=1150:=by
 have hl:k.fF.length<=5 * 5:=cy o.tl λt ht=>by rw[Yk];exact (o.ts t ht).rl
 have hm:∀ t∈k.fF,vE t:=λt ht=>by
  let(b,hb,ht):=YN.mp ht;let(r,hr,rfl):=YB.mp ht;exact ((o.ts b hb).rs r hr).2
 refine#[λt ht=>(hm t ht).1,hl,?_];have:=qw (n:=46) k.fF λt ht=>by
  have:=(zP t (hm t ht).1).2;have:=(hm t ht).2.2;cbv
 have:k.fF.length * 46<=25 * 46:=Nat.mul_le_mul_right _ hl;cbv
theorem told_false(k:Kp)(x:Str):(false,x)∈k.told↔x∈(k.mK false).map (·.nm):=by
 unfold Kp.told;simp
theorem told_true(k:Kp)(x:Str):(true,x)∈k.told↔x∈(k.mK true).map (·.nm):=by
 unfold Kp.told;simp
section
variable{X:Cx}{c:Ent}
def PN(i j:Nat)(ta:gb):kC:=λR s=>ta s λds s1=>∃ x y,ds=[x,y]/\R.nx ((s1.set i (.dat x)).set j (.dat y))
theorem NR{i j:Nat}{st:Stmt}{ta:gb}(h:PS X st (Og i j (tA X.K c 2 ta))):lZ X c st (PN i j ta):=#[h.imp λE O H zz=>d7 zz λM s as R L q k =>
 #[M,s,as,_,L,q,λds s1 z2r M' H' vs L' E' rv hl=>by
  let(x,y,e,r):=z2r;subst e;let(v,us,rfl,r1,r2):=rv;let(w,rfl,r3):=cH r2;exact#[v,w,U,k.nx _ as M' _ H' r ((L'.GS i r1).GS j r3) (E'.grow L)]]]
end
end DL
set_option maxHeartbeats 400000
namespace DF
open PySem PyProof.Rows
variable{prog:Program}{w:World}{A:Around}{E:aat}{s:Shared}
theorem Ft{l:Addr}{u v:Value}{Q:List Value->Shared->Prop}(hh:A.handled=none)(hl:s.heap.IsList l #v[u,v])(hQ:∀ h',(∀ b o,s.heap.get? b=some o->h'.get? b=some o)->Q [u,v] { s with heap:=h' }):wpAny (model prog w) A (unpackItems (.ref l) 2 none) Q E s:=by
 have i6:l≠↑s:=by let(o,ho,_):=id hl;exact YJ (YC ho)
 unfold unpackItems;refine wpAny_bind ?_;unfold notIterableAtAll;refine wpAny_bind (wpAny_specialOf hl.typeIs F.slot_list_iter.lookup (wpAny_pure ?_));simp only[Bool.false_eq_true,if_false];refine wpAny_bind (wpAny_holding (wpAny_pyIter_list hl ?_));refine wpAny_bind (wpAny_holding ?_);show wpAny _ _ (pyNext (.ref ↑s) >>= _) _ _ _;refine wpAny_bind (wpAny_pyNext_list_item (i:=0) #[_,YD _ U,U,U] (hl.push _) (x:=u) U λh1 i1 s1=>?_);have l1:h1.IsList l #v[u,v]:=(hl.push _).extBut s1.extBut i6;refine wpAny_bind (wpAny_holding ?_);show wpAny _ _ (pyNext (.ref ↑s) >>= _) _ _ _;refine wpAny_bind (wpAny_pyNext_list_item (s:={ s with heap:=h1 }) (i:=1) i1 l1 (x:=v) U λh2 i2 s2=>?_);have l2:h2.IsList l #v[u,v]:=l1.extBut s2.extBut i6;refine wpAny_bind (wpAny_holding ?_);show wpAny _ _ (pure []) _ _ _;refine wpAny_pure (wpAny_pure (wpAny_pure ?_));rw[if_neg (by simp)];refine wpAny_bind (wpAny_holding (wpAny_pyNext_list_end (s:={ s with heap:=h2 }) (i:=2) hh i2 l2 U λh3 e3=>?_));simp only[Option.isSome_none,Bool.false_eq_true,if_false];refine wpAny_pure (hQ h3 λb o e=>?_);have hb:b≠↑s:=YJ (YC e);exact e3 b o hb (s2.extBut b o hb (s1.extBut b o hb (Yq _ e)))
end DF
namespace L2
open PySem PySem.Spec PyProof.Rows
section
variable{X:Cx}{pos:Pos}
def Of(K:Frag)(t:BM):TG:=λv O H Q=>∃ a x y,v=.ref a/\cn K H a [x,y]/\t [x,y] O H Q
theorem GY{es:List Expr}{k:Nat}{t:BM}(hc:X.calm=true)(h:Fc X es t)(hn:(assignEach es X.env).length=2:=by rfl)(kX:(assignEach es X.env).findIdx? (·.1)=none:=by rfl):PG X (.Tuple es k pos) (Of X.K t):=by
 intro pins s O H v u Q I r hw;let(a,x,y,rfl,hq,hw):=hw;cases r;let(its,rv,ht,hz):=I.list hq;let(u1,u2,rfl,r1,r2):=Vals.two rv;rw[assign_Tuple];refine wpAny_bind (wpAny_standAt ?_);unfold unpack;rw[hn,kX];refine wpAny_bind (wpAny_holding (DF.Ft (I.ok.hd hc) ht.isList λh' hx=>?_));have I1:Inv X pins O H { s with heap:=h' }:=I.kept (t':=s.toks) hx;exact h pins _ O H _ _ Q I1 rv hw
end
end L2
namespace DL
open PySem PySem.Spec L2
open PyProof.Rows hiding St
section
variable{X:Cx}{c:Ent}{n:Nat}{vQ:List Expr}{gs:rA}{pos:Pos}
def Jj(gs:rA):pQ:=λd s Q=>∃ a b,d=.lst [a,b]/\gs [a,b] s Q
theorem Ke{k:Nat}(hc:X.calm=true)(h:LF X c n vQ gs)(hn:(assignEach vQ X.env).length=2:=by rfl)(kX:(assignEach vQ X.env).findIdx? (·.1)=none:=by rfl):DG X c n (.Tuple vQ k pos) (Jj gs) :=
 #[(GY hc h.pg hn kX).imp λv O H Q z=>by
   let(M,s,as,d,R,L,r,(a,b,e,q),kk):=z;subst e;let(p,xs,rfl,(m,t),x,xr,rfl,r1,y,yr,rfl,r2,r3):=r;have r3:yr=[]:=r3;subst r3;exact#[p,x,y,U,.of t,M,s,as,[a,b],R,L,#[x,[y],U,r1,y,[],U,r2,U],q,kk]]
end
end DL
namespace DL
open PySem L2
abbrev nl(l:List Nat):Prop:=10∉l
theorem b5{a b:List Nat}(h:nl a)(k:nl b):nl (a++b):=λz=>(Yz.mp z).elim h k
theorem fS{n:Nat}{b:List Nat}(h:n≠10)(k:nl b):nl (n::b):=λz=>(Yn.mp z).elim (λe=>h e.symm) k
theorem AA{α:Type}{f:α->List Nat}{l:List α}(h:∀ x∈l,nl (f x)):nl (l.flatMap f):=λz=>by
 let(x,hx,hz):=YN.mp z;exact h x hx hz
theorem hU{x:Str}(h:Nm x):nl (cd x):=λz=>by
 have:=h.1 10 z;cbv
theorem uK{x:Str}(h:rY x):nl (cd x):=by
 rcases h with h | rfl
 .exact hU h
 .decide
theorem Dt{i:Int}(h0:0<=i):nl (cd (eL i)):=λhc=>by
 let(n,rfl):=ZE h0;have e:cd (eL (n:Int))=(Nat.toDigits 10 n).map Char.toNat:=aap n;rw[e] at hc;let(ch,hm,hh):=YB.mp hc;have:=Zt (by decide) (by decide) hm;unfold Char.isDigit at this;simp only[Bool.and_eq_true,decide_eq_true_eq] at this;have h2:48<=ch.toNat:=this.1;cbv
theorem zE{l:List (List Nat)}(h:∀ x∈l,nl x):nl (bc l):=by
 cases l with
 | nil=>exact λz=>by cases z
 | cons a l=>exact b5 (h a Ym) (AA λx hx=>fS (by decide) (h x (Yo _ hx)))
theorem uR:∀ {hs:List (Str×List Str)} {ts:List (List Nat)},(∀ h∈hs,Nm h.1/\∀ n∈h.2,Nm n)->(∀ t∈ts,nl t)->nl (cv hs ts)
 | [],ts,_,_=>λz=>by simp[cv] at z
 | _::_,[],_,_=>λz=>by simp[cv] at z
 | h::hs,t::ts,hh,ht=>by
  let(h1,h2):=hh h Ym;refine b5 (fS (by decide) (fS (by decide) (fS (by decide) (b5 (zE λx hx=>?_) (fS (by decide) (fS (by decide) (fS (by decide) (ht t Ym)))))))) (uR (λx hx=>hh x (Yo _ hx)) λx hx=>ht x (Yo _ hx));rcases Yn.mp hx with rfl | hx
  .exact hU h1
  .let(n,hn,rfl):=YB.mp hx;exact hU (h2 n hn)
theorem zN{ts:List (List Nat)}(h:∀ t∈ts,nl t):nl (ts.headD []):=by
 cases ts with
 | nil=>exact λz=>by cases z
 | cons a l=>exact h a Ym
theorem z9{ts:List (List Nat)}(h:∀ t∈ts,nl t):∀ t∈ts.tail,nl t:=λt ht=>h t (List.mem_of_mem_tail ht)
theorem wB{ts:List (List Nat)}(h:∀ t∈ts,nl t):nl (ts.flatMap (32::·)):=AA λx hx=>fS (by decide) (h x hx)
theorem He{f:Fm}{n:Nat}{ts:List (List Nat)}(h:dY f n)(ht:∀ t∈ts,nl t):nl (e8 f ts):=by
 cases f with
 | nm x=>exact hU h.1
 | num i=>exact Dt h.1.1
 | op s =>
  refine b5 ?_ (wB ht);rcases h.1 with rfl | rfl | rfl<;>decide
 | iR=>exact b5 (by decide) (wB ht)
 | lt x=>exact b5 (b5 (by decide) (hU h.1)) (wB ht)
 | mk c=>exact b5 (b5 (by decide) (hU h.1)) (wB ht)
 | ask g=>exact b5 (b5 (b5 (by decide) (zN ht)) (fS (by decide) (hU h.1))) (wB (z9 ht))
 | g8 r hs=>exact b5 (b5 (b5 (b5 (by decide) (zN ht)) (by decide)) (uK h.1)) (uR (λx hx=>#[(h.2.1.2 x hx).1,(h.2.1.2 x hx).2.2]) (z9 ht))
 | new k hs=>exact b5 (b5 (by decide) (uK h.1)) (uR (λx hx=>#[(h.2.1.2 x hx).1,(h.2.1.2 x hx).2.2]) ht)
mutual
theorem O8:∀ t:Tm,t.gt->nl t.T
 | .node f ks,h=>by
  have hb:=He h.1 (CS ks h.2);rw[Tm.T,o7];split
  .exact hb
  .exact b5 (fS (by decide) hb) (by decide)
theorem CS:∀ ks:List Tm,kI ks->∀ t∈je ks,nl t
 | [],_,t,ht=>by cases ht
 | k::ks,h,t,ht=>by
  rcases Yn.mp ht with rfl | ht
  .exact O8 k h.1
  .exact CS ks h.2 t ht
end
theorem KI{es:List El}(h:∀ e∈es,nl e.T):nl (bZ es):=zE λx hx=>by
 let(e,he,rfl):=YB.mp hx;exact h e he
theorem et.Qs{b:Bool}{h:Hd}(o:et b h):∀ e∈h.c6,nl e.T:=by
 intro e he;let(x,hx,rfl):=YB.mp he;show nl (cd x);rcases Yz.mp hx with hx | hx
 .rcases Yn.mp hx with rfl | hx
  .exact hU o.nm
  .let(p,hp,hx):=YN.mp hx;rcases Yn.mp hx with rfl | hx
   .exact hU (o.fs p hp).1
   .rw[Yx.mp hx];exact uK (o.fs p hp).2
 .have hr:=o.res;unfold Hd.to at hx;cases e:h.res with
  | none=>rw[e] at hx;cases hx
  | some r =>
   rw[e] at hx;rcases Yn.mp hx with rfl | hx
   .decide
   .rw[Yx.mp hx];cases b with
    | true=>rw[if_pos U,e] at hr;cases hr
    | false =>
     rw[if_neg Yy] at hr;let(r',h1,h2):=hr;rw[e] at h1;injection h1 with h1;rw[h1];exact uK h2
theorem dH.Qs{k:Kp}(o:dH k):∀ r∈k.rws,nl (bZ r):=by
 intro r hr;refine KI λe he=>?_;rcases Yn.mp hr with rfl | hr
 .rcases Yn.mp he with rfl | he
  .show nl (cd (bG k.asked));cases k.asked<;>decide
  .rcases Yn.mp he with rfl | he
   .exact hU o.nm
   .let(h,hh,he):=YN.mp he;rcases Yn.mp he with rfl | he
    .show nl (cd "|");decide
    .exact (o.hs h hh).Qs e he
 .let(t,ht,rfl):=YB.mp hr;have ot:=o.ts t ht;rcases Yn.mp he with rfl | he
  .show nl (cd (tabS k.asked));cases k.asked<;>decide
  .rcases Yz.mp he with he | he
   .exact ot.h.Qs e he
   .let(r,hr,he):=YN.mp he;rcases Yn.mp he with rfl | he
    .show nl (cd "|");decide
    .simp only[ml,List.mem_cons,List.not_mem_nil,or_false] at he;rcases he with rfl | rfl | rfl
     .exact hU (ot.rs r hr).1
     .show nl (cd ":");decide
     .exact O8 r.2 (ot.rs r hr).2.1
theorem Hf{x:Str×Str×Nat}(o:Qr x):nl (cd (jv x)):=by
 unfold jv;simp only[aZ];exact b5 (b5 (b5 (b5 (b5 (by decide) (hU o.a)) (by decide)) (hU o.b)) (by decide)) (Dt (by cbv))
theorem Js{ps:List Kp}(h:kU ps):∀ x∈qp ps,nl (cd x):=λx hx=>by
 rcases Yz.mp hx with hx | hx
 .let(k,hk,hx):=YN.mp hx;let(r,hr,rfl):=YB.mp hx;rw[sk (bZ r)];exact (h.2 k hk).Qs r hr
 .let(y,hy,rfl):=YB.mp hx;exact Hf ((fY h).2 y hy)
theorem AW{ps:List Kp}(h:kU ps)(i6:qp ps≠[]):Txt.split (Txt.join "\n" (qp ps)) "\n"=qp ps:=by
 have e:Txt.join "\n" (qp ps)=bp (dW 10 ((qp ps).map cd)):=cJ (by rw[wq (c:=10) U,sk]);rw[e,DD (by simpa using i6) λx hx=>by let(y,hy,rfl):=List.mem_map.mp hx;exact Js h y hy,List.map_map];exact C8 _
theorem Du{ws:List Str}(hn:ws.length<=55)(h:∀ x∈ws,x.length<=100000):(Txt.join "\n" ws).length<=6000000:=by
 have h1:∀ {l:List Str},(∀ x∈l,x.length<=100000)->(l.map (·.length)).sum<=l.length * 100000:=λ{l} h=>by
  induction l with
  | nil=>exact Ys _
  | cons a l ih =>
   have:=ih λx hx=>h x (Yo _ hx);have:=h a Ym;rw[Yp,Zi,Yv,aar];cbv
 show (Builtin.Str.glued "\n" ws).length<=_;rw[StrLaws.glued_eq_join];refine Yw (StrLaws.join_length_le _ _) ?_;have h2:=h1 h;have e:("\n":Str).length=1:=rfl;rw[e];cbv
theorem OP(a b:List Str):cutD ((a++b).map D.str) none (some ((a.length:Nat):Int))=a.map .str:=by
 unfold cutD;rw[HT.p6,HT.mj,ZA,Z3,Yk,Yl,Nat.min_eq_left (by cbv),Yr,<- Yk (f:=D.str) (as:=a),List.take_left]
theorem Mj(a b:List Str):cutD ((a++b).map D.str) (some ((a.length:Nat):Int)) none=b.map .str:=by
 unfold cutD;rw[HT.p6,HT.mj,List.length_map,List.length_append,Nat.min_eq_left (by cbv),List.map_append,List.take_of_length_le (by simp)]
 conv=>lhs;arg 1;rw[<- Yk (f:=D.str) (as:=a)]
 rw[List.drop_left]
theorem Hl{ps:List Kp}:∀ x∈qp ps,0 < x.length:=λx hx=>by
 rcases Yz.mp hx with hx | hx
 .let(k,hk,hx):=YN.mp hx;let(r,hr,rfl):=YB.mp hx;rw[bB];rcases Yn.mp hr with rfl | hr
  .show 0 < (bZ (.w (bG k.asked)::_)).length;rw[gy,Yl];have:0 < (El.w (bG k.asked)).T.length:=by cases k.asked<;>decide
   cbv
  .let(t,ht,rfl):=YB.mp hr;show 0 < (bZ (.w (tabS k.asked)::_)).length;rw[gy,Yl];have:0 < (El.w (tabS k.asked)).T.length:=by cases k.asked<;>decide
   cbv
 .let(y,hy,rfl):=YB.mp hx;unfold jv;simp only[Str.length_append];have e6:("cross ":Str).length=6:=rfl;cbv
theorem BY{a:Str}{l:List Str}(h:0 < a.length):0 < (Txt.join "\n" (a::l)).length:=by
 have e:=congrArg List.length (wq (s:="\n") (c:=10) U (a::l));rw[eN,Yp,show dW 10 (cd a::l.map cd)=cd a++(l.map cd).flatMap (10::·) from U,Yl,eN] at e;cbv
end DL
set_option maxHeartbeats 400000
namespace DL
open PySem PySem.Spec L2
open PyProof.Rows hiding St
section
variable{X:Cx}{c:Ent}
def Oh(te:bH):mG:=λs Q=>te s λd s1=>∃ z,d=.str z/\z.length<=sizeLine/\Q ((z.length:Int) != 0) s1
theorem Fl{e:Expr}{te:bH}(he:DE X c e te)(hw:∀ whole,isTrue e X.env whole=(do let v <- whole;standAt e.pos;holding [v] (truthy v)):=by intro _;rfl):DT X c e (Oh te):=#[(mC he.pe hw).imp λO H Q zz=>d7 zz λM s as R L q kk =>
 #[M,s,as,_,L,q,λd s1 z M1 H1 v L1 E1 rv=>by
  let(z,rfl,hz,q1):=z;cases (show v=.str z from rv);exact#[_,#[hz,U],kk _ s1 q1 M1 H1 L1 E1]]]
end
end DL
set_option maxHeartbeats 400000
namespace DL
open PySem PySem.Spec L2
open PyProof.Rows hiding St
section
variable{X:Cx}{c:Ent}
def Nl(i:Nat):bH:=λs Q=>∃ k ds,s.sl[i]?=some (.own k)/\s.os[k]?=some (some (.lst ds))/\Q (.tup ds) s
theorem J8{i:Nat}{e:Expr}(h:PE X e (FP (λxs H Q=>∃ p ys,xs=[.ref p]/\((cn X.K H p ys/\∀ l,H l=none->Q (.ref l) (upd H l (.tup ys)))\/(gZ X.K H p ys/\Q (.ref p) H))) (gH (bz i) sI))):DE X c e (Nl i):=#[h.imp λO H Q zz=>d7 zz λM s as R L q kk=>by
 let(k,ds,h1,h2,q):=q;let(a,o,g1,g2,g3,g4):=L.slot h1 h2;cases o with
 | lst xs =>
  have r:ay X.K H M ds xs:=g4;exact#[_,g2,a,xs,U,.inl #[.of g3,λl hl=>kk _ s q _ _ _ (L.fresh hl) (Ext.fresh hl) #[l,xs,U,#[.inr U,au],kl hl r]]]
 | _=>exact g4.elim]
end
section
variable{X:Cx}{k m:Nat}{d l r:Addr}{M0:Addr->Prop}{H0:Hp}{q:D3}{x:Str}{p pos:Pos}
def Gs(t:Addr->List D->D->(D->D->Prop)->Prop)(t0 t1 t2:bH):bH:=λs Q=>t0 s λd0 s1=>t1 s1 λd1 s2=>t2 s2 λdn s3=>∀ r,t r [d0,d1,.fN r] dn λx _=>Q x s3
theorem wX{t:Addr->List D->D->(D->D->Prop)->Prop}{e0 e1 e2:Expr}{t0 t1 t2:bH}(hr:cU m X.A)(G:C4 X.prog X.w X.K X.mg X.base aD q k (A4 X.K d l t))(h0:DE X #[b4 d l,M0,H0] e0 t0)(h1:DE X #[b4 d l,M0,H0] e1 t1)(h2:DN X #[b4 d l,M0,H0] e2 t2)(hx:q.1=x:=by rfl)(hk:k<=m:=by ac_rfl)(hg:Gl X x:=by rfl)(kP:aay x:=by decide)(he:starEach [e0,e1,e2] X.env=(false,eval e0 X.env)::starEach [e1,e2] X.env:=by rfl)(Ut:starEach [e1,e2] X.env=(false,eval e1 X.env)::starEach [e2] X.env:=by rfl)(Oj:starEach [e2] X.env=[(false,eval e2 X.env)]:=by rfl)(fC:(backTo pos (starEach [e1,e2] X.env)).any (·.1)=false:=by rfl) :
  DE X #[b4 d l,M0,H0] (.Call (.Name x p) [e0,e1,e2] [] pos) (Gs t t0 t1 t2):=by
 subst hx;let(f,fd,G,F,hm,hb):=G;refine#[(cK G (hr.mono hk) hg hm F.kp hb .nil (E:=E0) fW (az h0.pe (az h1.pe (az h2.pe aK Oj) Ut) he) kP he fC).imp λO H Q zz=>d7 zz λM s as R L q kk=>?_];refine#[M,s,as,_,L,q,λd0 s1 q1 M1 H1 v0 L1 E1 r0=>#[M1,s1,as,_,L1,q1,λd1 s2 q2 M2 H2 v1 L2 E2 r1=>#[M2,s2,as,_,L2,q2,λdn s4 q4 M4 H4 a o L4 E4 ha ro nm ng nw hz hn=>?_]]];have r04:=E4.rep L2 (E2.rep L1 r0);have r14:=E4.rep L2 r1;have B4:=L4.base.here;refine#[a,M4,[d0,d1,.fN a],_,dn,o,B4,#[nm,ng],ha,ro,#[v0,_,U,r04,v1,_,U,r14,.ref a,_,U,U,U],q4 a,λx _ rx M' H' v o' B xR ro' nm' rv=>?_];have nb:∀ b u,H2 b=some u->¬ d6 s2 as b->b≠a:=λb u e w z=>by
  rcases hn with hn | hn
  .rw[z,hn] at e;cases e
  .exact w (z▸hn)
 have Ed:Ext #[b4 d l,M0,H0] as M2 s2 H2 M4 s4 (del H4 a):=#[E4.sub,E4.new,λb u e g w=>by rw[gE (nb b u e w)];exact E4.keep b u e g w,E4.kO];have Bd:Base #[b4 d l,M0,H0] M4 (del H4 a):=#[(b4 d l).loc H4 _ L4.base.lI λb u g e=>by
   have nb:b≠a:=λz=>by
    rcases g with g | ⟨φ,f⟩
    .subst z;exact ng g
    .subst f;rw[z,ha] at e;cases e;exact ro.next
   rw[gE nb];exact e,λb u e g=>by
   have nb:b≠a:=λz=>by
    subst z;have e:H0 b=some u:=e;rw[show H0 b=none from hz] at e;cases e
   rw[gE nb];exact L4.base.fr b u e g,λb m=>by
   let(u,e):=L4.base.md b m;have nb:b≠a:=λz=>by subst z;exact nm m
   exact#[u,by rw[gE nb];exact e],L4.base.mo,L4.base.m0,L4.base.mn]
 have Ef:Ext #[b4 d l,M0,H0] as M4 s4 (del H4 a) M' s4 H':=#[B.m0,λb m=>(B.mn b m).elim .inl λz=>.inr (.inl z),λb u e g _=>B.fr b u e g,λ_ h=>h];exact kk x s4 rx M' H' v (L4.ju U U B nm' nm hz nw) (E1.trans L1.base (E2.trans L2.base (Ed.trans Bd Ef))) rv
end
end DL
namespace DF
open PySem PyProof.Rows
variable{prog:Program}{w:World}{A:Around}{E:aat}{s:Shared}
theorem F3{l:Addr}{u v x y:Value}{Q:List Value->Shared->Prop}(hh:A.handled=none)(hl:s.heap.IsList l #v[u,v,x,y])(hQ:∀ h',(∀ b o,s.heap.get? b=some o->h'.get? b=some o)->Q [u,v,x,y] { s with heap:=h' }):wpAny (model prog w) A (unpackItems (.ref l) 4 none) Q E s:=by
 have i6:l≠↑s:=by let(o,ho,_):=id hl;exact YJ (YC ho)
 unfold unpackItems;refine wpAny_bind ?_;unfold notIterableAtAll;refine wpAny_bind (wpAny_specialOf hl.typeIs F.slot_list_iter.lookup (wpAny_pure ?_));simp only[Bool.false_eq_true,if_false];refine wpAny_bind (wpAny_holding (wpAny_pyIter_list hl ?_));refine wpAny_bind (wpAny_holding ?_);show wpAny _ _ (pyNext (.ref ↑s) >>= _) _ _ _;refine wpAny_bind (wpAny_pyNext_list_item (i:=0) #[_,YD _ U,U,U] (hl.push _) (x:=u) U λh1 i1 s1=>?_);have l1:h1.IsList l #v[u,v,x,y]:=(hl.push _).extBut s1.extBut i6;refine wpAny_bind (wpAny_holding ?_);show wpAny _ _ (pyNext (.ref ↑s) >>= _) _ _ _;refine wpAny_bind (wpAny_pyNext_list_item (s:={ s with heap:=h1 }) (i:=1) i1 l1 (x:=v) U λh2 i2 s2=>?_);have l2:h2.IsList l #v[u,v,x,y]:=l1.extBut s2.extBut i6;refine wpAny_bind (wpAny_holding ?_);show wpAny _ _ (pyNext (.ref ↑s) >>= _) _ _ _;refine wpAny_bind (wpAny_pyNext_list_item (s:={ s with heap:=h2 }) (i:=2) i2 l2 (x:=x) U λh3 i3 s3=>?_);have l3:h3.IsList l #v[u,v,x,y]:=l2.extBut s3.extBut i6;refine wpAny_bind (wpAny_holding ?_);show wpAny _ _ (pyNext (.ref ↑s) >>= _) _ _ _;refine wpAny_bind (wpAny_pyNext_list_item (s:={ s with heap:=h3 }) (i:=3) i3 l3 (x:=y) U λh4 i4 s4=>?_);have l4:h4.IsList l #v[u,v,x,y]:=l3.extBut s4.extBut i6;refine wpAny_bind (wpAny_holding ?_);show wpAny _ _ (pure []) _ _ _;refine wpAny_pure (wpAny_pure (wpAny_pure (wpAny_pure (wpAny_pure ?_))));rw[if_neg (by simp)];refine wpAny_bind (wpAny_holding (wpAny_pyNext_list_end (s:={ s with heap:=h4 }) (i:=4) hh i4 l4 U λh5 e5=>?_));simp only[Option.isSome_none,Bool.false_eq_true,if_false];refine wpAny_pure (hQ h5 λb o e=>?_);have hb:b≠↑s:=YJ (YC e);exact e5 b o hb (s4.extBut b o hb (s3.extBut b o hb (s2.extBut b o hb (s1.extBut b o hb (Yq _ e)))))
end DF
namespace L2
open PySem PySem.Spec PyProof.Rows
section
variable{X:Cx}{pos:Pos}
def NG(K:Frag)(t:BM):TG:=λv O H Q=>∃ a x y z w,v=.ref a/\cn K H a [x,y,z,w]/\t [x,y,z,w] O H Q
theorem Hr{es:List Expr}{k:Nat}{t:BM}(hc:X.calm=true)(h:Fc X es t)(hn:(assignEach es X.env).length=4:=by rfl)(kX:(assignEach es X.env).findIdx? (·.1)=none:=by rfl):PG X (.Tuple es k pos) (NG X.K t):=by
 intro pins s O H v u Q I r hw;let(a,x,y,z,w,rfl,hq,hw):=hw;cases r;let(its,rv,ht,hz):=I.list hq;obtain⟨u1,l1,rfl,r1,rv1⟩:∃ u1 l1,its=u1::l1/\RelV x u1/\Vals [y,z,w] l1:=by cases rv with | cons a b=>exact#[_,_,U,a,b]
 obtain⟨u2,l2,rfl,r2,rv2⟩:∃ u2 l2,l1=u2::l2/\RelV y u2/\Vals [z,w] l2:=by cases rv1 with | cons a b=>exact#[_,_,U,a,b]
 let(u3,u4,rfl,r3,r4):=Vals.two rv2;rw[assign_Tuple];refine wpAny_bind (wpAny_standAt ?_);unfold unpack;rw[hn,kX];refine wpAny_bind (wpAny_holding (DF.F3 (I.ok.hd hc) ht.isList λh' hx=>?_));have I1:Inv X pins O H { s with heap:=h' }:=I.kept (t':=s.toks) hx;exact h pins _ O H _ _ Q I1 rv hw
theorem Gn{body:List Stmt}{h₀:ExceptHandler}{hs:List ExceptHandler}{t:TS}(hb:rg X.Ai body t):PS X (.Try body (h₀::hs) [] [] pos) t:=by
 intro pins s O H D I h;refine wpAny_Try_except (wpAny_mono (hb pins s O H D (I.qQ _) h) (λf s1 h1=>?_) λe s1 hx=>False.elim hx);have h1:=h1.iC;cases f with
 | next=>exact wpAny_execs_nil h1
 | brk=>exact h1
 | cont=>exact h1
 | ret u=>exact h1
theorem CO{K:Frag}{a:Addr}{xs:List V}{g:TG}{tb:TS}{D:Ends}{O:St}{H:Hp}(Pv:Nat->St->Hp->Prop)(h0:Pv 0 O H)(hl:∀ i O H,i<=xs.length->Pv i O H->cn K H a xs)(hs:∀ i x O H b,xs[i]?=some x->H b=none->Pv i O H->g (.ref b) O (upd H b (.tup [.int i,x])) λO2 H2=>tb { D with nx:=Pv (i+1),ct:=Pv (i+1),bk:=D.nx } O2 H2)(hd:∀ O H,Pv xs.length O H->D.nx O H) :
  ∃ W:Nat->Nat->St->Hp->Prop,(∃ m,W 0 m O H)/\∀ i m O H,W i m O H ->
   ((Jo K false a).stop i H/\D.nx O H)\/((Jo K false a).go i H/\∃ N:St->Hp->Prop,(∀ O' H',N O' H'->∃ m',m' < m/\W (i+1) m' O' H')/\∀ x H',(Jo K false a).IJ i H x H'->g x O H' λO2 H2=>tb { D with nx:=N,ct:=N,bk:=D.nx } O2 H2):=by
 refine#[λi m O H=>m=xs.length - i/\i<=xs.length/\Pv i O H,#[xs.length,by simp,Nat.zero_le _,h0],?_];rintro i m O H ⟨rfl,hi,p⟩;have q:vx K false H a xs:=hl i O H hi p;by_cases kR:i < xs.length
 .refine .inr #[#[xs,xs[i],q,by simp[kR]],Pv (i+1),λO' H' p'=>#[xs.length - (i+1),by cbv,U,kR,p'],λx H' y=>?_];let(b,hb,rfl,y):=y;let(z,hz,rfl):=y xs q;exact hs i z O H b hz hb p
 .have e:i=xs.length:=by cbv
  subst e;exact .inl #[#[xs,q,Ys _],hd O H p]
end
end L2
namespace DL
open PySem PySem.Spec L2
open PyProof.Rows hiding St
section
variable{X:Cx}{c:Ent}{n:Nat}{vQ:List Expr}{gs:rA}{pos:Pos}
def KH(gs:rA):pQ:=λd s Q=>∃ a b x y,d=.lst [a,b,x,y]/\gs [a,b,x,y] s Q
theorem Ja{k:Nat}(hc:X.calm=true)(h:LF X c n vQ gs)(hn:(assignEach vQ X.env).length=4:=by rfl)(kX:(assignEach vQ X.env).findIdx? (·.1)=none:=by rfl):DG X c n (.Tuple vQ k pos) (KH gs) :=
 #[(Hr hc h.pg hn kX).imp λv O H Q z=>by
   let(M,s,as,d,R,L,r,(a,b,x,y,e,q),kk):=z;subst e;let(p,xs,rfl,(m,t),r):=r;have hl:=r.length;let(v1,w1,rfl,r1,v2,w2,rfl,r2,v3,w3,rfl,r3,v4,w4,rfl,r4,r5):=id r;have r5:w4=[]:=r5;subst r5;exact#[p,v1,v2,v3,v4,U,.of t,M,s,as,[a,b,x,y],R,L,r,q,kk]]
end
structure KD where
 sd:Str
 nm:Str
 hs:D
 ts:List D
def KL(K:Frag)(H:Hp)(M:Addr->Prop):List (Addr×Addr)->List KD->Prop
 | [],[]=>True
 | c::cs,k::ks=>(∃ hv us,H c.1=some (.lst [.str k.sd,.str k.nm,hv,.ref c.2])/\Rep K H M k.hs hv/\H c.2=some (.lst us)/\ay K H M k.ts us)/\KL K H M cs ks
 | _,_=>False
def adr(cs:List (Addr×Addr)):List Addr:=cs.flatMap λc=>[c.1,c.2]
theorem mY(a b:List (Addr×Addr)):adr (a++b)=adr a++adr b:=by simp[adr]
section
variable{K:Frag}{M M':Addr->Prop}{H H':Hp}{a:Addr}{cs:List (Addr×Addr)}{ks:List KD}
theorem KL.mono(hM:∀ b,M b->M' b)(hH:∀ b o,M b->H b=some o->H' b=some o):∀ {cs:List (Addr×Addr)} {ks:List KD},(∀ b∈adr cs,∀ o,H b=some o->H' b=some o)->KL K H M cs ks->KL K H' M' cs ks
 | [],[],_,_=>trivial
 | c::cs,k::ks,h,t=>by
  let((hv,us,e1,r1,e2,r2),t):=t;exact#[#[hv,us,h _ (by simp[adr]) _ e1,Rep.mono hM hH _ _ r1,h _ (by simp[adr]) _ e2,ay.mono hM hH _ _ r2],KL.mono hM hH (λb hb=>h b (by simp[adr] at hb ⊢;exact .inr (.inr hb))) t]
 | [],_::_,_,h=>h.elim
 | _::_,[],_,h=>h.elim
theorem KL.snoc:∀ {cs:List (Addr×Addr)} {ks:List KD} {c:Addr×Addr} {k:KD},KL K H M cs ks->(∃ hv us,H c.1=some (.lst [.str k.sd,.str k.nm,hv,.ref c.2])/\Rep K H M k.hs hv/\H c.2=some (.lst us)/\ay K H M k.ts us)->KL K H M (cs++[c]) (ks++[k])
 | [],[],_,_,_,h=>#[h,trivial]
 | _::_,_::_,_,_,h1,h=>#[h1.1,KL.snoc h1.2 h]
 | [],_::_,_,_,h,_=>h.elim
 | _::_,[],_,_,h,_=>h.elim
theorem KL.last:∀ {cs:List (Addr×Addr)} {ks:List KD} {k:KD},KL K H M cs (ks++[k])->∃ yg c,cs=yg++[c]/\KL K H M yg ks/\∃ hv us,H c.1=some (.lst [.str k.sd,.str k.nm,hv,.ref c.2])/\Rep K H M k.hs hv/\H c.2=some (.lst us)/\ay K H M k.ts us
 | [],ks,k,h=>by cases ks<;>exact h.elim
 | c::cs,[],k,h=>by
  let(h1,t):=h;cases cs with
  | nil=>exact#[[],c,U,trivial,h1]
  | cons d cs=>exact t.elim
 | c::cs,k0::ks,k,h=>by
  let(h1,t):=h;let(yg,c1,e,h2,h3):=KL.last t;exact#[c::yg,c1,by rw[e];rfl,#[h1,h2],h3]
theorem KL.there:∀ {cs:List (Addr×Addr)} {ks:List KD},KL K H M cs ks->∀ b∈adr cs,∃ us,H b=some (.lst us)
 | [],_,_,b,hb=>nomatch hb
 | c::cs,[],h,_,_=>h.elim
 | c::cs,k::ks,h,b,hb=>by
  let((hv,us,e1,_,e2,_),t):=h;have hb:b=c.1\/b=c.2\/b∈adr cs:=by simpa [adr] using hb
  rcases hb with rfl | rfl | hb
  .exact#[_,e1]
  .exact#[_,e2]
  .exact KL.there t b hb
theorem KL.len:∀ {cs:List (Addr×Addr)} {ks:List KD},KL K H M cs ks->cs.length=ks.length
 | [],[],_=>rfl
 | c::cs,[],h=>h.elim
 | [],k::ks,h=>h.elim
 | c::cs,k::ks,h=>by rw[Yv,Yv,KL.len h.2]
structure sy(K:Frag)(M:Addr->Prop)(H:Hp)(a:Addr)(cs:List (Addr×Addr))(ks:List KD):Prop where
 out:H a=some (.lst (cs.map λc=>V.ref c.1))
 ll:KL K H M cs ks
 nd:(a::adr cs).Nodup
 nm:∀ b∈a::adr cs,¬ M b
theorem sy.there(I:sy K M H a cs ks):∀ b∈a::adr cs,∃ us,H b=some (.lst us):=λb hb=>by
 rcases Yn.mp hb with rfl | hb
 .exact#[_,I.out]
 .exact I.ll.there b hb
theorem sy.call(I:sy K M H a cs ks)(hm:∀ b,M b->M' b)(hH:∀ b o,H b=some o->H' b=some o)(mn:∀ b,M' b->M b\/Nu H b):sy K M' H' a cs ks :=
 #[hH _ _ I.out,I.ll.mono hm (λb o _ e=>hH b o e) λb _ o e=>hH b o e,I.nd,λb hb m=>by
  let(us,e):=I.there b hb;rcases mn b m with m | n | ⟨xs,n⟩
  .exact I.nm b hb m
  .rw[n] at e;cases e
  .rw[n] at e;cases e]
theorem sy.push(I:sy K M H a cs ks){p q:Addr}{sd nm:Str}{hs:D}{hv:V}(hp:H p=none)(hq:upd H p (.lst []) q=none)(r:Rep K H M hs hv)(np:¬ M p)(nq:¬ M q) :
  sy K M (upd (upd (upd H p (.lst [])) q (.lst [.str sd,.str nm,hv,.ref p])) a (.lst ((cs.map λc=>V.ref c.1)++[.ref q]))) a (cs++[(q,p)]) (ks++[#[sd,nm,hs,[]]]):=by
 have npq:q≠p:=Ne.symm (av au hq);have hq0:H q=none:=by rw[aq npq] at hq;exact hq
 have npa:p≠a:=Ne.symm (av I.out hp);have nqa:q≠a:=Ne.symm (av I.out hq0);have hna:∀ b∈adr cs,b≠a:=λb hb z=>(Za.mp I.nd).1 (z▸hb);have kp:∀ b o,b≠a->H b=some o->upd (upd (upd H p (.lst [])) q (.lst [.str sd,.str nm,hv,.ref p])) a (.lst ((cs.map λc=>V.ref c.1)++[.ref q])) b=some o:=λb o n e=>by
  rw[aq n,aq (av e hq0),aq (av e hp)];exact e
 have km:∀ b o,M b->H b=some o->upd (upd (upd H p (.lst [])) q (.lst [.str sd,.str nm,hv,.ref p])) a (.lst ((cs.map λc=>V.ref c.1)++[.ref q])) b=some o:=λb o m e=>kp b o (λz=>I.nm a Ym (z▸m)) e;have npc:p∉adr cs:=λh=>by let(us,e):=I.ll.there p h;rw[hp] at e;cases e
 have nqc:q∉adr cs:=λh=>by let(us,e):=I.ll.there q h;rw[hq0] at e;cases e
 refine#[by rw[au,Yr];rfl,(I.ll.mono (λ_ m=>m) km λb hb o e=>kp b o (hna b hb) e).snoc #[hv,[],by rw[aq nqa,au],Rep.mono (λ_ m=>m) km _ _ r,by rw[aq npa,aq (Ne.symm npq),au],U],?_,?_]
 .have h:=I.nd;rw[mY,<- YT];refine List.nodup_append.mpr #[h,by simp[adr,npq],λx hx y hy z=>?_];subst z;have hy:x=q\/x=p:=by simpa [adr] using hy
  rcases Yn.mp hx with rfl | hx
  .rcases hy with hy | hy
   .exact nqa hy.symm
   .exact npa hy.symm
  .rcases hy with rfl | rfl
   .exact nqc hx
   .exact npc hx
 .intro b hb;rw[mY,<- YT] at hb;rcases Yz.mp hb with hb | hb
  .exact I.nm b hb
  .have hb:b=q\/b=p:=by simpa [adr] using hb
   rcases hb with rfl | rfl
   .exact nq
   .exact np
theorem sy.add{yg:List (Addr×Addr)}{k0:List KD}{k:KD}{c:Addr×Addr}{us:List V}{d:D}{v hv:V}(I:sy K M H a (yg++[c]) (k0++[k]))(l0:KL K H M yg k0)(e1:H c.1=some (.lst [.str k.sd,.str k.nm,hv,.ref c.2]))(r1:Rep K H M k.hs hv)(e2:H c.2=some (.lst us))(r2:ay K H M k.ts us)(rv:Rep K H M d v) :
  sy K M (upd H c.2 (.lst (us++[v]))) a (yg++[c]) (k0++[#[k.sd,k.nm,k.hs,k.ts++[d]]]):=by
 have nd:=I.nd;have nm:=I.nm;rw[mY] at nd nm;have hc2:c.2∈a::(adr yg++adr [c]):=by simp[adr]
 let(n1,n2):=Za.mp nd;let(n3,n4,n5):=List.nodup_append.mp n2;have nac:a≠c.2:=λz=>n1 (by rw[z];simp[adr]);have n12:c.1≠c.2:=λz=>by simp[adr,z] at n4
 have kp:∀ b o,b≠c.2->H b=some o->upd H c.2 (.lst (us++[v])) b=some o:=λb o n e=>by rw[aq n];exact e
 have km:∀ b o,M b->H b=some o->upd H c.2 (.lst (us++[v])) b=some o:=λb o m e=>kp b o (λz=>nm _ hc2 (z▸m)) e;exact#[kp _ _ nac I.out,(l0.mono (λ_ m=>m) km λb hb o e=>kp b o (λz=>n5 b hb c.2 (by simp[adr]) z) e).snoc #[hv,_,kp _ _ n12 e1,Rep.mono (λ_ m=>m) km _ _ r1,au,(ay.mono (λ_ m=>m) km _ _ r2).append (ay.one (Rep.mono (λ_ m=>m) km _ _ rv))],I.nd,I.nm]
end
section
variable{K:Frag}{c:Ent}{M:Addr->Prop}{s s1:DS}{as:List Addr}{O:L2.St}{H:Hp}{E:Ends}
theorem IH{t1:kC}{T:TS}(L:aE K c M s as O H)(ht:t1 { nx:=(·=s1),rt:=λ_=>False } s)(k:∀ M' as' O' H',aE K c M' s1 as' O' H'->T E O' H'):pF (tS K c t1) T E O H :=
 #[M,s,as,_,L,ht,#[λs' as' M' O' H' e L' _=>by subst e;exact k M' as' O' H' L',λ_ _ _ _ _ h=>False.elim h,λ_ _ _ _ _ h=>False.elim h,λ_ _ _ _ h=>False.elim h,λ_ _ _ _ _ h=>False.elim h,λ_ _ _ _ _ _ _ h=>False.elim h]]
theorem GN{tt:mG}{t u:TS}(L:aE K c M s as O H)(ht:tt s λb s'=>b=true/\s'=s)(k:∀ M' H',aE K c M' s as O H'->t E O H'):Gq (tT K c tt) t u E O H :=
 #[M,s,as,_,L,ht,λb s' e M' H' L' _=>by let(rfl,rfl):=e;show (if true=true then _ else _);rw[if_pos U];exact k M' H' L']
theorem A3{tt:mG}{t u:TS}(L:aE K c M s as O H)(ht:tt s λb s'=>b=false/\s'=s)(k:∀ M' H',aE K c M' s as O H'->u E O H'):Gq (tT K c tt) t u E O H :=
 #[M,s,as,_,L,ht,λb s' e M' H' L' _=>by let(rfl,rfl):=e;show (if false=true then _ else _);rw[if_neg (by decide)];exact k M' H' L']
theorem V8{te:bH}{d:D}{Q:VK}(L:aE K c M s as O H)(ht:te s λd' s'=>d'=d/\s'=s)(k:∀ M' H' v,aE K c M' s as O H'->Rep K H' M' d v->Q v H'):tE K c te O H Q :=
 #[M,s,as,_,L,ht,λd' s' e M' H' v L' _ r=>by let(rfl,rfl):=e;exact k M' H' v L' r]
end
section
variable{X:Cx}{M0:Addr->Prop}{H0:Hp}{i:Nat}{e1 e2 en ez eo:Expr}{p1 p2 pos:Pos}
def HU(H0:Hp)(i:Nat):bH:=λs Q=>∃ a,s.sl[i]?=some (.dat (.fN a))/\((H0 a=some (.lst [])/\Q .cw s)\/∃ p b ys x,H0 a=some (.lst (p++[.ref b]))/\H0 b=some (.lst (.str x::ys))/\Q (.str x) s)
theorem Lm(h1:PE X e1 (bz i))(h2:PE X e2 (bz i))(h3:PE X en (tC (.int (-1))))(h4:PE X ez (tC (.int 0)))(h5:PE X eo (tC .cw))(hw:∀ whole,isTrue e1 X.env whole=(do let v <- whole;standAt e1.pos;holding [v] (truthy v)):=by intro _;rfl)(q1:iS en:=by intro _ _;rfl)(q2:iS ez:=by intro _ _;rfl) :
  DE X #[.no,M0,H0] (.IfExp e1 (.Subscript (.Subscript e2 en p1) ez p2) eo pos) (HU H0 i):=#[(xt (mC h1 hw) (dO bO (dO bO h2 h3 q1) h4 q2) h5).imp λO H Q zz=>d7 zz λM s as R L q kk=>by
 let(a,hs,q):=q;let(v,hv,rv):=L.dat i _ hs;cases (show v=.ref a from rv);rcases q with ⟨h0,q⟩ | ⟨p,b,ys,x,h0,hb,q⟩
 .have ha:=L.base.fr a _ h0 λz=>z;refine#[_,hv,false,.inl #[[],cn.of ha,U],?_];show (if false=true then _ else _);rw[if_neg (by decide)];exact kk .cw s q M H .cw L .refl U
 .have ha:=L.base.fr a _ h0 λz=>z;have hb:=L.base.fr b _ hb λz=>z;refine#[_,hv,true,.inl #[_,cn.of ha,by simp],?_];show (if true=true then _ else _);rw[if_pos U];exact#[_,hv,a,_,-1,.ref b,U,U,cn.of ha,ft _ _,b,_,0,.str x,U,U,cn.of hb,bU,kk (.str x) s q M H (.str x) L .refl U]]
end
end DL
namespace DL
open PySem L2 PyProof.Rows
section
variable{P:Program}{w:World}{K:Frag}{mg:Str->Option Value}{base:Heap}{q:D3}{k m:Nat}{sp:Sp}
theorem C4.ra{d l:Addr}{t:Addr->List D->D->(D->D->Prop)->Prop}(h:∀ r,C4 P w K mg base aD q k (xX K d l r (t r))):C4 P w K mg base aD q k (A4 K d l t):=by
 let(f,fd,_,F,m,b):=h default;refine#[f,fd,S8 λr=>?_,F,m,b];let(f2,fd2,J,F2,m2,_):=h r;rw[m] at m2;cases m2;let(oc,od,kV,doc,pm,an,a9,ct,xU,e,lk,_):=id F.ex;let(oc2,od2,kV2,doc2,pm2,an2,cdv2,ct2,osl2,e2,lk2,_):=id F2.ex;rw[lk] at lk2;cases lk2;exact J
theorem C4.up(g:C4 P w K mg base aD q k sp)(h:k<=m):C4 P w K mg base aD q m sp:=by
 let(f,fd,J,r):=g;exact#[f,fd,J.mono h,r]
theorem C4.KG{f:Addr}(g:C4 P w K mg base aD q k sp)(h:mg q.1=some (.ref f))(hk:k<=m):∃ fd ps,bV P w K mg base aD m f fd ps sp/\keepIn K (.ref f)=true/\Binds K fd ps []:=by
 let(f2,fd,J,F,m2,b):=g;rw[h] at m2;cases m2;exact#[fd,_,J.mono hk,F.kp,b]
end
end DL
section
local macro_rules
 | `(tactic|left)=>`(tactic|first|refine#[U,?_]|refine#[#[U,U],?_]|refine#[#[U,U,U],?_]|refine#[.inl U,?_]|refine#[.inr U,?_]|refine#[DL.bU,?_]|refine#[DL.GW,?_]|refine#[DL.FE,?_]|refine#[L2.ft _ _,?_]|(apply Exists.intro;left)|(refine Or.inl ?_;left)|(refine Or.inr ?_;left))
local macro_rules
 | `(tactic|right)=>`(tactic|repeat (first|refine DL.cq (by decide+kernel) ?_|refine DL.gn (by decide+kernel) ?_|left))
section
local macro_rules
 | `(tactic|trivial)=>`(tactic|repeat (first | refine DL.cq (by decide+kernel) ?_ | refine DL.gn (by decide+kernel) ?_ | refine#[_,U,?_] | refine#[_,_,_,U,U,U,?_] | refine#[_,_,_,U,U,DL.bU,?_] | refine#[_,_,U,U,?_] | refine#[#[U,U,U],?_] | refine#[_,.inr U,#[U,U],?_] | refine#[_,.inl U,#[U,U],?_] | refine#[_,.inr U,?_] | refine#[_,.inl U,?_] | refine#[_,_,U,U,U,?_] | refine .inl #[_,U,?_] | refine .inr #[_,_,U,U,?_] | refine#[_,_,_,U,U,?_] | refine#[#[U,U],?_]))
namespace QD
open PySem L2 DL
abbrev aa0(P w K mg base e n t):=DL.C4 P w K mg base aD e n (DL.hZ K .no t)
abbrev aa1(P w K mg base e n t):=DL.C4 P w K mg base aD e n (DL.aO K .no t)
def top(i:Nat):Stmt:=PySem.Challenge.pw_sideturn_k03_whole_programs_written_and.main.body.getD i (.Pass #[0,0,0,0])
abbrev dU:Stmt:=top 7
abbrev qG:D3:=("lies_between",dU,["text","first","last"])
theorem pC:ao ["text","first","last"] ["text","first","last"] (ag dU):=dA
abbrev nK:Stmt:=top 8
abbrev ky:D3:=("is_name",nK,["text"])
theorem ym:ao ["text"] ["text"] (ag nK):=dA
abbrev tM:Stmt:=top 9
abbrev kz:D3:=("is_kind",tM,["text"])
theorem yo:ao ["text"] ["text"] (ag tM):=dA
abbrev jk:Stmt:=top 10
abbrev j3:D3:=("is_number",jk,["text"])
theorem uS:ao ["text"] ["text"] (ag jk):=dA
abbrev ER:Stmt:=top 12
abbrev cR:D3:=("need",ER,["holds"])
theorem FO:ao ["holds"] ["holds"] (ag ER):=dA
abbrev tR:Stmt:=top 13
abbrev cQ:D3:=("name_in",tR,["item"])
theorem za:ao ["item"] ["item"] (ag tR):=dA
abbrev uq:Stmt:=top 14
abbrev fJ:D3:=("kind_in",uq,["item"])
theorem zo:ao ["item"] ["item"] (ag uq):=dA
abbrev ur:Stmt:=top 15
abbrev eS:D3:=("term_in",ur,["item"])
theorem yu:ao ["item"] ["item"] (ag ur):=dA
abbrev rV:Stmt:=top 16
abbrev dX:D3:=("terms_in",rV,["items"])
theorem xv:ao ["items"] ["items"] (ag rV):=dA
abbrev eu:Stmt:=top 17
theorem nW:ao ["items","sign","groups","item"] ["items","sign"] (ag eu):=dA
abbrev jx:Stmt:=top 18
abbrev eX:D3:=("inner_row_in",jx,["group"])
theorem jc:ao ["group","names"] ["group"] (ag jx):=dA
abbrev iZ:Stmt:=top 19
abbrev dg:D3:=("inner_rows_in",iZ,["groups"])
theorem nQ:ao ["groups"] ["groups"] (ag iZ):=dA
abbrev mJ:Stmt:=top 20
abbrev uL:D3:=("op_in",mJ,["sign","items"])
theorem E8:ao ["sign","items"] ["sign","items"] (ag mJ):=dA
abbrev ij:Stmt:=top 21
abbrev og:D3:=("zero_in",ij,["word","items"])
theorem yF:ao ["word","items"] ["word","items"] (ag ij):=dA
abbrev jA:Stmt:=top 22
abbrev qr:D3:=("let_in",jA,["word","items"])
theorem BA:ao ["word","items"] ["word","items"] (ag jA):=dA
abbrev ib:Stmt:=top 23
abbrev om:D3:=("make_in",ib,["word","items"])
theorem yD:ao ["word","items"] ["word","items"] (ag ib):=dA
abbrev jl:Stmt:=top 24
abbrev qJ:D3:=("ask_in",jl,["word","items"])
theorem BF:ao ["word","items"] ["word","items"] (ag jl):=dA
abbrev hV:Stmt:=top 25
abbrev oG:D3:=("case_in",hV,["word","items"])
theorem lD:ao ["word","items","groups","head"] ["word","items"] (ag hV):=dA
abbrev jC:Stmt:=top 26
abbrev rX:D3:=("new_in",jC,["word","items"])
theorem uf:ao ["word","items","groups"] ["word","items"] (ag jC):=dA
abbrev mz:Stmt:=top 28
abbrev gc:D3:=("bracket_in",mz,["items"])
theorem sR:ao ["items"] ["items"] (ag mz):=dA
abbrev qt:Stmt:=top 29
abbrev iE:D3:=("items_of",qt,["row"])
theorem eR:ao ["row","frames","word","bare","k","closed"] ["row"] (ag qt):=dA
abbrev hJ:Stmt:=top 30
abbrev dZ:D3:=("pieces_of_rows",hJ,["rows"])
theorem cA:ao ["rows","pieces","name","names","term"] ["rows"] (ag hJ):=dA
abbrev gL:Stmt:=top 31
abbrev dD:D3:=("pieces_of_terms",gL,["terms"])
theorem eK:ao ["terms","pieces","term"] ["terms"] (ag gL):=dA
abbrev oV:Stmt:=top 32
abbrev gS:D3:=("pieces_of",oV,["term"])
theorem lO:ao ["term","word"] ["term"] (ag oV):=dA
abbrev oT:Stmt:=top 33
abbrev gX:D3:=("show_term",oT,["term"])
theorem gj:ao ["term","signs","ahead","piece"] ["term"] (ag oT):=dA
abbrev oM:Stmt:=top 35
abbrev gU:D3:=("makers_in",oM,["kind"])
theorem ve:ao ["kind"] ["kind"] (ag oM):=dA
abbrev o5:Stmt:=top 36
abbrev gK:D3:=("askers_in",o5,["kind"])
theorem vp:ao ["kind"] ["kind"] (ag o5):=dA
abbrev jN:Stmt:=top 38
abbrev fc:D3:=("terms_within",jN,["term"])
theorem i5:ao ["term","word"] ["term"] (ag jN):=dA
abbrev Am:Stmt:=top 39
abbrev pS:D3:=("parts",Am,["term"])
theorem lV:ao ["term","told","ahead","part"] ["term"] (ag Am):=dA
abbrev k7:Stmt:=top 41
abbrev eE:D3:=("show_fields",k7,["name","fields"])
theorem fh:ao ["name","fields","words","field","kind"] ["name","fields"] (ag k7):=dA
abbrev mI:Stmt:=top 42
abbrev fo:D3:=("show_maker",mI,["maker"])
theorem sP:ao ["maker"] ["maker"] (ag mI):=dA
abbrev mS:Stmt:=top 43
abbrev fi:D3:=("show_asker",mS,["asker"])
theorem sT:ao ["asker"] ["asker"] (ag mS):=dA
abbrev mP:Stmt:=top 44
abbrev e9:D3:=("show_cells",mP,["rows"])
theorem sG:ao ["rows"] ["rows"] (ag mP):=dA
abbrev oO:Stmt:=top 45
abbrev gP:D3:=("made_rows",oO,["kind"])
theorem iB:ao ["kind","told","function"] ["kind"] (ag oO):=dA
abbrev mV:Stmt:=top 46
abbrev gf:D3:=("asked_rows",mV,["kind"])
theorem g6:ao ["kind","told","table"] ["kind"] (ag mV):=dA
abbrev xh:Stmt:=top 47
abbrev lQ:D3:=("use_of",xh,["part"])
theorem BC:ao ["part"] ["part"] (ag xh):=dA
abbrev uh:Stmt:=top 48
abbrev kg:D3:=("uses_in",uh,["kind"])
theorem eQ:ao ["kind","uses","table","name","term","part","use"] ["kind"] (ag uh):=dA
abbrev t7:Stmt:=top 49
abbrev kJ:D3:=("told_in",t7,["kind"])
theorem iL:ao ["kind","told","maker","asker"] ["kind"] (ag t7):=dA
abbrev jt:Stmt:=top 50
abbrev fg:D3:=("uses_between",jt,["program"])
theorem bY:ao ["program","told","names","kind","uses","other","others"] ["program"] (ag jt):=dA
abbrev oX:Stmt:=top 51
abbrev fV:D3:=("crossings",oX,["program"])
theorem fq:ao ["program","crossed","kind","other","many"] ["program"] (ag oX):=dA
abbrev mM:Stmt:=top 52
abbrev fj:D3:=("cross_rows",mM,["program"])
theorem sL:ao ["program"] ["program"] (ag mM):=dA
abbrev jq:Stmt:=top 53
abbrev fu:D3:=("rows_of_kind",jq,["kind"])
theorem pk:ao ["kind"] ["kind"] (ag jq):=dA
abbrev Ak:Stmt:=top 54
abbrev qb:D3:=("shown",Ak,["program"])
theorem qg:ao ["program","rows","kind"] ["program"] (ag Ak):=dA
abbrev si:Stmt:=top 56
abbrev gD:D3:=("maker_in",si,["items"])
theorem o6:ao ["items","fields"] ["items"] (ag si):=dA
abbrev rM:Stmt:=top 57
abbrev iM:D3:=("asker_in",rM,["items"])
theorem xI:ao ["items"] ["items"] (ag rM):=dA
abbrev uC:Stmt:=top 58
abbrev kE:D3:=("cell_in",uC,["group"])
theorem yW:ao ["group"] ["group"] (ag uC):=dA
abbrev qZ:Stmt:=top 59
abbrev iJ:D3:=("cells_in",qZ,["groups"])
theorem xx:ao ["groups"] ["groups"] (ag qZ):=dA
abbrev jO:Stmt:=top 60
abbrev fA:D3:=("name_of_kind",jO,["head"])
theorem pA:ao ["head"] ["head"] (ag jO):=dA
abbrev rL:Stmt:=top 61
abbrev iA:D3:=("take_row",rL,["kinds","items"])
theorem dP:ao ["kinds","items","groups","head","word","side","makers","askers"] ["kinds","items"] (ag rL):=dA
abbrev jm:Stmt:=top 62
abbrev eW:D3:=("is_cross_row",jm,["row"])
theorem pG:ao ["row"] ["row"] (ag jm):=dA
abbrev gJ:Stmt:=top 63
abbrev dF:D3:=("first_cross_row",gJ,["rows"])
theorem eO:ao ["rows","number","row"] ["rows"] (ag gJ):=dA
abbrev mf:Stmt:=top 64
abbrev gh:D3:=("read_kinds",mf,["rows"])
theorem fR:ao ["rows","kinds","number","row"] ["rows"] (ag mf):=dA
abbrev oH:Stmt:=top 65
abbrev gY:D3:=("need_rows",oH,["rows","due","first"])
theorem mZ:ao ["rows","due","first","k"] ["rows","due","first"] (ag oH):=dA
abbrev D8:Stmt:=top 66
abbrev vN:D3:=("read",D8,["text"])
theorem pX:ao ["text","rows","first","program"] ["text"] (ag D8):=dA
abbrev rS:Stmt:=top 68
abbrev iQ:D3:=("_law_deal",rS,["_law_script","_law_base"])
abbrev qd:Stmt:=top 69
abbrev cg:D3:=("_law_draw",qd,["_law_deal_here","_law_many"])
abbrev cF:Stmt:=top 70
abbrev gO:D3:=("_law_words",cF,["_law_deal_here","_law_many"])
theorem bj:ao ["_law_deal_here","_law_many","_law_letters","_law_core","_law_at","_law_turn","_law_found","_law_k","_law_own","_law_word","_law_near"] ["_law_deal_here","_law_many"] (ag cF):=dA
abbrev jG:Stmt:=top 71
abbrev bR:D3:=("_law_any_name",jG,["_law_deal_here","_law_words_here"])
theorem pf:ao ["_law_deal_here","_law_words_here"] ["_law_deal_here","_law_words_here"] (ag jG):=dA
abbrev jo:Stmt:=top 72
abbrev cT:D3:=("_law_any_kind",jo,["_law_deal_here","_law_words_here"])
theorem pL:ao ["_law_deal_here","_law_words_here"] ["_law_deal_here","_law_words_here"] (ag jo):=dA
abbrev ja:Stmt:=top 73
abbrev cY:D3:=("_law_any_terms",ja,["_law_deal_here","_law_words_here","_law_room","_law_down","_law_most"])
theorem oj:ao ["_law_deal_here","_law_words_here","_law_room","_law_down","_law_most"] ["_law_deal_here","_law_words_here","_law_room","_law_down","_law_most"] (ag ja):=dA
abbrev jP:Stmt:=top 74
abbrev dR:D3:=("_law_any_rows",jP,["_law_deal_here","_law_words_here","_law_room","_law_down"])
theorem c7:ao ["_law_deal_here","_law_words_here","_law_room","_law_down","_law_found","_law_k","_law_head","_law_names"] ["_law_deal_here","_law_words_here","_law_room","_law_down"] (ag jP):=dA
abbrev jV:Stmt:=top 75
abbrev cS:D3:=("_law_any_term",jV,["_law_deal_here","_law_words_here","_law_room","_law_down"])
theorem c5:ao ["_law_deal_here","_law_words_here","_law_room","_law_down","_law_form","_law_one","_law_other","_law_some"] ["_law_deal_here","_law_words_here","_law_room","_law_down"] (ag jV):=dA
abbrev hX:Stmt:=top 76
abbrev d9:D3:=("_law_any_fields",hX,["_law_deal_here","_law_words_here"])
theorem mU:ao ["_law_deal_here","_law_words_here"] ["_law_deal_here","_law_words_here"] (ag hX):=dA
abbrev jQ:Stmt:=top 77
abbrev fe:D3:=("_law_any_head",jQ,["_law_deal_here","_law_words_here","_law_is_maker"])
theorem iY:ao ["_law_deal_here","_law_words_here","_law_is_maker","_law_head"] ["_law_deal_here","_law_words_here","_law_is_maker"] (ag jQ):=dA
abbrev gQ:Stmt:=top 78
abbrev dG:D3:=("_law_any_program",gQ,["_law_deal_here","_law_words_here","_law_room"])
theorem aI:ao ["_law_deal_here","_law_words_here","_law_room","_law_found","_law_kinds","_law_most","_law_k","_law_side","_law_heads","_law_tables","_law_j","_law_rows_here","_law_at","_law_own","_law_name"] ["_law_deal_here","_law_words_here","_law_room"] (ag gQ):=dA
abbrev mh:Stmt:=top 79
abbrev bQ:D3:=("_law_within",mh,["_law_term"])
theorem du:ao ["_law_term","_law_found","_law_part"] ["_law_term"] (ag mh):=dA
abbrev i0:Stmt:=top 80
abbrev eI:D3:=("_law_term_text",i0,["_law_term"])
theorem aT:ao ["_law_term","_law_told","_law_rows_here","_law_row","_law_text"] ["_law_term"] (ag i0):=dA
abbrev i8:Stmt:=top 81
abbrev eJ:D3:=("_law_head_text",i8,["_law_head"])
theorem ee:ao ["_law_head","_law_words_here","_law_name","_law_kind"] ["_law_head"] (ag i8):=dA
abbrev jI:Stmt:=top 82
abbrev fz:D3:=("_law_own_rows",jI,["_law_kind"])
theorem bI:ao ["_law_kind","_law_side","_law_kk","_law_heads","_law_tables","_law_found","_law_table","_law_cells"] ["_law_kind"] (ag jI):=dA
abbrev k8:Stmt:=top 83
abbrev fQ:D3:=("_law_crossed",k8,["_law_kind","_law_other"])
theorem bE:ao ["_law_kind","_law_other","_law_makers","_law_askers","_law_left","_law_table","_law_many","_law_term"] ["_law_kind","_law_other"] (ag k8):=dA
abbrev i7:Stmt:=top 84
abbrev cZ:D3:=("_law_crossings",i7,["_law_program"])
theorem d8:ao ["_law_program","_law_found","_law_one","_law_other"] ["_law_program"] (ag i7):=dA
abbrev rj:Stmt:=top 85
abbrev iP:D3:=("_law_rows",rj,["_law_program"])
theorem j8:ao ["_law_program","_law_found","_law_kind"] ["_law_program"] (ag rj):=dA
abbrev oZ:Stmt:=top 86
abbrev gT:D3:=("_law_alike",oZ,["_law_one","_law_other"])
theorem uT:ao ["_law_one","_law_other"] ["_law_one","_law_other"] (ag oZ):=dA
abbrev oQ:Stmt:=top 87
abbrev gI:D3:=("_law_right",oQ,["_law_program"])
theorem gk:ao ["_law_program","_law_text","_law_found","_law_told"] ["_law_program"] (ag oQ):=dA
abbrev ni:Stmt:=top 88
theorem rq:ao ["_law_script","_law_deal_here","_law_words_here","_law_one","_law_other"] ["_law_script"] (ag ni):=dA
structure Txt(K:Frag)(mg:Str->Option Value):Prop where
 all:mg "all"=none
 bool:mg "bool"=none
 enumerate:mg "enumerate"=none
 int:mg "int"=none
 sx:mg "isinstance"=none
 len:mg "len"=none
 list:mg "list"=none
 max:mg "max"=none
 min:mg "min"=none
 range:mg "range"=none
 rev:mg "reversed"=none
 str:mg "str"=none
 sum:mg "sum"=none
 tuple:mg "tuple"=none
 zip:mg "zip"=none
section
variable{P:Program}{w:World}{K:Frag}{mg:Str->Option Value}{base:Heap}
theorem cx{b b':Bool}{A B:Prop}(h:b=b')(q1:b'=true->A)(q2:b'=false->B):if b=true then A else B:=by
 subst h;cases b with
 | true=>exact mF (q1 U)
 | false=>exact sJ (q2 U)
theorem BB{ws:List Str}:(ws.map D.str).all hW=true:=by
 rw[List.all_map];exact Y2.mpr λ_ _=>rfl
theorem GG{ws:List Str}:(ws.map D.str).map fv=ws.map V.str:=by
 rw[YF]
 rfl
theorem Gz{zs:List Str}{r:Int}(h0:0<=r)(h1:r < zs.length):∃ z∈zs,iz (zs.map D.str) r=some (.str z):=by
 have hj:r.toNat < zs.length:=by cbv
 refine#[zs[r.toNat],List.getElem_mem hj,?_];have e:(r.toNat:Int)=r:=Int.toNat_of_nonneg h0;have q:=fT (xs:=zs.map D.str) (j:=r.toNat) (v:=.str zs[r.toNat]) (by simp[hj]);rw[e] at q;exact q
theorem xA:∀ (ys:List D),(∀ y∈ys,∃ ch,(97<=ch/\ch<=122)/\y=D.str #[#v[ch]])->∃ cs:List Nat,ys=(cs.map λc=>(#[#v[c]]:Str)).map D.str/\(∀ c∈cs,97<=c/\c<=122)/\cs.length=ys.length
 | [],_=>#[[],U,λ_ h=>absurd h (by simp),U]
 | y::ys,h=>by
  let(ch,hc,e):=h y Ym;let(cs,e2,h2,h3):=xA ys λz hz=>h z (Yo _ hz);subst e;refine#[ch::cs,by rw[e2];simp,λc hm=>?_,by simp[h3]];rcases Yn.mp hm with rfl | hm
  .exact hc
  .exact h2 c hm
theorem Dp{d l:Addr}(iW:C4 P w K mg base aD cg 1 (aO K (b4 d l) (mR d)))(F:Own K mg gO)(T:Txt K mg):C4 P w K mg base aD gO 2 (aO K (b4 d l) (D9 d)):=by
 refine F.d (nos:=1) bj (λds R h=>?_) λf a9 A outer s H E M hr=>?_
 .let(m,rfl,_):=h
  rfl
 have hb:aS cF=MK (aS cF) 6 (CY ((aS cF).getD 6 Bq)):=rfl;have ha:vI (CY ((aS cF).getD 6 Bq))=true:=rfl;have hz:Ah (CY ((aS cF).getD 6 Bq))=cV.near:=rfl;have hl3:(CY ((aS cF).getD 6 Bq)).length=cV.near.length:=rfl;generalize CY ((aS cF).getD 6 Bq)=es at hb ha hz hl3;have hn:(es.length<=1000:Bool)=true:=by rw[hl3];decide
 rw[hb];refine#[_,(af (lg (eg (i:=2) bj.nd U (Or.inr U) (DE.pe ak)))
 (af (sS 3 bj.nd (eh ak (aa (DN.de (nC ["_law_k"] [2,0] (dN U T.range (aa (aG hr iW (aa (vd 0) (aa ah ae))) ae)) (λ_ _ _ _=>(gM 0 ["_law_k","_law_letters","_law_deal_here"])) (λ_ _ _ _=>bh)
 (λ_ _ _ _=>(AV vy DV (vd 1) (aG hr iW (aa (vd 2) (aa ah ae))) (λ_ _=>rfl))))) ae)))
 (af (sS 4 bj.nd (aG hr iW (aa (vd 0) (aa (bb cN jg (a8 fB IM U T.len Zj (aa (vd 3) ae)) ah) ae))))
 (af (sS 5 bj.nd (aG hr iW (aa (vd 0) (aa ah ae))))
 (af (sN 0 6 bj.nd (aH ae))
 (af (sF (dN U T.range (aa (vd 1) ae)) (gN 7 bj.nd)
 (af (sS 8 bj.nd (AV vy DV (vd 2) (bb gr NJ (bb cN jg (vd 5) (bb lC NJ ah (vd 7))) ah) (λ_ _=>rfl)))
 (af (sS 9 bj.nd (bb aA a7 (bb aA a7 (bb aA a7 (bb aA a7 (xP (vd 3) bD (bA (vd 4))) (vd 8)) (xP (vd 3) (bA (vd 4)) bD)) (bb qP ET ak (bb gr NJ (vd 7) ah))) (bb qP ET ak (bb vV NJ (vd 7) ah))))
 (af (bK (aF dq okIn (vd 9) (aW (aa ak (aa ak (aa ak (aa ak (aa ak (aa ak (aa ak ae)))))))) U)
 (ai (sS 9 bj.nd (bb aA a7 (vd 9) ak)))
 aL)
 (af (bK (aF dq okIn (vd 9) (aW (aa ak (aa ak (aa ak (aa ak (aa ak (aa ak ae))))))) U)
 (ai (sS 9 bj.nd (bb aA a7 (vd 9) ak)))
 aL)
 (ai (sE 6 (aa (vd 9) ae))))))))
 (af (sS 10 bj.nd (DN.de (aH (Gi ha hz hl3) hn)))
 (af (sS 9 bj.nd (ic (vd 10) (aG hr iW (aa (vd 0) (aa ah ae)))))
 (af (bK (DW.dt (jJ (aF aM bx (aG hr iW (aa (vd 0) (aa ah ae))) ah (ax _)) (kA (Jq m7 (vd 9) (pv 6) U))))
 (ai (pR (rT (DE.pe (vd 9)) (vn (pv 6) (DE.pe (aG hr iW (aa (vd 0) (aa (vd 1) ae)))) set_list))))
 aL)
 (ai (aP (zF (pv 6))))))))))))),λds R h=>?_]
 .let(m,rfl,(hm0,hm1),q):=h;trivial;refine#[#[by decide,by decide],λr r0 r1=>?_];refine#[r,U,#[by cbv,by cbv],?_];refine lq (λy=>∃ ch,(97<=ch/\ch<=122)/\y=D.str #[#v[ch]]) _ (λx hx k hk=>?_) λys hyl hyp=>?_
  .refine#[_,U,_,U,_,U,#[by decide,by decide],λa a0 a1=>?_];exact#[_,_,_,U,U,by decide+kernel,zJ a0 a1,hk _ _ #[_,#[by cbv,by cbv],U] rfl]
  let(cs,e1,hcs,hcl):=xA ys hyp;subst e1;have hcl':cs.length<=4:=by
   have:(dQ 0 r.toNat).length=r.toNat:=by simp[dQ]
   rw[hcl,hyl,this];cbv
  refine#[cs.map λc=>(#[#v[c]]:Str),U,?_,?_]
  .rw[cV.wu,Yk];show cs.length+cs.length * 0<=16777216;cbv
  have hcore:(Txt.join ("":Str) (cs.map λc=>(#[#v[c]]:Str))).length<=4:=by
   have:=cV.join_ones cs;cbv
  have hlw:Lw (Txt.join ("":Str) (cs.map λc=>(#[#v[c]]:Str))):=λc hc=>by
   rw[xM] at hc;exact hcs c hc
  generalize Txt.join ("":Str) (cs.map λc=>(#[#v[c]]:Str))=core at hcore hlw;have hsz:(1000:Nat)<=sizeLine:=by decide
  refine#[_,U,_,U,_,U,by omega,_,_,U,U,_,U,#[by omega,by omega],λat_' a0 a1=>?_];refine#[_,U,_,U,#[by decide,by decide],λtn t0 t1=>?_];refine#[#[U,U],_,U,m,U,#[by cbv,by cbv],?_];have h2s:=Bc (x:=core) (i:=at_') a0 (by cbv);have hL1:=hlw.slice none (some at_');have hL2:=hlw.slice (some at_') none;generalize Bu:Txt.slice core none (some at_')=pre at h2s hL1;generalize hpost:Txt.slice core (some at_') none=post at h2s hL2;refine jY (λxs s=>∃ (ws:List Str) (a b e:Sl),(∀ (i:Nat) (x:D),xs[i]?=some x->x=D.int ((ws.length+i:Nat):Int))/\ws.length+xs.length=m.toNat/\wC pre.cps.toList post.cps.toList tn.toNat ws/\s=#[[.dat (.fN d),.dat (.int m),.dat (.str cV.Nr),.dat (.str core),.dat (.int at_'),.dat (.int tn),.own 0,a,b,e,.no],[some (.lst (ws.map D.str))]]) ?_ ?_ _ _ #[[],.no,.no,.no,?_,?_,λ_ _ h=>absurd h (by simp),U]
  .rintro s ⟨ws,a,b,e,h1,h2,h3,rfl⟩
   replace h2:ws.length=m.toNat:=h2
   trivial;refine#[#[by decide,by decide],λr r0 r1=>?_];let(z,hz2,ez):=Gz (zs:=cV.near) r0 r1;have hzw:=Fw z hz2;refine#[_,_,_,U,U,ez,?_];refine#[_,U,_,U,#[by decide,by decide],λr2 r20 r21=>?_];refine#[#[U,U,U],_,U,?_];refine cx U (λ_=>?_) λ_=>?_
   .refine#[_,U,0,_,U,U,#[U,BB],_,U,?_];refine cx U (λhni=>?_) λ_=>?_
    .refine#[_,U,0,U,_,U,_,U,_,U,#[by cbv,by cbv],λr3 r30 r31=>?_];have hj:xZ (ws.map D.str).length r3=some r3.toNat:=by
      rw[Yk];unfold xZ;rw[if_pos (by cbv),if_pos (by cbv)]
     refine#[_,_,_,U,U,hj,?_];refine .inr #[0,_,U,U,?_];show R (.lst ((ws.map D.str).set r3.toNat (.str z)));rw[<- List.map_set];have hnz:z∉ws:=λhm=>by
      replace hni:(!lz (.str z) ((ws.map D.str).map fv))=true:=hni
      rw[GG,fw,decide_eq_true hm] at hni;cases hni
     refine q _ (by simpa using h2) (tU _ h3.nodup hnz) λy hy=>?_;rcases List.mem_or_eq_of_mem_set hy with hy | rfl
     .exact h3.nm y hy
     .exact hzw
    .exact .inr #[0,_,U,U,q ws h2 h3.nodup h3.nm]
   .exact .inr #[0,_,U,U,q ws h2 h3.nodup h3.nm]
  .rintro x xs s N ⟨ws,a,b,e,h1,h2,h3,rfl⟩ hN hE_;have hx:=h1 0 x U;subst hx
   replace h2:ws.length+(xs.length+1)=m.toNat:=h2
   have hk:ws.length < 60:=by cbv
   trivial;refine#[.inl #[by decide,by decide],?_];refine#[_,_,U,U,?_];refine#[_,_,U,U,(show (0:Int) < 26 by decide),?_];have ea:=zJ (r:=(tn+7 * ((ws.length+0:Nat):Int)) % 26) (Zv _ (by decide)) (Zr _ (by decide));refine#[_,_,_,U,U,by decide+kernel,ea,?_];rw[show ((tn+7 * ((ws.length+0:Nat):Int)) % 26).toNat=(tn.toNat+7 * ws.length) % 26 by cbv];have BR:97<=97+(tn.toNat+7 * ws.length) % 26/\97+(tn.toNat+7 * ws.length) % 26<=122:=#[by cbv,by cbv];let(mx,ox):=zW (c:=120) (n:=((ws.length+0:Nat):Int) % 2) (Zv _ (by decide)) (by cbv);let(my,oy):=zW (c:=121) (n:=((ws.length+0:Nat):Int) / 26) (by cbv) (by cbv);rw[show (((ws.length+0:Nat):Int) % 2).toNat=ws.length % 2 by cbv] at mx;rw[show (((ws.length+0:Nat):Int) / 26).toNat=ws.length / 26 by cbv] at my;generalize hmx:Txt.mul (#[#v[120]]:Str) (((ws.length+0:Nat):Int) % 2)=tx at mx;generalize hmy:Txt.mul (#[#v[121]]:Str) (((ws.length+0:Nat):Int) / 26)=ty at my;have lx:tx.length=ws.length % 2:=by rw[show tx.length=tx.cps.toList.length by simp[Str.length],mx,List.length_replicate]
   have ly:ty.length=ws.length / 26:=by rw[show ty.length=ty.cps.toList.length by simp[Str.length],my,List.length_replicate]
   have wx:Lw tx:=λc hc=>by rw[mx] at hc;have:=Z5 hc;cbv
   have wy:Lw ty:=λc hc=>by rw[my] at hc;have:=Z5 hc;cbv
   have hL:Lw (pre++(#[#v[97+(tn.toNat+7 * ws.length) % 26]]:Str)++post++tx++ty) :=
    (((hL1.app (λc hc'=>by simp at hc';subst hc';exact BR)).app hL2).app wx).app wy
   have HJ:(pre++(#[#v[97+(tn.toNat+7 * ws.length) % 26]]:Str)++post++tx++ty).length<=8/\1<=(pre++(#[#v[97+(tn.toNat+7 * ws.length) % 26]]:Str)++post++tx++ty).length:=by
    rw[cV.cL,cV.cL,cV.cL,cV.cL,cV.j9];cbv
   have hcp:(pre++(#[#v[97+(tn.toNat+7 * ws.length) % 26]]:Str)++post++tx++ty).cps.toList=wl pre.cps.toList post.cps.toList tn.toNat ws.length 0:=by
    rw[m8,m8,m8,m8,mx,my];simp[wl]
   refine#[_,U,_,U,_,U,_,U,by cbv,?_];rw[Bu];refine#[_,U,_,_,U,U,by rw[cV.j9];cbv,?_];refine#[_,U,_,U,_,U,_,U,by cbv,?_];rw[hpost];refine#[_,_,U,U,by rw[cV.cL,cV.j9];cbv,?_];refine#[_,U,_,_,U,U,(show (0:Int) < 2 by decide),?_];refine#[_,_,U,U,ox,?_];rw[show Txt.mul (Str.ofString "x") (((ws.length+0:Nat):Int) % 2)=tx from hmx];refine#[_,_,U,U,by rw[cV.cL,cV.cL,cV.j9];cbv,?_];refine#[_,U,_,_,U,U,#[by decide,by decide],?_];refine#[_,_,U,U,oy,?_];rw[show Txt.mul (Str.ofString "y") (((ws.length+0:Nat):Int) / 26)=ty from hmy];refine#[_,_,U,U,by rw[cV.cL,cV.cL,cV.cL,cV.j9];cbv,?_];generalize pre++(#[#v[97+(tn.toNat+7 * ws.length) % 26]]:Str)++post++tx++ty=wd at hL HJ hcp;have hLq:Lw ("q":Str):=by decide+kernel
   have hq1:("q":Str).length=1:=rfl;have hcq:(wd++("q":Str)).cps.toList=wl pre.cps.toList post.cps.toList tn.toNat ws.length 1:=by
    rw[m8,hcp];simp[wl]
    rfl
   have fin:∀ (u:Str) (a b:Sl) (e:Nat),Nm u->u.cps.toList=wl pre.cps.toList post.cps.toList tn.toNat ws.length e->N.nx #[[.dat (.fN d),.dat (.int m),.dat (.str cV.Nr),.dat (.str core),.dat (.int at_'),.dat (.int tn),.own 0,a,b,.dat (.str u),.no],[some (.lst (ws.map D.str++[D.str u]))]]:=λu a b e hu he=>by
    refine hN _ #[ws++[u],a,b,.dat (.str u),λi z hz=>?_,?_,h3.snoc hu he,by simp]
    .have:=h1 (i+1) z hz;rw[this];simp;cbv
    .rw[Yl];simp;cbv
   have nk:(ws.map D.str).length < sizeLine:=by
    rw[Yk];cbv
   refine#[_,U,?_];refine#[_,.inr U,#[U,U],_,U,?_];refine cx (b':=lz (.str wd) (tJ.map V.str)) U (λc1=>?_) λc1=>?_
   .rw[fw] at c1;have c1:=F7 wd (of_decide_eq_true c1);refine#[_,U,_,_,U,U,by cbv,?_];refine#[_,U,?_];refine#[_,.inr U,#[U,U],_,U,?_];refine cx (b':=lz (.str (wd++("q":Str))) (rB.map V.str)) U (λc2=>?_) λc2=>?_
    .rw[fw] at c2;exact absurd (of_decide_eq_true c2) c1.2.1
    .have nm:Nm (wd++("q":Str)):=#[hL.app hLq,by rw[cV.cL];cbv,by rw[cV.cL];cbv,c1.1,c1.2.1];exact#[0,_,U,U,U,_,U,_,U,_,_,U,U,nk,fin _ _ _ 1 nm hcq]
   .rw[fw] at c1;have c1:=of_decide_eq_false c1;refine#[_,U,?_];refine#[_,.inr U,#[U,U],_,U,?_];refine cx (b':=lz (.str wd) (rB.map V.str)) U (λc2=>?_) λc2=>?_
    .rw[fw] at c2;have c2:=Gr wd (of_decide_eq_true c2);have nm:Nm (wd++("q":Str)):=#[hL.app hLq,by rw[cV.cL];cbv,by rw[cV.cL];cbv,c2.1,c2.2.1];refine#[_,U,_,_,U,U,by cbv,?_];exact#[0,_,U,U,U,_,U,_,U,_,_,U,U,nk,fin _ _ _ 1 nm hcq]
    .rw[fw] at c2;exact#[0,_,U,U,U,_,U,_,U,_,_,U,U,nk,fin _ _ _ 0 #[hL,HJ.2,HJ.1,c1,of_decide_eq_false c2] hcp]
  .intro i x hx;unfold dQ at hx;rw[YS] at hx;let(j,hj,rfl):=YK.mp hx;let(_,e):=Yu.mp hj;simp at e;subst e;simp
  .simp[dQ]
def Ly(d:Addr):aav:=λds R=>∃ ws:List Str,ds=[.fN d,.lst (ws.map .str)]/\(0 < ws.length/\ws.length<=1000)/\∀ x∈ws,R (.str x)
theorem O2{d l:Addr}(iW:C4 P w K mg base aD cg 1 (aO K (b4 d l) (mR d)))(F:Own K mg bR)(T:Txt K mg):C4 P w K mg base aD bR 2 (aO K (b4 d l) (Ly d)):=by
 refine F.d (nos:=0) pf (λds R h=>?_) λf a9 A outer s H E M hr=>#[_,(ai (aP (ic (vd 1) (aG hr iW (aa (vd 0) (aa (fO T.len (aa (vd 1) ae)) ae)))))),λds R h=>?_]
 .let(ws,rfl,_):=h
  rfl
 .let(ws,rfl,(h0,h1),q):=h;refine#[_,U,?_];refine#[_,U,_,U,_,.inl U,_,U,#[by rw[Yk];omega,by rw[Yk];omega],λr r0 r1=>?_];rw[Yk] at r1;let(x,hx,ex):=qo (f:=D.str) (xs:=ws) r0 r1;exact#[_,_,_,U,U,ex,q x hx]
def Q4(d:Addr):aav:=λds R=>∃ ws:List Str,ds=[.fN d,.lst (ws.map .str)]/\(4<=ws.length/\ws.length<=1000)/\∀ x,(x∈ws\/x="number")->R (.str x)
theorem Na{d l:Addr}(iW:C4 P w K mg base aD cg 1 (aO K (b4 d l) (mR d)))(F:Own K mg cT)(T:Txt K mg):C4 P w K mg base aD cT 2 (aO K (b4 d l) (Q4 d)):=by
 refine F.d (nos:=0) pL (λds R h=>?_) λf a9 A outer s H E M hr=>#[_,(ai (aP (ic (DN.de (aH (aa (ic (vd 1) (aG hr iW (aa (vd 0) (aa ah ae)))) (aa (ic (vd 1) (aG hr iW (aa (vd 0) (aa (fO T.len (aa (vd 1) ae)) ae)))) (aa ak ae))))) (aG hr iW (aa (vd 0) (aa ah ae)))))),λds R h=>?_]
 .let(ws,rfl,_):=h
  rfl
 .let(ws,rfl,(h0,h1),q):=h;refine#[_,U,?_];refine#[_,U,_,U,#[by decide,by decide],λa a0 a1=>?_];let(x,hx,ex):=qo (f:=D.str) (xs:=ws) (r:=a) a0 (by cbv);refine#[_,_,_,U,U,ex,?_];refine#[_,U,?_];refine#[_,U,_,U,_,.inl U,_,U,#[by rw[Yk];omega,by rw[Yk];omega],λr r0 r1=>?_];rw[Yk] at r1;let(y,hy,ey):=qo (f:=D.str) (xs:=ws) r0 r1;refine#[_,_,_,U,U,ey,?_];refine#[_,U,_,U,#[by decide,by decide],λb b0 b1=>?_];have hb:b=0\/b=1\/b=2:=by cbv
  rcases hb with rfl | rfl | rfl
  .exact#[_,_,_,U,U,U,q x (.inl hx)]
  .exact#[_,_,_,U,U,U,q y (.inl hy)]
  .exact#[_,_,_,U,U,U,q "number" (.inr U)]
def NY(d r:Addr):Nat->List D->D->(D->D->Prop)->Prop
 | 0=>λ_ _ _=>False
 | n+1=>λds d0 R=>∃ (ws:List Str) (down:Int) (m:Nat),ds=[.fN d,.lst (ws.map .str),.fN r,.int down]/\d0=.lst [.int m]/\(ws.length=20/\(∀ x∈ws,Nm x)/\(0<=down/\10<=n+down/\down<=10)/\m<=9)/\∀ (t:Tm) (m':Nat),t.gt->t.dep<=n+1->t.g7+m'<=m->R (toD t) (.lst [.int m'])
def Wf(d r:Addr)(n:Nat):List D->D->(D->D->Prop)->Prop:=λds d0 R=>∃ (ws:List Str) (down most:Int) (m:Nat),ds=[.fN d,.lst (ws.map .str),.fN r,.int down,.int most]/\d0=.lst [.int m]/\(ws.length=20/\(∀ x∈ws,Nm x)/\(0<=down/\10<=n+down/\down<=10)/\m<=9/\0<=most/\most<=3)/\∀ (ts:List Tm) (m':Nat),(ts.length:Int)<=most->By (n+1) m ts m'->R (.tup (ts.map toD)) (.lst [.int m'])
def WW(d r:Addr)(n:Nat):List D->D->(D->D->Prop)->Prop:=λds d0 R=>∃ (ws:List Str) (down:Int) (m:Nat),ds=[.fN d,.lst (ws.map .str),.fN r,.int down]/\d0=.lst [.int m]/\(ws.length=20/\(∀ x∈ws,Nm x)/\(0<=down/\10<=n+down/\down<=10)/\m<=9)/\∀ (hs:List (Str×List Str)) (ts:List Tm) (m':Nat),n6 hs->ts.length=hs.length->By (n+1) m ts m'->R (.tup (aY hs (ts.map toD))) (.lst [.int m'])
theorem nv{k:Nat}{f:Addr}{fd:FuncData}{ps:List Str}{d l r:Addr}:bV P w K mg base aD k f fd ps (xX K d l r λ_ _ _=>False) :=
 #[λvs H Q E h=>by let(_,_,_,_,_,_,_,_,_,_,h,_):=h;exact h.elim,λA outer s H args us vs Q E hr he hb hv h=>by let(_,_,_,_,_,_,_,_,_,_,h,_):=h;exact h.elim]
theorem Oc{n:Nat}{d l r:Addr}(iW:C4 P w K mg base aD cg 1 (aO K (gR d l r) (mR d)))(Bm:C4 P w K mg base aD cS (2 * n+5) (xX K d l r (NY d r (n+1))))(F:Own K mg cY)(T:Txt K mg):C4 P w K mg base aD cY (2 * n+6) (xX K d l r (Wf d r n)):=by
 refine F.c λf fd F=>?_;refine QY (nos:=0) 2 F oj (λds d0 R h=>?_) λa9 A outer s H E M hr=>#[_,(ai (fZ (ia T.tuple (aa (DN.de (nC ["_law_k"] [0,1,2,3] (dN U T.range (aa (aG hr iW (aa (vd 0) (aa (bb cN jg (vd 4) ah) ae))) ae)) (λ_ _ _ _=>(gM 0 ["_law_k","_law_deal_here","_law_words_here","_law_room","_law_down"])) (λ_ _ _ _=>bh)
 (λ_ _ _ _=>(dJ hr Bm (aa (vd 1) (aa (vd 2) (aa (EL U (pv 3)) (aa (vd 4) ae)))))))) ae)))),λds d0 R h=>?_]
 .let(ws,down,most,m,rfl,_):=h;exact#[U,U]
 .let(ws,down,most,m,rfl,rfl,(nk,hw,hd,hm,hmo0,hmo),q):=h;refine#[_,U,_,U,_,_,U,U,?_];refine#[_,U,#[by cbv,by cbv],λc c0 c1=>?_];refine#[_,U,#[by cbv,by cbv],?_];refine sU (λxs acc os=>∃ (ts:List Tm) (m':Nat),acc=ts.map toD/\os=[some (.lst [.int m'])]/\By (n+1) m ts m'/\((ts.length:Int)+xs.length<=most)) ?_ ?_ _ _ _ #[[],m,U,U,By.nil,?_]
  .rintro x xs acc os ⟨ts,m',rfl,rfl,hI,hl⟩ k hk;have hi:=hI.g7;refine#[_,U,_,U,U,_,U,_,U,ws,down,m',U,U,#[nk,hw,#[by cbv,by cbv,by cbv],by cbv],λt m2 hg hdp hin=>?_];refine hk _ _ #[ts++[t],m2,by rw[Yr];rfl,U,hI.snoc hg hdp hin,?_];rw[Yl];rw[Yv] at hl;simp;cbv
  .rintro acc os ⟨ts,m',rfl,rfl,hI,hl⟩;refine#[_,.inl U,_,U,q ts m' ?_ hI];simpa using hl
  .simp[dQ];cbv
theorem qI:∀ (hs:List (Str×List Str)) (ts:List D) (h:Str×List Str) (k:D),hs.length=ts.length->aY (hs++[h]) (ts++[k])=aY hs ts++[oA h k]
 | [],[],h,k,_=>rfl
 | [],_::_,h,k,e=>by simp at e
 | _::_,[],h,k,e=>by simp at e
 | a::hs,t::ts,h,k,e=>by
  rw[List.cons_append,List.cons_append,aY,qI hs ts h k (by simpa using e)]
  rfl
theorem tK:∀ (hs:List (Str×List Str)) (l:List D),(aY hs l).length<=l.length
 | [],[]=>by simp[aY]
 | [],_::_=>by simp[aY]
 | _::_,[]=>by simp[aY]
 | _::hs,_::l=>by simpa [aY] using tK hs l
theorem MS{n:Nat}{d l r:Addr}(iW:C4 P w K mg base aD cg 1 (aO K (gR d l r) (mR d)))(yw:C4 P w K mg base aD bR 2 (aO K (gR d l r) (Ly d)))(Bm:C4 P w K mg base aD cS (2 * n+5) (xX K d l r (NY d r (n+1))))(F:Own K mg dR)(T:Txt K mg):C4 P w K mg base aD dR (2 * n+6) (xX K d l r (WW d r n)):=by
 refine F.c λf fd F=>?_;refine QY (nos:=1) 2 F c7 (λds d0 R h=>?_) λa9 A outer s H E M hr=>#[_,(af (sN 1 4 c7.nd (aH ae))
 (af (sF (dN U T.range (aa (aG hr iW (aa (vd 0) (aa ah ae))) ae)) (gN 5 c7.nd)
 (af (sS 6 c7.nd (aG hr yw (aa (vd 0) (aa (vd 1) ae))))
 (af (sS 7 c7.nd (ia T.tuple (aa (DN.de (nC ["_law_j"] [0,1] (dN U T.range (aa (aG hr iW (aa (vd 0) (aa ah ae))) ae)) (λ_ _ _ _=>(gM 0 ["_law_j","_law_deal_here","_law_words_here"])) (λ_ _ _ _=>bh)
 (λ_ _ _ _=>(aG hr yw (aa (vd 1) (aa (vd 2) ae)))))) ae)))
 (ai (sE 4 (aa (aW (aa (vd 6) (aa (vd 7) (aa (dJ hr Bm (aa (vd 0) (aa (vd 1) (aa (EL U (pv 2)) (aa (vd 3) ae))))) ae)))) ae))))))
 (ai (fZ (ia T.tuple (aa (zF (pv 4)) ae)))))),λds d0 R h=>?_]
 .let(ws,down,m,rfl,_):=h;exact#[U,U]
 .let(ws,down,m,rfl,rfl,(nk,hw,hd,hm),q):=h;have hsz:=aC;refine#[#[U,U],?_];refine#[_,U,_,U,#[by decide,by decide],λc c0 c1=>?_];refine#[_,U,#[by cbv,by cbv],?_];generalize hn:c.toNat=nc;have hnc:nc<=3:=by cbv
  refine jY (λxs s=>∃ (hs:List (Str×List Str)) (ts:List Tm) (m':Nat) (x5 x6 x7:Sl),(x5.pl=true/\x6.pl=true/\x7.pl=true)/\(∀ h∈hs,Nm h.1/\h.2.length<=3/\∀ n∈h.2,Nm n)/\ts.length=hs.length/\By (n+1) m ts m'/\FC xs hs.length nc/\s=#[[.dat (.fN d),.dat (.lst (ws.map .str)),.own 0,.dat (.int down),.own 1,x5,x6,x7],[some (.lst [.int m']),some (.lst (aY hs (ts.map toD)))]]) ?_ ?_ _ _ #[[],[],m,.no,.no,.no,#[U,U,U],λ_ h=>(nomatch h),U,By.nil,FC.init _,U]
  .rintro s ⟨hs,ts,m',x5,x6,x7,hp,hh,hl,hI,hR,rfl⟩;have hR:=hR.nil;exact .inr #[_,_,U,U,_,.inl U,_,U,q hs ts m' #[by cbv,hh] hl hI]
  .rintro x xs s N ⟨hs,ts,m',x5,x6,x7,hp,hh,hl,hI,hR,rfl⟩ hN hE_;let(rfl,hj,hR2):=hR.cons;have hi:=hI.g7;refine#[_,U,_,U,ws,U,#[by cbv,by cbv],λhd1 hhd=>?_];refine#[_,U,_,U,#[by decide,by decide],λa a0 a1=>?_];refine#[_,U,#[by cbv,by cbv],?_];refine lq (λy=>∃ z∈ws,y=D.str z) _ (λx hx k hk=>?_) λys hyl hyp=>?_
   .exact#[_,U,_,U,ws,U,#[by cbv,by cbv],λz hz=>hk _ _ #[z,hz,U] rfl]
   obtain⟨ns,e1,Cd⟩:∃ ns:List Str,ys=ns.map D.str/\∀ z∈ns,z∈ws:=by
    clear hyl
    induction ys with
    | nil=>exact#[[],U,λ_ h=>(nomatch h)]
    | cons y ys ih =>
     let(z,hz,rfl):=hyp y Ym;let(ns,e,h):=ih λy hy=>hyp y (Yo _ hy);refine#[z::ns,by rw[e];rfl,λu hu=>?_];rcases Yn.mp hu with rfl | hu
     .exact hz
     .exact h u hu
   subst e1;have hnl:ns.length<=3:=by
    rw[Yk] at hyl;have:(dQ 0 a.toNat).length=a.toNat:=by simp[dQ]
    cbv
   refine#[_,.inl U,?_];refine#[1,_,U,U,U,?_];refine#[_,U,_,U,?_];refine#[_,U,_,U,U,_,U,_,U,ws,down,m',U,U,#[nk,hw,#[by cbv,by cbv,by cbv],by cbv],λt m2 hg hdp hin=>?_];refine#[_,U,_,_,U,U,?_,?_]
   .have:=tK hs (ts.map toD);rw[Yk] at this;cbv
   refine hN _ #[hs++[(hd1,ns)],ts++[t],m2,.dat (.int hs.length),.dat (.str hd1),.dat (.tup (ns.map .str)),#[U,U,U],λh hh2=>?_,by simp[hl],hI.snoc hg hdp hin,by rw[List.length_append];exact hR2,?_]
   .rcases Yz.mp hh2 with hh2 | hh2
    .exact hh h hh2
    .rw[Yx.mp hh2];exact#[hw _ hhd,hnl,λz hz=>hw z (Cd z hz)]
   .rw[Yr,Yp,Y9,qI hs (ts.map toD) _ _ (by rw[Yk];exact hl.symm)]
    rfl
theorem FF{r:Int}(h0:0<=r)(h1:r < 3):∃ ch,iz ("+-*":Str).cps.toList r=some ch/\(#[#v[ch]]:Str)∈(["+","-","*"]:List Str):=by
 have h:r=0\/r=1\/r=2:=by cbv
 rcases h with rfl | rfl | rfl
 .exact#[43,by decide+kernel,by decide+kernel]
 .exact#[45,by decide+kernel,by decide+kernel]
 .exact#[42,by decide+kernel,by decide+kernel]
def NM(d r:Addr):Nat->List D->D->(D->D->Prop)->Prop
 | 0=>λ_ _ _=>False
 | n+1=>Wf d r n
def Nf(d r:Addr):Nat->List D->D->(D->D->Prop)->Prop
 | 0=>λ_ _ _=>False
 | n+1=>WW d r n
theorem Il{d l r:Addr}(iW:C4 P w K mg base aD cg 1 (aO K (gR d l r) (mR d)))(yw:C4 P w K mg base aD bR 2 (aO K (gR d l r) (Ly d)))(IW:C4 P w K mg base aD cT 2 (aO K (gR d l r) (Q4 d)))(LI:Own K mg cY)(LM:Own K mg dR)(LH:Own K mg cS)(T:Txt K mg):∀ n:Nat,C4 P w K mg base aD cS (2 * n+3) (xX K d l r (NY d r n))
 | 0=>LH.c λ_ _ _=>nv
 | n+1=>by
  have Bm:=Il iW yw IW LI LM LH T n;have GAT:C4 P w K mg base aD cY (2 * n+4) (xX K d l r (NM d r n)):=by
   cases n with
   | zero=>exact LI.c λ_ _ _=>nv
   | succ n=>exact Oc iW Bm LI T
  have GAR:C4 P w K mg base aD dR (2 * n+4) (xX K d l r (Nf d r n)):=by
   cases n with
   | zero=>exact LM.c λ_ _ _=>nv
   | succ n=>exact MS iW yw Bm LM T
  refine LH.c λfTe fdTe F_=>?_;refine QY (nos:=0) 2 F_ c5 (λds d0 R h=>?_) λa9 A outer s H E M hr=>#[_,(af (sS 4 c5.nd (aG hr iW (aa (vd 0) (aa ah ae))))
 (af (bK (DW.dt (ji (aF Hw mE (qU (dO bO (pv 2) (DE.pe ah) (λ_ _=>rfl))) ah (ax _)) (ji (aF mQ mE (vd 3) ah (ax _)) (nY (aF Hw mE (vd 4) ah (ax _))))))
 (af (bK (aF aM bx (aG hr iW (aa (vd 0) (aa ah ae))) ah (ax _))
 (ai (fZ (aW (aa ak (aa (aG hr yw (aa (vd 0) (aa (vd 1) ae))) ae)))))
 aL)
 (ai (fZ (aW (aa ak (aa (aG hr iW (aa (vd 0) (aa (ic (DN.de (aH (aa ah (aa ah (aa ah ae))))) (aG hr iW (aa (vd 0) (aa ah ae)))) ae))) ae))))))
 aL)
 (af (pR (rT (DE.pe (bb qO jg (qU (dO bO (pv 2) (DE.pe ah) (λ_ _=>rfl))) ah)) (vn (pv 2) (DE.pe ah) set_list)))
 (af (sS 5 c5.nd (dJ hr Bm (aa (vd 0) (aa (vd 1) (aa (EL U (pv 2)) (aa (bb cN jg (vd 3) ah) ae))))))
 (af (bK (aF aM bx (vd 4) ah (ax _))
 (ai (fZ (aW (aa ak (aa (AV vy DV ak (aG hr iW (aa (vd 0) (aa ah ae))) (λ_ _=>rfl)) (aa (vd 5) (aa (dJ hr Bm (aa (vd 0) (aa (vd 1) (aa (EL U (pv 2)) (aa (bb cN jg (vd 3) ah) ae))))) ae)))))))
 aL)
 (af (bK (aF aM bx (vd 4) ah (ax _))
 (af (sS 6 c5.nd (dJ hr Bm (aa (vd 0) (aa (vd 1) (aa (EL U (pv 2)) (aa (bb cN jg (vd 3) ah) ae))))))
 (ai (fZ (aW (aa ak (aa (vd 5) (aa (vd 6) (aa (dJ hr Bm (aa (vd 0) (aa (vd 1) (aa (EL U (pv 2)) (aa (bb cN jg (vd 3) ah) ae))))) ae))))))))
 aL)
 (af (bK (aF aM bx (vd 4) ah (ax _))
 (ai (fZ (aW (aa ak (aa (aG hr yw (aa (vd 0) (aa (vd 1) ae))) (aa (vd 5) (aa (dJ hr Bm (aa (vd 0) (aa (vd 1) (aa (EL U (pv 2)) (aa (bb cN jg (vd 3) ah) ae))))) ae)))))))
 aL)
 (af (bK (aF aM bx (vd 4) ah (ax _))
 (af (sS 7 c5.nd (dJ hr GAT (aa (vd 0) (aa (vd 1) (aa (EL U (pv 2)) (aa (bb cN jg (vd 3) ah) (aa ah ae)))))))
 (ai (fZ (aW (aa ak (aa (aG hr yw (aa (vd 0) (aa (vd 1) ae))) (aa (bb p9 vb (bb FW Kf (aW (aa (vd 5) ae)) (aG hr iW (aa (vd 0) (aa ah ae)))) (vd 7)) ae)))))))
 aL)
 (af (bK (aF aM bx (vd 4) ah (ax _))
 (ai (fZ (aW (aa ak (aa (vd 5) (aa (aG hr yw (aa (vd 0) (aa (vd 1) ae))) (aa (dJ hr GAT (aa (vd 0) (aa (vd 1) (aa (EL U (pv 2)) (aa (bb cN jg (vd 3) ah) (aa ah ae)))))) ae)))))))
 aL)
 (af (bK (aF aM bx (vd 4) ah (ax _))
 (ai (fZ (aW (aa ak (aa (vd 5) (aa (aG hr IW (aa (vd 0) (aa (vd 1) ae))) (aa (dJ hr GAR (aa (vd 0) (aa (vd 1) (aa (EL U (pv 2)) (aa (bb cN jg (vd 3) ah) ae))))) ae)))))))
 aL)
 (ai (fZ (aW (aa ak (aa (aG hr IW (aa (vd 0) (aa (vd 1) ae))) (aa (dJ hr GAR (aa (vd 0) (aa (vd 1) (aa (EL U (pv 2)) (aa (bb cN jg (vd 3) ah) ae))))) ae)))))))))))))))),λds d0 R h=>?_]
  .let(ws,down,m,rfl,_):=h;exact#[U,U]
  .let(ws,down,m,rfl,rfl,(nk,hw,hd,hm),q):=h;refine#[_,U,_,U,#[by decide,by decide],λfm f0 f1=>?_];refine' jn ?hleaf λhleaf=>?main
   case main =>
    refine#[0,U,_,_,_,U,U,U,?_];refine#[_,_,U,U,_,U,?_];refine cx U (λ_=>mF hleaf) λhm1=>?_;have hm1:1<=m:=by
     have:=of_decide_eq_false hm1;cbv
    refine#[_,U,_,_,U,U,_,U,?_];refine cx U (λ_=>mF hleaf) λhdn=>?_;have hdn:down<=9:=by
     have:=of_decide_eq_false hdn;cbv
    obtain⟨n,rfl⟩:∃ n',n=n'+1:=#[n - 1,by cbv];refine#[_,U,_,_,U,U,_,U,?_];refine cx U (λ_=>hleaf) λhfm=>?_;have hfm:2<=fm:=by
     have:=of_decide_eq_false hfm;cbv
    clear hleaf;obtain⟨m,rfl⟩:∃ m0,m=m0+1:=#[m - 1,by cbv];refine#[0,U,_,_,_,U,U,U,_,_,U,U,0,U,_,_,0,U,U,U,?_];rw[show ((m+1:Nat):Int) - 1=(m:Int) by cbv];have call:∀ (m1:Nat),m1<=m->∀ Q:D->D->Prop,(∀ (t:Tm) (m':Nat),t.gt->t.dep<=n+1->t.g7+m'<=m1->Q (toD t) (.lst [.int m']))->NY d r (n+1) [.fN d,.lst (ws.map .str),.fN r,.int (down+1)] (.lst [.int m1]) Q:=λm1 h1 Q hQ=>#[ws,down+1,m1,U,U,#[nk,hw,#[by cbv,by cbv,by cbv],by cbv],hQ];have fin:∀ (f:Fm) (ts:List Tm) (m':Nat),f.w=1->dY f ts.length->kI ts->pH ts<=n+1->dM ts+m'<=m->R (toD (.node f ts)) (.lst [.int m']):=λf ts m' hf aN hg hdp hin=>q (.node f ts) m' #[aN,hg] (Ze hdp) (by
     show f.w+dM ts+m'<=m+1;cbv)
    refine#[_,U,_,U,U,_,U,_,_,U,U,_,U,call m (Ys _) _ λt1 m1 g1 d1 i1=>?_];have l1:m1<=m:=by cbv
    refine#[_,U,#[U,U,U],_,U,?_];refine cx U (λ_=>?_) λ_=>?_
    .refine#[_,U,_,U,#[by decide,by decide],λa a0 a1=>?_];let(ch,hc,ho):=FF a0 a1;refine#[_,_,_,U,U,by decide+kernel,hc,?_];refine#[_,U,?_];refine#[_,U,_,U,U,_,U,_,_,U,U,_,U,call m1 l1 _ λt2 m2 g2 d2 i2=>?_];exact#[_,U,fin (.op #[#v[ch]]) [t1,t2] m2 U #[by simpa using ho,U] #[g1,g2,trivial] (mr λt ht=>by
      rcases Yn.mp ht with rfl | ht
      .exact d1
      .rw[Yx.mp ht];exact d2) (by show t1.g7+(t2.g7+0)+m2<=m;cbv)]
    have two:∀ {a b:Tm},a.dep<=n+1->b.dep<=n+1->pH [a,b]<=n+1:=λha hb=>mr λt ht=>by
     rcases Yn.mp ht with rfl | ht
     .exact ha
     .rw[Yx.mp ht];exact hb
    refine#[_,U,#[U,U,U],_,U,?_];refine cx U (λ_=>?_) λ_=>?_
    .refine#[_,U,_,U,U,_,U,_,_,U,U,_,U,call m1 l1 _ λt2 m2 g2 d2 i2=>?_];refine#[_,U,_,U,?_];refine#[_,U,_,U,U,_,U,_,_,U,U,_,U,call m2 (by cbv) _ λt3 m3 g3 d3 i3=>?_];exact#[_,U,fin .iR [t1,t2,t3] m3 U U #[g1,g2,g3,trivial] (Nat.max_le.mpr #[d1,two d2 d3]) (by show t1.g7+(t2.g7+(t3.g7+0))+m3<=m;cbv)]
    refine#[_,U,#[U,U,U],_,U,?_];refine cx U (λ_=>?_) λ_=>?_
    .refine#[_,U,_,U,ws,U,#[by cbv,by cbv],λx hx=>?_];refine#[_,U,?_];refine#[_,U,_,U,U,_,U,_,_,U,U,_,U,call m1 l1 _ λt2 m2 g2 d2 i2=>?_];exact#[_,U,fin (.lt x) [t1,t2] m2 U #[hw x hx,U] #[g1,g2,trivial] (two d1 d2) (by show t1.g7+(t2.g7+0)+m2<=m;cbv)]
    have callT:∀ (m1:Nat) (mo:Int),m1<=m->0<=mo->mo<=3->∀ Q:D->D->Prop,(∀ (ts:List Tm) (m':Nat),(ts.length:Int)<=mo->By (n+1) m1 ts m'->Q (.tup (ts.map toD)) (.lst [.int m']))->NM d r (n+1) [.fN d,.lst (ws.map .str),.fN r,.int (down+1),.int mo] (.lst [.int m1]) Q:=λm1 mo h1 h2 h3 Q hQ=>#[ws,down+1,mo,m1,U,U,#[nk,hw,#[by cbv,by cbv,by cbv],by cbv,h2,h3],hQ];have callR:∀ (m1:Nat),m1<=m->∀ Q:D->D->Prop,(∀ (hs:List (Str×List Str)) (ts:List Tm) (m':Nat),n6 hs->ts.length=hs.length->By (n+1) m1 ts m'->Q (.tup (aY hs (ts.map toD))) (.lst [.int m']))->Nf d r (n+1) [.fN d,.lst (ws.map .str),.fN r,.int (down+1)] (.lst [.int m1]) Q:=λm1 h1 Q hQ=>#[ws,down+1,m1,U,U,#[nk,hw,#[by cbv,by cbv,by cbv],by cbv],hQ];have finK:∀ (f:Fm) (ts:List Tm) (m':Nat) (x:D),Dl f (ts.map toD)=x->f.w=1->dY f ts.length->kI ts->pH ts<=n+1->dM ts+m'<=m->R x (.lst [.int m']):=λf ts m' x ex hf aN hg hdp hin=>by
     have h:=fin f ts m' hf aN hg hdp hin;rw[show toD (.node f ts)=Dl f (toDs ts) from U,toDs_map,ex] at h;exact h
    have hsz:=aC;refine#[_,U,#[U,U,U],_,U,?_];refine cx U (λ_=>?_) λ_=>?_
    .refine#[_,U,_,U,U,_,U,_,_,U,U,_,U,callT m1 2 l1 (by decide) (by decide) _ λts m2 hl hI=>?_];refine#[_,U,_,U,ws,U,#[by cbv,by cbv],λx hx=>?_];refine#[_,U,?_];refine#[_,U,_,U,#[by decide,by decide],λk k0 k1=>?_];have hi2:=hI.g7;refine#[_,_,U,U,by simp,by cbv,?_];refine#[_,U,_,_,U,U,?_,?_]
     .rw[Yk];split
      .simp;cbv
      .simp;cbv
     refine#[_,U,?_];by_cases ek:k=1
     .rw[if_pos ek];exact finK (.mk x) (t1::ts) m2 _ U U #[hw x hx,by simp;cbv] #[g1,hI.gt] (Nat.max_le.mpr #[d1,hI.dep]) (by show t1.g7+dM ts+m2<=m;cbv)
     .rw[if_neg ek];exact finK (.mk x) ts m2 _ U U #[hw x hx,by cbv] hI.gt hI.dep (by cbv)
    refine#[_,U,#[U,U,U],_,U,?_];refine cx U (λ_=>?_) λ_=>?_
    .refine#[_,U,?_];refine#[_,U,_,U,ws,U,#[by cbv,by cbv],λx hx=>?_];refine#[_,U,_,U,U,_,U,_,_,U,U,_,U,callT m1 3 l1 (by decide) (by decide) _ λts m2 hl hI=>?_];have hi2:=hI.g7;exact#[_,U,finK (.ask x) (t1::ts) m2 _ U U #[hw x hx,by simp,by simp;cbv] #[g1,hI.gt] (Nat.max_le.mpr #[d1,hI.dep]) (by show t1.g7+dM ts+m2<=m;cbv)]
    refine#[_,U,#[U,U,U],_,U,?_];refine cx U (λ_=>?_) λ_=>?_
    .refine#[_,U,?_];refine#[_,U,_,U,ws,U,#[by cbv,by cbv],λx hx=>?_];refine#[_,U,_,U,U,_,U,_,_,U,U,_,U,callR m1 l1 _ λhs ts m2 hh hl hI=>?_];have hi2:=hI.g7;exact#[_,U,finK (.g8 x hs) (t1::ts) m2 _ U U #[hx.imp (hw x) id,hh,by simp[hl]] #[g1,hI.gt] (Nat.max_le.mpr #[d1,hI.dep]) (by show t1.g7+dM ts+m2<=m;cbv)]
    .refine#[_,U,_,U,ws,U,#[by cbv,by cbv],λx hx=>?_];refine#[_,U,_,U,U,_,U,_,_,U,U,_,U,callR m1 l1 _ λhs ts m2 hh hl hI=>?_];have hi2:=hI.g7;exact#[_,U,finK (.new x hs) ts m2 _ U U #[hx.imp (hw x) id,hh,hl] hI.gt hI.dep (by cbv)]
   case hleaf =>
    refine#[_,U,_,U,#[by decide,by decide],λa a0 a1=>?_];refine#[#[U,U,U],_,U,?_];refine cx U (λ_=>?_) λ_=>?_
    .refine#[_,U,_,U,ws,U,#[by cbv,by cbv],λx hx=>?_];exact#[_,U,q (.node (.nm x) []) m #[#[hw x hx,U],trivial] (Nat.succ_le_succ (Nat.zero_le _)) (by simp[Tm.g7,dM,Fm.w])]
    .refine#[_,U,?_];refine#[_,U,_,U,#[by decide,by decide],λb b0 b1=>?_];have hb:b=0\/b=1\/b=2:=by cbv
     have fin:∀ z:Int,0<=z->z < 1000000->R (toD (.node (.num z) [])) (.lst [.int m]):=λz z0 z1=>q (.node (.num z) []) m #[#[#[z0,z1],U],trivial] (Nat.succ_le_succ (Nat.zero_le _)) (by simp[Tm.g7,dM,Fm.w]);rcases hb with rfl | rfl | rfl
     all_goals
      refine#[_,_,_,U,U,U,?_];refine#[_,U,#[by decide,by decide],λz z0 z1=>?_];exact#[_,U,fin z z0 (by cbv)]
def V1:aav:=λds R=>∃ ks:List Tm,ds=[.tup (ks.map toD)]/\ks.length<=1000/\R (.lst ((bT ks).map CW))
theorem qa(ks:List Tm):(bT ks).length=2 * ks.length:=by
 induction ks with
 | nil=>rfl
 | cons k ks ih =>
  show ([Pc.s " ",.t k]++bT ks).length=_;rw[Yl,ih];show 2+_=2 * (ks.length+1);cbv
theorem Ek(ks:List Tm)(k:Tm):bT (ks++[k])=bT ks++[.s " ",.t k]:=by
 unfold bT;rw[YL]
 rfl
theorem Mw(F:Own K mg dD)(T:Txt K mg):aa0 P w K mg base dD 1 V1:=by
 refine F.c λf fd F=>?_;refine LZ (nos:=1) F eK (λds R h=>?_) λa9 A outer s H E M hr=>#[_,(af (sN 0 1 eK.nd (aH ae))
 (af (sF (bf (vd 0)) (gN 2 eK.nd)
 (af (sE 1 (aa ak ae))
 (ai (sE 1 (aa (vd 2) ae)))))
 (ai (gw (pv 1))))),λds R h=>?_]
 .let(ks,rfl,_):=h
  rfl
 .let(ks,rfl,hl,q):=h;have hsz:=aC;refine#[#[U,U],?_];refine#[_,U,_,.inr U,?_];refine jY (λxs s=>∃ (dn td:List Tm) (x2:Sl),x2.pl=true/\ks=dn++td/\xs=td.map toD/\s=#[[.dat (.tup (ks.map toD)),.own 0,x2],[some (.lst ((bT dn).map CW))]]) ?_ ?_ _ _ #[[],ks,.no,U,U,U,U]
  .rintro s ⟨dn,td,x2,hp,e,hx,rfl⟩;have htd:td=[]:=by
    cases td with
    | nil=>rfl
    | cons a b=>cases hx
   rw[htd,YA] at e;subst e;exact#[0,_,U,U,q]
  .rintro x xs s N ⟨dn,td,x2,hp,e,hx,rfl⟩ hN hE_;cases td with
   | nil=>cases hx
   | cons p td =>
   injection hx with e1 e2;subst e1 e2;have hle:=congrArg List.length e;rw[Yl,Yv] at hle;have fC:=qa dn;refine#[0,_,U,U,U,_,U,_,_,U,U,by rw[Yk];cbv,?_];refine#[0,_,U,U,U,_,U,_,U,_,_,U,U,by rw[Yl,Yk];show _+1 < _;cbv,?_];refine hN _ #[dn++[p],td,.dat (toD p),U,by rw[e];simp,U,?_];rw[Ek,Yr,YI]
   rfl
def Vz:aav:=λds R=>∃ (hs:List (Str×List Str)) (ks:List Tm),ds=[.tup (aY hs (ks.map toD))]/\n6 hs/\ks.length=hs.length/\R (.lst ((bw hs ks).map CW))
theorem bJ{x:Str}(h:Nm x):x.length<=8:=h.2.2.1
theorem w6:∀ (hs:List (Str×List Str)) (ks:List Tm) (h:Str×List Str) (k:Tm),hs.length=ks.length->bw (hs++[h]) (ks++[k])=bw hs ks++[.s (DH h),.t k]
 | [],[],h,k,_=>rfl
 | [],_::_,h,k,e=>by simp at e
 | _::_,[],h,k,e=>by simp at e
 | a::hs,t::ts,h,k,e=>by
  rw[List.cons_append,List.cons_append,bw,w6 hs ts h k (by simpa using e)]
  rfl
theorem pV:∀ (hs:List (Str×List Str)) (ks:List Tm),(bw hs ks).length<=2 * hs.length
 | [],_=>by simp[bw]
 | _::_,[]=>by simp[bw]
 | _::hs,_::ks=>by
  have:=pV hs ks;rw[bw];simp only[List.length_cons];cbv
theorem join_le(x:Str)(ns:List Str)(hx:x.length<=8)(hn:ns.length<=3)(h:∀ n∈ns,n.length<=8):(((x::ns).map (·.length)).sum+(x::ns).length * (" ":Str).length<=100)/\(Txt.join " " (x::ns)).length<=100:=by
 have hs:(ns.map (·.length)).sum<=8 * ns.length:=by
  clear hn
  induction ns with
  | nil=>exact Ys _
  | cons a l ih =>
   have:=ih λn hn=>h n (Yo _ hn);have:=h a Ym;simp only[List.map_cons,List.sum_cons,List.length_cons];cbv
 have e:(" ":Str).length=1:=rfl;have h1:((x::ns).map (·.length)).sum+(x::ns).length * (" ":Str).length<=100:=by
  rw[e];simp only[List.map_cons,List.sum_cons,List.length_cons];cbv
 refine#[h1,?_];show (Builtin.Str.glued " " (x::ns)).length<=100;rw[StrLaws.glued_eq_join];exact Yw (StrLaws.join_length_le _ _) h1
theorem OG(F:Own K mg dZ)(T:Txt K mg):aa0 P w K mg base dZ 1 Vz:=by
 refine F.c λf fd F=>?_;refine LZ (nos:=1) F cA (λds R h=>?_) λa9 A outer s H E M hr=>#[_,(af (sN 0 1 cA.nd (aH ae))
 (af (sF (bf (vd 0)) (f9 (m:=3) U (aQ (gN 2 cA.nd) (aQ (gN 3 cA.nd) (aQ (gN 4 cA.nd) fE))))
 (af (sE 1 (aa (bb aA a7 (bb aA a7 ak (eh ak (aa (DN.de (ck bu br (DN.de (aH (aa (vd 2) ae))) (DN.de (ix d5 ig U T.list (by decide+kernel) (aa (vd 3) ae))))) ae))) ak) ae))
 (ai (sE 1 (aa (vd 4) ae)))))
 (ai (gw (pv 1))))),λds R h=>?_]
 .let(hs,ks,rfl,_):=h
  rfl
 .let(hs,ks,rfl,(hl3,hh),hl,q):=h;have hsz:=aC;refine#[#[U,U],?_];refine#[_,U,_,.inr U,?_];refine jY (λxs s=>∃ (dh th:List (Str×List Str)) (dk tk:List Tm) (x2 x3 x4:Sl),(x2.pl=true/\x3.pl=true/\x4.pl=true)/\hs=dh++th/\ks=dk++tk/\dh.length=dk.length/\xs=aY th (tk.map toD)/\s=#[[.dat (.tup (aY hs (ks.map toD))),.own 0,x2,x3,x4],[some (.lst ((bw dh dk).map CW))]]) ?_ ?_ _ _ #[[],hs,[],ks,.no,.no,.no,#[U,U,U],U,U,U,U,U]
  .rintro s ⟨dh,th,dk,tk,x2,x3,x4,hp,e1,e2,hd,hx,rfl⟩;have hll:th.length=tk.length:=by
    have a:=congrArg List.length e1;have b:=congrArg List.length e2;rw[Yl] at a b;cbv
   have hth:th=[]/\tk=[]:=by
    cases th with
    | nil=>exact#[U,Y3 hll.symm]
    | cons a th =>
     cases tk with
     | nil=>cases hll
     | cons b tk=>cases hx
   rw[hth.1,YA] at e1;rw[hth.2,YA] at e2;subst e1 e2;exact#[0,_,U,U,q]
  .rintro x xs s N ⟨dh,th,dk,tk,x2,x3,x4,hp,e1,e2,hd,hx,rfl⟩ hN hE_;have hll:th.length=tk.length:=by
    have a:=congrArg List.length e1;have b:=congrArg List.length e2;rw[Yl] at a b;cbv
   cases th with
   | nil=>cases hx
   | cons h th =>
   cases tk with
   | nil=>cases hll
   | cons k tk =>
   injection hx with z1 z2;subst z1 z2;have hh1:=hh h (by rw[e1];simp);have a:=congrArg List.length e1;rw[Yl,Yv] at a;have fC:=pV dh dk;let(j1,j2):=join_le h.1 h.2 (bJ hh1.1) hh1.2.1 λn hn=>bJ (hh1.2.2 n hn);refine#[_,U,U,_,_,U,_,_,U,_,_,U,U,?_];refine#[0,_,U,U,U,?_];refine#[_,U,_,U,_,U,_,.inr U,_,_,U,U,?_,h.1::h.2,U,Yw j1 (by decide),?_]
   .show 1+(h.2.map D.str).length<=_;rw[Yk];cbv
   refine#[_,_,U,U,?_,_,_,U,U,?_,?_]
   .show 3+_<=_;cbv
   .rw[Y8];show 3+_+3<=_;cbv
   refine#[_,U,_,_,U,U,by rw[Yk];cbv,?_];refine#[0,_,U,U,U,_,U,_,U,_,_,U,U,by rw[Yl,Yk];show _+1 < _;cbv,?_];refine hN _ #[dh++[h],th,dk++[k],tk,.dat (.str h.1),.dat (.tup (r9 h.2)),.dat (toD k),#[U,U,U],by rw[e1];simp,by rw[e2];simp,by simp[hd],U,?_];rw[w6 dh dk h k hd,Yr,YI]
   rfl
def VM:aav:=λds R=>∃ (f:Fm) (ks:List Tm),ds=[toD (.node f ks)]/\dY f ks.length/\R (.lst ((pieces f ks).map CW))
theorem QA{α:Type}{l:List α}(h:l.length=0):l=[]:=Y3 h
theorem ln2{α:Type}{l:List α}(h:l.length=2):∃ a b,l=[a,b]:=by
 match l,h with
 | [a,b],_=>exact#[a,b,U]
theorem Qv{α:Type}{l:List α}(h:l.length=3):∃ a b c,l=[a,b,c]:=by
 match l,h with
 | [a,b,c],_=>exact#[a,b,c,U]
theorem Fe{α:Type}{l:List α}(h:1<=l.length):∃ a r,l=a::r:=by
 match l,h with
 | a::r,_=>exact#[a,r,U]
theorem bS(f:Fm)(ks:List Tm):toD (.node f ks)=Dl f (ks.map toD):=by
 rw[<- toDs_map]
 rfl
theorem iD{x:Str}(h:rY x):x.length<=8:=by
 rcases h with h | rfl
 .exact bJ h
 .decide
theorem OW(Qf:aa0 P w K mg base dD 1 V1)(Wk:aa0 P w K mg base dZ 1 Vz)(F:Own K mg gS)(T:Txt K mg):aa0 P w K mg base gS 2 VM:=by
 refine F.c λf fd F=>?_;refine LZ (nos:=0) F lO (λds R h=>?_) λa9 A outer s H E M hr=>#[_,(af (sS 1 lO.nd (cb (vd 0) ah))
 (af (bK (aF aM bx (vd 1) ak (ax _))
 (ai (cX (aH (aa (cb (vd 0) ah) ae))))
 aL)
 (af (bK (aF aM bx (vd 1) ak (ax _))
 (ai (cX (aH (aa (er oB yR U T.str (by decide+kernel) (aa (cb (vd 0) ah) ae)) ae))))
 aL)
 (af (bK (aF aM bx (vd 1) ak (ax _))
 (ai (cX (ck bu br (DN.de (ck bu br (DN.de (aH (aa (bb aA a7 ak (cb (vd 0) ah)) ae))) (DN.de (aU hr Qf (aa (fk (vd 0) (bA ah) bD) ae))))) (DN.de (aH (aa ak ae))))))
 aL)
 (af (bK (aF aM bx (vd 1) ak (ax _))
 (ai (cX (ck bu br (DN.de (ck bu br (DN.de (aH (aa ak ae))) (DN.de (aU hr Qf (aa (fk (vd 0) (bA ah) bD) ae))))) (DN.de (aH (aa ak ae))))))
 aL)
 (af (bK (aF aM bx (vd 1) ak (ax _))
 (ai (cX (ck bu br (DN.de (ck bu br (DN.de (aH (aa (bb aA a7 ak (cb (vd 0) ah)) ae))) (DN.de (aU hr Qf (aa (fk (vd 0) (bA ah) bD) ae))))) (DN.de (aH (aa ak ae))))))
 aL)
 (af (bK (aF aM bx (vd 1) ak (ax _))
 (ai (cX (ck bu br (DN.de (ck bu br (DN.de (aH (aa (bb aA a7 ak (cb (vd 0) ah)) ae))) (DN.de (aU hr Qf (aa (cb (vd 0) ah) ae))))) (DN.de (aH (aa ak ae))))))
 aL)
 (af (bK (aF aM bx (vd 1) ak (ax _))
 (ai (cX (ck bu br (DN.de (ck bu br (DN.de (aH (aa ak (aa (cb (vd 0) ah) (aa (bb aA a7 ak (cb (vd 0) ah)) ae))))) (DN.de (aU hr Qf (aa (cb (vd 0) ah) ae))))) (DN.de (aH (aa ak ae))))))
 aL)
 (af (bK (aF aM bx (vd 1) ak (ax _))
 (ai (cX (ck bu br (DN.de (ck bu br (DN.de (aH (aa ak (aa (cb (vd 0) ah) (aa (bb aA a7 ak (cb (vd 0) ah)) ae))))) (DN.de (aU hr Wk (aa (cb (vd 0) ah) ae))))) (DN.de (aH (aa ak ae))))))
 aL)
 (ai (cX (ck bu br (DN.de (ck bu br (DN.de (aH (aa (bb aA a7 ak (cb (vd 0) ah)) ae))) (DN.de (aU hr Wk (aa (cb (vd 0) ah) ae))))) (DN.de (aH (aa ak ae))))))))))))))),λds R h=>?_]
 .let(f,ks,rfl,_):=h
  rfl
 .let(f,ks,rfl,aN,q):=h;have hsz:=aC;rw[bS];have tl:=λks:List Tm=>qa ks;refine#[_,U,?_];cases f with
  | nm x =>
   cases QA aN.2;refine#[_,_,_,U,U,U,?_];refine#[_,U,#[U,U,U],_,U,?_];refine gn (by decide+kernel) ?_;exact#[_,U,_,_,_,U,U,U,q]
  | num i =>
   cases QA aN.2;refine#[_,_,_,U,U,U,?_];refine#[_,U,#[U,U,U],_,U,?_];refine cq (by decide+kernel) ?_;refine#[_,U,#[U,U,U],_,U,?_];refine gn (by decide+kernel) ?_;exact#[_,U,_,_,_,U,U,U,.inl #[_,U,CP aN.1.1 aN.1.2,q]]
  | op s =>
   let(a,b,rfl):=ln2 aN.2;refine#[_,_,_,U,U,U,?_];refine#[_,U,#[U,U,U],_,U,?_];refine cq (by decide+kernel) ?_;refine#[_,U,#[U,U,U],_,U,?_];refine cq (by decide+kernel) ?_;refine#[_,U,#[U,U,U],_,U,?_];refine gn (by decide+kernel) ?_;refine#[_,U,_,_,_,U,U,U,_,_,U,U,?_,?_]
   .have:s.length=1:=by rcases aN.1 with rfl | rfl | rfl<;>rfl
    show 1+s.length<=_;cbv
   exact#[_,U,_,U,_,U,[a,b],U,by show 2<=1000;decide,_,_,U,U,by show 1+4<=_;cbv,_,_,U,U,by show 1+4+1<=_;cbv,q]
  | iR =>
   let(a,b,c,rfl):=Qv aN;refine#[_,_,_,U,U,U,?_];refine#[_,U,#[U,U,U],_,U,?_];refine cq (by decide+kernel) ?_;refine#[_,U,#[U,U,U],_,U,?_];refine cq (by decide+kernel) ?_;refine#[_,U,#[U,U,U],_,U,?_];refine cq (by decide+kernel) ?_;refine#[_,U,#[U,U,U],_,U,?_];refine gn (by decide+kernel) ?_;exact#[_,U,_,U,_,U,[a,b,c],U,by show 3<=1000;decide,_,_,U,U,by show 1+6<=_;cbv,_,_,U,U,by show 1+6+1<=_;cbv,q]
  | lt x =>
   let(a,b,rfl):=ln2 aN.2;have hx:=bJ aN.1;refine#[_,_,_,U,U,U,?_];refine#[_,U,#[U,U,U],_,U,?_];refine cq (by decide+kernel) ?_;refine#[_,U,#[U,U,U],_,U,?_];refine cq (by decide+kernel) ?_;refine#[_,U,#[U,U,U],_,U,?_];refine cq (by decide+kernel) ?_;refine#[_,U,#[U,U,U],_,U,?_];refine cq (by decide+kernel) ?_;refine#[_,U,#[U,U,U],_,U,?_];refine gn (by decide+kernel) ?_;refine#[_,U,_,_,_,U,U,U,_,_,U,U,?_,?_]
   .show 5+x.length<=_;cbv
   exact#[_,U,_,U,_,U,[a,b],U,by show 2<=1000;decide,_,_,U,U,by show 1+4<=_;cbv,_,_,U,U,by show 1+4+1<=_;cbv,q]
  | mk x =>
   have hx:=bJ aN.1;have hk:=aN.2;have hp:=qa ks;refine#[_,_,_,U,U,U,?_];refine#[_,U,#[U,U,U],_,U,?_];refine cq (by decide+kernel) ?_;refine#[_,U,#[U,U,U],_,U,?_];refine cq (by decide+kernel) ?_;refine#[_,U,#[U,U,U],_,U,?_];refine cq (by decide+kernel) ?_;refine#[_,U,#[U,U,U],_,U,?_];refine cq (by decide+kernel) ?_;refine#[_,U,#[U,U,U],_,U,?_];refine cq (by decide+kernel) ?_;refine#[_,U,#[U,U,U],_,U,?_];refine gn (by decide+kernel) ?_;refine#[_,U,_,_,_,U,U,U,_,_,U,U,?_,?_]
   .show 6+x.length<=_;cbv
   refine#[_,U,_,_,_,U,U,U,ks,U,by cbv,_,_,U,U,?_,_,_,U,U,?_,?_]
   .rw[Yk];show 1+_<=_;cbv
   .rw[Yl,Yk];show 1+_+1<=_;cbv
   .rw[pieces,Yr,Yr] at q;exact q
  | ask x =>
   let(a,r,rfl):=Fe aN.2.1;have hx:=bJ aN.1;have hk:r.length+1<=4:=aN.2.2;have hp:=qa r;refine#[_,_,_,U,U,U,?_];refine#[_,U,#[U,U,U],_,U,?_];refine cq (by decide+kernel) ?_;refine#[_,U,#[U,U,U],_,U,?_];refine cq (by decide+kernel) ?_;refine#[_,U,#[U,U,U],_,U,?_];refine cq (by decide+kernel) ?_;refine#[_,U,#[U,U,U],_,U,?_];refine cq (by decide+kernel) ?_;refine#[_,U,#[U,U,U],_,U,?_];refine cq (by decide+kernel) ?_;refine#[_,U,#[U,U,U],_,U,?_];refine cq (by decide+kernel) ?_;refine#[_,U,#[U,U,U],_,U,?_];refine gn (by decide+kernel) ?_;refine#[_,U,_,_,_,U,U,U,_,U,_,_,_,U,U,U,_,_,U,U,?_,?_]
   .show 1+x.length<=_;cbv
   refine#[_,U,_,_,_,U,U,U,r,U,by cbv,_,_,U,U,?_,_,_,U,U,?_,?_]
   .rw[Yk];show 3+_<=_;cbv
   .rw[Yl,Yk];show 3+_+1<=_;cbv
   .rw[pieces,Yr,Yr] at q;exact q
  | g8 rr hs =>
   let(hr1,hh,hk):=aN;let(a,r,rfl):=Fe (l:=ks) (by cbv);have hx:=iD hr1;have hk:r.length=hs.length:=Z7 hk;have hp:=pV hs r;have h3:=hh.1;refine#[_,_,_,U,U,U,?_];refine#[_,U,#[U,U,U],_,U,?_];refine cq (by decide+kernel) ?_;refine#[_,U,#[U,U,U],_,U,?_];refine cq (by decide+kernel) ?_;refine#[_,U,#[U,U,U],_,U,?_];refine cq (by decide+kernel) ?_;refine#[_,U,#[U,U,U],_,U,?_];refine cq (by decide+kernel) ?_;refine#[_,U,#[U,U,U],_,U,?_];refine cq (by decide+kernel) ?_;refine#[_,U,#[U,U,U],_,U,?_];refine cq (by decide+kernel) ?_;refine#[_,U,#[U,U,U],_,U,?_];refine cq (by decide+kernel) ?_;refine#[_,U,#[U,U,U],_,U,?_];refine gn (by decide+kernel) ?_;refine#[_,U,_,_,_,U,U,U,_,U,_,_,_,U,U,U,_,_,U,U,?_,?_]
   .show 4+rr.length<=_;cbv
   refine#[_,U,_,_,_,U,U,U,hs,r,U,hh,hk,_,_,U,U,?_,_,_,U,U,?_,?_]
   .rw[Yk];show 3+_<=_;cbv
   .rw[Yl,Yk];show 3+_+1<=_;cbv
   .rw[pieces,Yr,Yr] at q;exact q
  | new k hs =>
   let(hr1,hh,hk):=aN;have hx:=iD hr1;have hp:=pV hs ks;have h3:=hh.1;refine#[_,_,_,U,U,U,?_];refine#[_,U,#[U,U,U],_,U,?_];refine cq (by decide+kernel) ?_;refine#[_,U,#[U,U,U],_,U,?_];refine cq (by decide+kernel) ?_;refine#[_,U,#[U,U,U],_,U,?_];refine cq (by decide+kernel) ?_;refine#[_,U,#[U,U,U],_,U,?_];refine cq (by decide+kernel) ?_;refine#[_,U,#[U,U,U],_,U,?_];refine cq (by decide+kernel) ?_;refine#[_,U,#[U,U,U],_,U,?_];refine cq (by decide+kernel) ?_;refine#[_,U,#[U,U,U],_,U,?_];refine cq (by decide+kernel) ?_;refine#[_,U,#[U,U,U],_,U,?_];refine cq (by decide+kernel) ?_;refine#[_,U,_,_,_,U,U,U,_,_,U,U,?_,?_]
   .show 5+k.length<=_;cbv
   refine#[_,U,_,_,_,U,U,U,hs,ks,U,hh,hk,_,_,U,U,?_,_,_,U,U,?_,?_]
   .rw[Yk];show 1+_<=_;cbv
   .rw[Yl,Yk];show 1+_+1<=_;cbv
   .rw[pieces,Yr,Yr] at q;exact q
def Vl:aav:=λds R=>∃ t:Tm,ds=[toD t]/\(t.gt/\t.g7<=20)/\R (.str (bp t.T))
theorem AD(p:Pc):1<=ya p:=by
 cases p with
 | s x=>exact Ys _
 | t u =>
  have:=gA u;show 1<=4 * u.size - 1;cbv
theorem p4:∀ l:List Pc,l.length<=(l.map ya).sum
 | []=>Ys _
 | p::l=>by
  have h1:=p4 l;have h2:=AD p;simp only[List.length_cons,List.map_cons,List.sum_cons];cbv
theorem En:∀ l:List Str,(l.map (·.length)).sum=(l.flatMap cd).length
 | []=>rfl
 | a::l=>by
  rw[Yp,Zi,En l,Yt,Yl,eN]
def sD:Pc->Prop
 | .s _=>True
 | .t u=>u.gt
theorem A0{f:Fm}{ks:List Tm}(h:dY f ks.length)(hg:kI ks):∀ p∈pieces f ks,sD p:=by
 have ht:∀ ks:List Tm,kI ks->∀ p∈bT ks,sD p:=λks hg p hp=>by
  let(k,hk,hp):=YN.mp hp;rcases Yn.mp hp with rfl | hp
  .exact True.intro
  .rw[Yx.mp hp];exact dB hg k hk
 have hr:∀ (hs:List (Str×List Str)) (ks:List Tm),kI ks->∀ p∈bw hs ks,sD p:=λhs=>by
  induction hs with
  | nil=>intro ks _ p hp;simp[bw] at hp
  | cons h hs ih =>
   intro ks hg p hp;cases ks with
   | nil=>simp[bw] at hp
   | cons k ks =>
    rw[bw] at hp;rcases Yn.mp hp with rfl | hp
    .exact True.intro
    .rcases Yn.mp hp with rfl | hp
     .exact hg.1
     .exact ih ks hg.2 p hp
 have e3:∀ (a b:List Pc) (z:Pc),(∀ p∈a,sD p)->(∀ p∈b,sD p)->sD z->∀ p∈a++b++[z],sD p:=λa b z ha hb hz p hp=>by
  rcases Yz.mp hp with hp | hp
  .exact (Yz.mp hp).elim (ha p) (hb p)
  .rw[Yx.mp hp];exact hz
 have one:∀ (x:Str),∀ p∈[Pc.s x],sD p:=λx p hp=>by
  rw[Yx.mp hp];exact True.intro
 have three:∀ (x y:Str) (k:Tm),k.gt->∀ p∈[Pc.s x,.t k,.s y],sD p:=λx y k hk p hp=>by
  rcases Yn.mp hp with rfl | hp
  .exact True.intro
  .rcases Yn.mp hp with rfl | hp
   .exact hk
   .exact one y p hp
 cases f with
 | nm x=>exact one _
 | num i=>exact one _
 | op s=>exact e3 _ _ _ (one _) (ht ks hg) trivial
 | iR=>exact e3 _ _ _ (one _) (ht ks hg) trivial
 | lt x=>exact e3 _ _ _ (one _) (ht ks hg) trivial
 | mk c=>exact e3 _ _ _ (one _) (ht ks hg) trivial
 | ask f =>
  cases ks with
  | nil=>exact absurd h.2.1 (by decide)
  | cons k ks=>exact e3 _ _ _ (three _ _ k hg.1) (ht ks hg.2) trivial
 | g8 r hs =>
  cases ks with
  | nil=>exact absurd h.2.2 (by simp)
  | cons k ks=>exact e3 _ _ _ (three _ _ k hg.1) (hr hs ks hg.2) trivial
 | new k hs=>exact e3 _ _ _ (one _) (hr hs ks hg) trivial
theorem Oe(XU:aa0 P w K mg base gS 2 VM)(F:Own K mg gX)(T:Txt K mg):aa1 P w K mg base gX 3 Vl:=by
 refine F.d (nos:=2) gj (λds R h=>?_) λf a9 A outer s H E M hr=>#[_,(af (sN 0 1 gj.nd (aH ae))
 (af (sN 1 2 gj.nd (aH (aa (vd 0) ae)))
 (af (uJ PassesOwn.never (zA (pv 2))
 (af (sS 3 gj.nd (EX Zx Zy qx DZ (pv 2)))
 (ai (bK (b7 (a8 bo eA U T.sx PyProof.Rows.boot_isinstance (aa (vd 3) (aa (dc (d:=.ty "str") (bM (v:=.ty "str") U T.str (by decide+kernel) U) U) ae))))
 (ai (sE 1 (aa (vd 3) ae)))
 (ai (bC (pJ YW YX cP jF (pv 2) (aa (DN.de (Dz (DN.de (aU hr XU (aa (vd 3) ae))) b6)) ae))))))))
 (ai (aP (eh ak (aa (zF (pv 1)) ae))))))),λds R h=>?_]
 .let(t,rfl,_):=h
  rfl
 .let(t,rfl,(hg,hin),q):=h;have hsz:=aC;have hs:=xJ t hg;have hT:=oY t hg;refine#[#[U,U],?_];refine#[_,U,#[U,U],?_];refine#[λm s=>∃ (sg:List Str) (st:List Pc) (x3:Sl),x3.pl=true/\m=(st.map ya).sum/\sg.length+m<=4 * t.size/\sg.flatMap cd++st.flatMap CH=t.T/\(∀ p∈st,sD p)/\s=#[[.dat (toD t),.own 0,.own 1,x3],[some (.lst (sg.map .str)),some (.lst (st.reverse.map CW))]],#[_,[],[.t t],.no,U,U,?_,?_,?_,U],?_]
  .show 0+(4 * t.size - 1+0)<=_;cbv
  .show []++(t.T++[])=_;simp
  .intro p hp;rw[Yx.mp hp];exact hg
  .rintro m s ⟨sg,st,x3,hx3,rfl,hm,hc,aN,rfl⟩;have hlp:=p4 st;refine#[1,_,U,U,?_];cases st with
   | nil =>
    refine cq U ?_;have hc:sg.flatMap cd=t.T:=by simpa using hc
    refine#[_,U,.inr #[_,_,U,U,sg,U,?_,?_]]
    .rw[En,hc];show _+sg.length * 0<=_;cbv
    .have e:Txt.join "" sg=bp t.T:=cJ (by rw[C5,hc]);rw[e];exact q
   | cons p st =>
    have hr1:((p::st).reverse.map CW)=st.reverse.map CW++[CW p]:=by simp
    have hw:=AD p;simp only[List.map_cons,List.sum_cons] at hm hlp;refine gn (by rw[hr1];simp) ?_;refine#[1,_,U,U,U,_,U,st.reverse.map CW,CW p,by rw[hr1],U,?_];cases p with
    | s x =>
     refine#[_,U,_,_,true,U,U,_,U,?_];refine gn U ?_;refine#[0,_,U,U,U,_,U,_,U,_,_,U,U,by rw[Yk];cbv,?_];refine#[(st.map ya).sum,by simp[ya],sg++[x],st,.dat (.str x),U,U,?_,?_,λp hp=>aN p (List.mem_cons_of_mem _ hp),by rw[List.map_append];rfl]
     .rw[Yl];show sg.length+1+_<=_;have:ya (.s x)=1:=rfl;cbv
     .rw[<- hc,YL,YI];show _=sg.flatMap cd++(cd x++st.flatMap CH);simp
    | t u =>
     let(f,ks):=u;have hu:(Tm.node f ks).gt:=aN _ Ym;refine#[_,U,_,_,false,U,Df _,_,U,?_];refine cq U ?_;refine#[1,_,U,U,U,_,U,f,ks,U,hu.1,?_];have hpw:=C3 hu.1;have fC:=p4 (pieces f ks);have hlq:=p4 st;refine#[_,U,_,U,_,_,U,U,?_,?_]
     .simp only[List.length_map,List.length_reverse];cbv
     refine#[((pieces f ks++st).map ya).sum,?_,sg,pieces f ks++st,.dat (toD (.node f ks)),U,U,?_,?_,λp hp=>?_,?_]
     .rw[Yr,Zc,Yp,Zi];cbv
     .rw[Yr,Zc];cbv
     .rw[YL,CA hu.1,<- hc]
      rfl
     .rcases Yz.mp hp with hp | hp
      .exact A0 hu.1 hu.2 p hp
      .exact aN p (Yo _ hp)
     .rw[List.reverse_append,Yr,aai (l:=pieces f ks)]
      rfl
theorem F0(xs:List D)(h:xs≠[]):∃ d,iz xs (-1)=some d:=by
 rw[<- List.dropLast_concat_getLast h];exact#[_,ft _ _]
inductive nI(b:Bool):D->List D->Prop
 | str (x:Str):nI b (.str x) []
 | int (i:Int):nI b (.int i) []
 | one (k:Tm):nI b (toD k) [toD k]
 | all (ks:List Tm):b=false->nI b (.tup (ks.map toD)) (ks.map toD)
 | rows (hs:List (Str×List Str)) (ks:List Tm):b=true->ks.length=hs.length->nI b (.tup (aY hs (ks.map toD))) (ks.map toD)
inductive Parts(b:Bool):List D->List D->Prop
 | nil:Parts b [] []
 | cons {p:D} {o ps os:List D}:nI b p o->Parts b ps os->Parts b (p::ps) (o++os)
def qS:Fm->Bool
 | .g8 _ _=>true
 | .new _ _=>true
 | _=>false
def Pg:Fm->Str
 | .nm _=>"name"
 | .num _=>"num"
 | .op _=>"op"
 | .iR=>"zero"
 | .lt _=>"let"
 | .mk _=>"make"
 | .ask _=>"ask"
 | .g8 _ _=>"case"
 | .new _ _=>"new"
theorem Ck{f:Fm}{ks:List Tm}(h:dY f ks.length):∃ ps,Dl f (ks.map toD)=.tup (.str (Pg f)::ps)/\Parts (qS f) ps (if f.w=0 then [] else ks.map toD)/\ps.length<=3:=by
 cases f with
 | nm x=>exact#[_,U,.cons (.str x) .nil,by show 1<=3;decide]
 | num i=>exact#[_,U,.cons (.int i) .nil,by show 1<=3;decide]
 | op s =>
  let(a,b,rfl):=ln2 h.2;exact#[_,U,.cons (.str s) (.cons (.one a) (.cons (.one b) .nil)),Ys _]
 | iR =>
  let(a,b,c,rfl):=Qv h;exact#[_,U,.cons (.one a) (.cons (.one b) (.cons (.one c) .nil)),Ys _]
 | lt x =>
  let(a,b,rfl):=ln2 h.2;exact#[_,U,.cons (.str x) (.cons (.one a) (.cons (.one b) .nil)),Ys _]
 | mk x =>
  refine#[_,U,?_,by show 2<=3;decide];have:=Parts.cons (b:=false) (.str x) (.cons (.all ks U) .nil);rw[YA] at this;exact this
 | ask x =>
  let(a,r,rfl):=Fe h.2.1;refine#[_,U,?_,Ys _];have:=Parts.cons (b:=false) (.one a) (.cons (.str x) (.cons (.all r U) .nil));rw[YA] at this;exact this
 | g8 r hs =>
  let(a,l,rfl):=Fe (l:=ks) (by rw[h.2.2];cbv);refine#[_,U,?_,Ys _];have:=Parts.cons (b:=true) (.one a) (.cons (.str r) (.cons (.rows hs l U (Z7 h.2.2)) .nil));rw[YA] at this;exact this
 | new k hs =>
  refine#[_,U,?_,by show 2<=3;decide];have:=Parts.cons (b:=true) (.str k) (.cons (.rows hs ks U h.2.2) .nil);rw[YA] at this;exact this
theorem in_tab(f:Fm):lz (fv (D.str (Pg f))) (([.str "case",.str "new"]:List D).map fv)=qS f:=by
 cases f with
 | nm x=>exact (by decide+kernel:lz (fv (D.str "name")) (([.str "case",.str "new"]:List D).map fv)=false)
 | num i=>exact (by decide+kernel:lz (fv (D.str "num")) (([.str "case",.str "new"]:List D).map fv)=false)
 | op s=>exact (by decide+kernel:lz (fv (D.str "op")) (([.str "case",.str "new"]:List D).map fv)=false)
 | iR=>exact (by decide+kernel:lz (fv (D.str "zero")) (([.str "case",.str "new"]:List D).map fv)=false)
 | lt x=>exact (by decide+kernel:lz (fv (D.str "let")) (([.str "case",.str "new"]:List D).map fv)=false)
 | mk c=>exact (by decide+kernel:lz (fv (D.str "make")) (([.str "case",.str "new"]:List D).map fv)=false)
 | ask f=>exact (by decide+kernel:lz (fv (D.str "ask")) (([.str "case",.str "new"]:List D).map fv)=false)
 | g8 r hs=>exact (by decide+kernel:lz (fv (D.str "case")) (([.str "case",.str "new"]:List D).map fv)=true)
 | new k hs=>exact (by decide+kernel:lz (fv (D.str "new")) (([.str "case",.str "new"]:List D).map fv)=true)
def Sh:aav:=λds R=>∃ (f:Fm) (ks:List Tm),ds=[toD (.node f ks)]/\(dY f ks.length/\f.w=1)/\R (.lst (ks.map toD))
theorem DQ(k:Tm):∃ (x:Str) (ps:List D),toD k=.tup (.str x::ps):=by
 cases k with
 | node f ks =>
  show ∃ x ps,Dl f (toDs ks)=_;cases f<;>exact#[_,_,U]
theorem Iz(F:Own K mg bQ)(T:Txt K mg):aa1 P w K mg base bQ 1 Sh:=by
 refine F.d (nos:=1) du (λds R h=>?_) λf a9 A outer s H E M hr=>#[_,(af (sN 0 1 du.nd (aH ae))
 (af (sF (bf (fk (vd 0) (bA ah) bD)) (gN 2 du.nd)
 (ai (bK (DW.dt (jJ (b7 (a8 bo eA U T.sx PyProof.Rows.boot_isinstance (aa (vd 2) (aa (dc (d:=.ty "tuple") (bM (v:=.ty "tuple") U T.tuple (by decide+kernel) U) U) ae)))) (jJ (aF mQ mE (fO T.len (aa (vd 2) ae)) ah (ax _)) (kA (b7 (a8 bo eA U T.sx PyProof.Rows.boot_isinstance (aa (cb (vd 2) ah) (aa (dc (d:=.ty "str") (bM (v:=.ty "str") U T.str (by decide+kernel) U) U) ae))))))))
 (ai (sE 1 (aa (vd 2) ae)))
 (ai (bK (b7 (a8 bo eA U T.sx PyProof.Rows.boot_isinstance (aa (vd 2) (aa (dc (d:=.ty "tuple") (bM (v:=.ty "tuple") U T.tuple (by decide+kernel) U) U) ae))))
 (ai (bC (pJ YW YX cP jF (pv 1) (aa (DN.de (nC ["_law_one"] [0] (bf (vd 2)) (λ_ _ _ _=>(gM 0 ["_law_one","_law_term"])) (λ_ _ _ _=>bh)
 (λ_ _ _ _=>(ic (DN.de (aH (aa (vd 0) (aa (cb (vd 0) (dc (d:=.int (-1)) b6 U)) ae)))) (er iw qM U T.int (by decide+kernel) (aa (bW dq okIn (cb (vd 1) ah) (aW (aa ak (aa ak ae))) U) ae)))))) ae))))
 aL)))))
 (ai (aP (zF (pv 1)))))),λds R h=>?_]
 .let(f,ks,rfl,_):=h
  rfl
 .let(f,ks,rfl,(aN,hfw),q):=h;have hsz:=aC;let(ps,e,hp,fC):=Ck aN;rw[bS,e];rw[if_neg (by cbv)] at hp;have hkl:(ks.map toD).length<=4:=by
   have:=aN.Ff;rw[Yk];cbv
  refine#[#[U,U],?_];refine#[_,U,_,U,_,U,?_];rw[fI];refine#[_,.inr U,?_];refine jY (λxs s=>∃ (os acc:List D) (x2:Sl),x2.pl=true/\Parts (qS f) xs os/\acc++os=ks.map toD/\s=#[[.dat (.tup (.str (Pg f)::ps)),.own 0,x2],[some (.lst acc)]]) ?_ ?_ _ _ #[_,[],.no,U,hp,U,U]
  .rintro s ⟨os,acc,x2,hx2,hP,he,rfl⟩;cases hP;rw[YA] at he;subst he;exact .inr #[_,_,U,U,q]
  .rintro x xs s N ⟨os,acc,x2,hx2,hP,he,rfl⟩ hN hE_;cases hP with
   | cons h1 h2 =>
   have hal:=congrArg List.length he;rw[Yl,Yl] at hal;cases h1 with
   | str z =>
    refine#[_,U,_,_,false,U,U,_,U,?_];refine cq U ?_;refine#[_,U,_,_,false,U,U,_,U,?_];refine cq U ?_;exact hN _ #[_,acc,.dat (.str z),U,h2,he,U]
   | int z =>
    refine#[_,U,_,_,false,U,U,_,U,?_];refine cq U ?_;refine#[_,U,_,_,false,U,U,_,U,?_];refine cq U ?_;exact hN _ #[_,acc,.dat (.int z),U,h2,he,U]
   | one k =>
    let(z,qs,ek):=DQ k;rw[ek] at he ⊢;refine#[_,U,_,_,true,U,U,_,U,?_];refine gn U ?_;refine#[_,U,_,.inr U,_,_,U,U,_,U,?_];refine gn (decide_eq_true (by show (0:Int) < ((qs.length+1:Nat):Int);cbv)) ?_;refine#[_,U,_,_,_,U,U,bU,_,_,true,U,U,_,U,?_];refine gn U ?_;refine#[0,_,U,U,U,_,U,_,U,_,_,U,U,by cbv,?_];exact hN _ #[_,acc++[.tup (.str z::qs)],.dat (.tup (.str z::qs)),U,h2,by rw[<- he];simp,U]
   | all js hb =>
    refine#[_,U,_,_,true,U,U,_,U,?_];refine gn U ?_;refine#[_,U,_,.inr U,_,_,U,U,_,U,?_];refine' jn ?jE λjE=>?main
    case main =>
     refine cx U (λhpos=>?_) λ_=>jE;let(k,hk,ek):=qo (f:=toD) (xs:=js) (r:=0) (by decide) (by simpa using of_decide_eq_true hpos);exact#[_,U,_,_,_,U,U,ek,_,_,false,U,Df k,_,U,jE]
    case jE =>
     refine cq U ?_;refine#[_,U,_,_,true,U,U,_,U,?_];refine gn U ?_;refine#[0,_,U,U,U,?_];refine#[_,U,_,.inr U,?_];refine aB toD toD _ (λk hk kk hkk=>?_) ?_
     .let(z,qs,ek):=DQ k;let(dl,edl):=F0 (.str z::qs) (by simp);refine#[_,U,_,U,_,_,_,ek,U,edl,?_];refine#[_,U,_,_,_,U,U,bU,_,.inr U,#[U,U],.inr #[_,U,?_]];rw[show lz (fv (D.str (Pg f))) (([.str "case",.str "new"]:List D).map fv)=qS f from in_tab f,hb];exact#[_,_,_,U,U,U,hkk _ U]
     rw[YE];refine#[_,U,_,_,U,U,?_,?_]
     .cbv
     exact hN _ #[_,acc++js.map toD,.dat (.tup (js.map toD)),U,h2,by rw[<- he];simp,U]
   | rows hs js hb hl =>
    have em:aY hs (js.map toD)=(hs.zip js).map λp=>oA p.1 (toD p.2):=by
     clear he hal h2 hN
     induction hs generalizing js with
     | nil=>cases js<;>rfl
     | cons a hs ih =>
      cases js with
      | nil=>rfl
      | cons b js=>rw[Yp,aY,ih js (Z7 hl)];rfl
    have ez:(hs.zip js).map (λp=>toD p.2)=js.map toD:=by
     rw[show (λp:(Str×List Str)×Tm=>toD p.2)=toD∘Prod.snd from U,<- YF,List.map_snd_zip (Nat.le_of_eq hl)]
    rw[em];refine#[_,U,_,_,true,U,U,_,U,?_];refine gn U ?_;refine#[_,U,_,.inr U,_,_,U,U,_,U,?_];refine' jn ?jE λjE=>?main
    case main =>
     refine cx U (λhpos=>?_) λ_=>jE;let(p,hk,ek):=qo (f:=λp:(Str×List Str)×Tm=>oA p.1 (toD p.2)) (xs:=hs.zip js) (r:=0) (by decide) (by simpa using of_decide_eq_true hpos);exact#[_,U,_,_,_,U,U,ek,_,_,false,U,U,_,U,jE]
    case jE =>
     refine cq U ?_;refine#[_,U,_,_,true,U,U,_,U,?_];refine gn U ?_;refine#[0,_,U,U,U,?_];refine#[_,U,_,.inr U,?_];refine aB (λp:(Str×List Str)×Tm=>oA p.1 (toD p.2)) (λp=>toD p.2) _ (λp hk kk hkk=>?_) ?_
     .refine#[_,U,_,U,_,_,_,U,U,U,?_];refine#[_,U,_,_,_,U,U,bU,_,.inr U,#[U,U],.inr #[_,U,?_]];rw[show lz (fv (D.str (Pg f))) (([.str "case",.str "new"]:List D).map fv)=qS f from in_tab f,hb];exact#[_,_,_,U,U,U,hkk _ U]
     rw[YE,ez];refine#[_,U,_,_,U,U,?_,?_]
     .cbv
     exact hN _ #[_,acc++js.map toD,.dat (.tup ((hs.zip js).map λp=>oA p.1 (toD p.2))),U,h2,by rw[<- he];simp,U]
def Sq:Nat->aav
 | 0=>λ_ _=>False
 | n+1=>λds R=>∃ t:Tm,ds=[toD t]/\(t.gt/\t.dep<=n+1/\t.g7<=20)/\R (.str (bp t.T))
def GO(k:Tm):D:=.str (bp k.T)
def tx(k:Tm):Str:=bp k.T
theorem lr(ks:List Tm):ks.map GO=(ks.map tx).map D.str:=by
 rw[YF]
 rfl
theorem vi:∀ {ks:List Tm} {k:Tm},k∈ks->k.g7<=dM ks
 | a::ks,k,h=>by
  rcases Yn.mp h with rfl | h
  .exact Nat.le_add_right _ _
  .exact Yw (vi h) (Nat.le_add_left _ _)
theorem ED{xs:List D}:cutD xs (some 0) none=xs:=by
 have:=qe (f:=id) (xs:=xs) (lo:=some 0) (hi:=none);rw[aae] at this;rw[this];simp[HT.cz]
def jU(p:(Str×List Str)×Tm):Str:="| "++Txt.join " " (p.1.1::p.1.2)++" : "++tx p.2
def zr(p:(Str×List Str)×Tm):D:=.tup [oA p.1 (toD p.2),.str (tx p.2)]
theorem zip_rows:∀ (hs:List (Str×List Str)) (js:List Tm),pB (aY hs (js.map toD)) ((js.map tx).map D.str)=(hs.zip js).map zr
 | [],js=>by cases js<;>rfl
 | _::_,[]=>rfl
 | h::hs,j::js=>by
  have:=zip_rows hs js;unfold pB at this ⊢;rw[Yp,aY,Yp,Yp,List.zipWith_cons_cons,this]
  rfl
theorem qF:∀ (hs:List (Str×List Str)) (l:List D),l.length=hs.length->(aY hs l).length=l.length
 | [],[],_=>rfl
 | _::hs,_::l,h=>congrArg (·+1) (qF hs l (Z7 h))
theorem Ey(p:(Str×List Str)×Tm):cd (jU p)=124::32::(bc (cd p.1.1::p.1.2.map cd)++32::58::32::p.2.T):=by
 unfold jU;rw[aZ,aZ,aZ,lU];show [124,32]++bc (cd p.1.1::p.1.2.map cd)++[32,58,32]++p.2.T=_;simp
theorem oC:∀ (hs:List (Str×List Str)) (js:List Tm),(((hs.zip js).map jU).map cd).flatMap (32::·)=cv hs (je js)
 | [],js=>by cases js<;>rfl
 | _::_,[]=>rfl
 | h::hs,j::js=>by
  rw[ZH,Yp,Yp,Yt,oC hs js,Ey]
  rfl
theorem sV{hs:List (Str×List Str)}{js:List Tm}{R:jb}{d0 d1:D}(hh:n6 hs)(hj:∀ k∈js,(tx k).length<=5000)(hR:∀ x3 x4:Sl,x3.pl=true->x4.pl=true->R.nx #[[.dat d0,.dat d1,.own 0,x3,x4],[some (.lst (((hs.zip js).map jU).map .str))]]) :
  mT (Hu 2 (zm (qK 3) (zm (qK 4) ID))) (u7 (LC 2 Jg (f7 (vS tm (vS tm (vS tm (BE (D.str "| ")) (Dk (BE (D.str " ")) (f7 (vS NV (HW (f7 (vS GC (AI 3) (BE (D.int 0))) lb)) (o8 Im (f7 (vS GC (AI 3) (BE (D.int 1))) lb))) lb))) (BE (D.str " : "))) (AI 4)) lb))) R ((hs.zip js).map zr) #[[.dat d0,.dat d1,.own 0,.no,.no],[some (.lst [])]]:=by
 have hsz:=aC;refine jY (λxs s=>∃ (dn td:List ((Str×List Str)×Tm)) (x3 x4:Sl),x3.pl=true/\x4.pl=true/\hs.zip js=dn++td/\xs=td.map zr/\s=#[[.dat d0,.dat d1,.own 0,x3,x4],[some (.lst ((dn.map jU).map .str))]]) ?_ ?_ _ _ #[[],_,.no,.no,U,U,U,U,U]
 .rintro s ⟨dn,td,x3,x4,h3,h4,e,hx,rfl⟩;have htd:td=[]:=by
   cases td with
   | nil=>rfl
   | cons a b=>cases hx
  rw[htd,YA] at e;rw[<- e];exact hR x3 x4 h3 h4
 .rintro x xs s N ⟨dn,td,x3,x4,h3,h4,e,hx,rfl⟩ hN hE_;cases td with
  | nil=>cases hx
  | cons p td =>
  injection hx with z1 z2;subst z1 z2;have hm:p∈hs.zip js:=by rw[e];simp
  have hh1:=hh.2 p.1 (Zb (a:=p.1) (b:=p.2) hm).1;have hj1:=hj p.2 (Zb (a:=p.1) (b:=p.2) hm).2;have hzl:(hs.zip js).length<=3:=by
   rw[ZZ];have:=hh.1;cbv
  have hle:=congrArg List.length e;rw[Yl] at hle;let(j1,j2):=join_le p.1.1 p.1.2 (bJ hh1.1) hh1.2.1 λn hn=>bJ (hh1.2.2 n hn);refine#[_,U,U,_,_,U,_,_,U,U,?_];refine#[0,_,U,U,U,?_];refine#[_,U,_,U,_,_,_,U,U,U,_,U,_,_,_,U,U,U,_,.inr U,_,_,U,U,?_,p.1.1::p.1.2,U,Yw j1 (by decide),?_]
  .show 1+(p.1.2.map D.str).length<=_;rw[Yk];cbv
  refine#[_,_,U,U,?_,_,_,U,U,?_,_,U,_,_,U,U,?_,?_]
  .show 2+_<=_;cbv
  .rw[Y8];show 2+_+3<=_;cbv
  .rw[Y8,Y8];show 2+_+3+_<=_;cbv
  refine#[_,U,_,_,U,U,by rw[Yk,Yk];cbv,?_];refine hN _ #[dn++[p],td,.dat (oA p.1 (toD p.2)),.dat (.str (tx p.2)),U,U,by rw[e];simp,U,?_];rw[Yr,Yr]
  rfl
theorem Hx(Rf:aa1 P w K mg base bQ 1 Sh)(LX:Own K mg eI)(T:Txt K mg):∀ n:Nat,aa1 P w K mg base eI (n+2) (Sq n)
 | 0=>LX.c λ_ _ _=>xk
 | n+1=>by
  have T1:=Hx Rf LX T n;refine LX.c λfTX fdTX F_=>?_;refine Ts (nos:=1) F_ aT (λds R h=>?_) λa9 A outer s H E M hr=>#[_,(af (bK (aF dq okIn (cb (vd 0) ah) (aW (aa ak (aa ak ae))) U)
 (ai (aP (er oB yR U T.str (by decide+kernel) (aa (cb (vd 0) ah) ae))))
 aL)
 (af (lg (ux (nZ (i:=1) aT.nd U U (ts:=["_law_part"]) (us:=[]) #[U,U,U,U,U,U] rfl (bf (aj hr Rf (aa (vd 0) ae))) (λ_ _ _ _=>(gM 0 ["_law_part"])) (λ_ _ _ _=>bh)
 (λ_ _ _ _=>(aj hr T1 (aa (vd 0) ae))))))
 (af (sN 0 2 aT.nd (aH ae))
 (af (bK (aF dq okIn (cb (vd 0) ah) (aW (aa ak (aa ak ae))) U)
 (ai (sF (Aa U T.zip (aa (cb (vd 0) (dc (d:=.int (-1)) b6 U)) (aa (DN.de (cm (vd 1) (bA (bb qO jg (fO T.len (aa (vd 1) ae)) (fO T.len (aa (cb (vd 0) (dc (d:=.int (-1)) b6 U)) ae)))) bD)) ae))) (f9 (m:=2) U (aQ (gN 3 aT.nd) (aQ (gN 4 aT.nd) fE)))
 (ai (sE 2 (aa (bb aA a7 (bb aA a7 (bb aA a7 ak (eh ak (aa (DN.de (ck bu br (DN.de (aH (aa (cb (vd 3) ah) ae))) (DN.de (ix d5 ig U T.list (by decide+kernel) (aa (cb (vd 3) ah) ae))))) ae))) ak) (vd 4)) ae)))))
 aL)
 (af (bK (aF aM bx (cb (vd 0) ah) ak (ax _))
 (ai (sS 1 aT.nd (DN.de (ck bu br (DN.de (aH (aa (cb (vd 0) ah) ae))) (vd 1)))))
 (ai (bK (aF dq okIn (cb (vd 0) ah) (aW (aa ak (aa ak ae))) U)
 (ai (sS 1 aT.nd (DN.de (ck bu br (DN.de (aH (aa (cb (vd 0) ah) (aa (cb (vd 0) ah) ae)))) (vd 1)))))
 (ai (bK (aF aM bx (cb (vd 0) ah) ak (ax _))
 (ai (sS 1 aT.nd (DN.de (ck bu br (DN.de (aH (aa ak (aa (ic (vd 1) ah) (aa (cb (vd 0) ah) ae))))) (DN.de (cm (vd 1) (bA ah) bD))))))
 (ai (bK (aF aM bx (cb (vd 0) ah) ak (ax _))
 (ai (sS 1 aT.nd (DN.de (ck bu br (DN.de (aH (aa ak ae))) (vd 1)))))
 (ai (bK (aF aM bx (cb (vd 0) ah) ak (ax _))
 (ai (sS 1 aT.nd (DN.de (ck bu br (DN.de (aH (aa ak (aa (ic (vd 1) ah) (aa ak (aa (cb (vd 0) ah) ae)))))) (zF (pv 2))))))
 (ai (sS 1 aT.nd (DN.de (ck bu br (DN.de (aH (aa ak (aa (cb (vd 0) ah) ae)))) (zF (pv 2)))))))))))))))
 (ai (aP (bb aA a7 (bb aA a7 ak (eh ak (aa (vd 1) ae))) ak)))))))),λds R h=>?_]
  .let(t,rfl,_):=h
   rfl
  .let((f,ks),rfl,((aN,hgs),hdep,hinn),q):=h;have hsz:=aC;have hkl:=aN.Ff;have hTl:=oY (.node f ks) #[aN,hgs];by_cases hfw:f.w=0
   .cases f with
    | nm x =>
     refine#[_,U,_,_,_,U,U,U,_,.inr U,#[U,U],_,U,?_];refine gn (by decide+kernel) ?_;refine#[_,U,_,_,_,U,U,U,.inr #[_,U,?_]];have e:bp (Tm.node (.nm x) ks).T=x:=oP x;rw[e] at q;exact q
    | num i =>
     refine#[_,U,_,_,_,U,U,U,_,.inr U,#[U,U],_,U,?_];refine gn (by decide+kernel) ?_;refine#[_,U,_,_,_,U,U,U,.inl #[_,U,CP aN.1.1 aN.1.2,?_]];have e:bp (Tm.node (.num i) ks).T=eL i:=oP (eL i);rw[e] at q;exact q
    | _=>cases hfw
   .have hw1:f.w=1:=by cases f<;>first | rfl | exact absurd U hfw
    have hdk:pH ks<=n:=aag hdep;have hik:1+dM ks<=20:=by
     have:(Tm.node f ks).g7=f.w+dM ks:=rfl;cbv
    have hT:(Tm.node f ks).T=40::e8 f (je ks)++[41]:=by
     rw[Tm.T,o7,if_neg hfw]
    have hleaf:qS f=qS f:=rfl;have fin:∀ (zs:List Str) (x2 x3 x4:Sl) (d0:D) (os:List (Option D)),bc (zs.map cd)=e8 f (je ks)->zs.length<=20->Cm (vS tm (vS tm (BE (D.str "(")) (Dk (BE (D.str " ")) (f7 (AI 1) lb))) (BE (D.str ")"))) { nx:=λ_=>R D.cw,rt:=R } #[[.dat d0,.dat (.lst (zs.map .str)),x2,x3,x4],os]:=λzs x2 x3 x4 d0 os hz hzl=>by
     have hjl:(Txt.join " " zs).length=(e8 f (je ks)).length:=by rw[<- eN,lU,hz]
     have hbl:(e8 f (je ks)).length<=5000:=by
      rw[hT] at hTl;simp only[List.length_append,List.length_cons] at hTl;have:(Tm.node f ks).g7<=20:=hinn;cbv
     have hsum:(zs.map (·.length)).sum<=(e8 f (je ks)).length:=by
      rw[<- hz];clear hz hjl hbl hzl;cases zs with
      | nil=>exact YO _
      | cons a l =>
       rw[Yp,Yp,bc,Yl,fU,Zi,eN];have:(l.map (·.length)).sum=((l.map cd).map List.length).sum:=by
        rw[YF]
        congr 1
        first | done | (refine Zl λx _=>?_;exact (eN x).symm)
       cbv
     refine#[_,U,_,U,zs,U,?_,?_]
     .show _+zs.length * 1<=_;cbv
     refine#[_,_,U,U,?_,_,_,U,U,?_,?_]
     .show 1+_<=_;cbv
     .rw[Y8];show 1+_+1<=_;cbv
     .have e:("(":Str)++Txt.join " " zs++")"=bp (Tm.node f ks).T:=cJ (by
       rw[aZ,aZ,lU,hz,hT]
       rfl)
      rw[e];exact q
    have callX:∀ k∈ks,∀ Q:D->Prop,Q (GO k)->Sq n [toD k] Q:=λk hk Q hQ=>by
     have h1:k.dep<=n:=Yw (uN hk) hdk;have h2:=vi hk;have h3:1<=k.dep:=by
      cases k with
      | node f ks=>exact Ze (YO _)
     cases n with
     | zero=>cbv
     | succ n=>exact#[k,U,#[dB hgs k hk,h1,by cbv],hQ]
    have qT:(ks.map tx).map cd=je ks:=by
     rw[mN,YF]
     rfl
    have WR:(ks.map tx).length<=4:=by rw[Yk];cbv
    rw[bS];cases f with
    | nm x=>exact absurd U hfw
    | num x=>exact absurd U hfw
    | op s =>
     let(a,b,rfl):=ln2 aN.2;refine#[_,U,_,_,_,U,U,U,_,.inr U,#[U,U],_,U,?_];refine cq (by decide+kernel) ?_;refine#[_,U,_,_,by rw[<- bS],#[aN,U],_,.inl U,?_];refine aB toD GO _ (λk hk kk hkk=>#[_,U,callX k hk _ (hkk _ U)]) ?_;rw[YE,lr];refine#[#[U,U],?_];refine#[_,U,_,_,_,U,U,U,_,.inr U,#[U,U],_,U,?_];refine cq (by decide+kernel) ?_;refine#[_,U,_,_,_,U,U,U,#[U,U,U],_,U,?_];refine gn (by decide+kernel) ?_;refine#[_,U,_,_,_,U,U,U,_,U,_,_,U,U,by show 1+2<=_;cbv,?_];exact fin [s,tx a,tx b] _ _ _ _ _ (by rw[Yp];exact congrArg (λl=>bc (cd s::l)) qT) (by show 3<=20;decide)
    | iR =>
     let(a,b,c,rfl):=Qv aN;refine#[_,U,_,_,_,U,U,U,_,.inr U,#[U,U],_,U,?_];refine cq (by decide+kernel) ?_;refine#[_,U,_,_,by rw[<- bS],#[aN,U],_,.inl U,?_];refine aB toD GO _ (λk hk kk hkk=>#[_,U,callX k hk _ (hkk _ U)]) ?_;rw[YE,lr];refine#[#[U,U],?_];refine#[_,U,_,_,_,U,U,U,_,.inr U,#[U,U],_,U,?_];refine cq (by decide+kernel) ?_;refine#[_,U,_,_,_,U,U,U,#[U,U,U],_,U,?_];refine cq (by decide+kernel) ?_;refine#[_,U,_,_,_,U,U,U,_,.inr U,#[U,U],_,U,?_];refine cq (by decide+kernel) ?_;refine#[_,U,_,_,_,U,U,U,#[U,U,U],_,U,?_];refine cq (by decide+kernel) ?_;refine#[_,U,_,_,_,U,U,U,#[U,U,U],_,U,?_];refine gn (by decide+kernel) ?_;refine#[_,U,_,_,U,U,by show 1+3<=_;cbv,?_];exact fin ["zero",tx a,tx b,tx c] _ _ _ _ _ (by rw[Yp];exact congrArg (λl=>bc (cd "zero"::l)) qT) (by show 4<=20;decide)
    | lt x =>
     let(a,b,rfl):=ln2 aN.2;refine#[_,U,_,_,_,U,U,U,_,.inr U,#[U,U],_,U,?_];refine cq (by decide+kernel) ?_;refine#[_,U,_,_,by rw[<- bS],#[aN,U],_,.inl U,?_];refine aB toD GO _ (λk hk kk hkk=>#[_,U,callX k hk _ (hkk _ U)]) ?_;rw[YE,lr];refine#[#[U,U],?_];refine#[_,U,_,_,_,U,U,U,_,.inr U,#[U,U],_,U,?_];refine cq (by decide+kernel) ?_;refine#[_,U,_,_,_,U,U,U,#[U,U,U],_,U,?_];refine cq (by decide+kernel) ?_;refine#[_,U,_,_,_,U,U,U,_,.inr U,#[U,U],_,U,?_];refine gn (by decide+kernel) ?_;refine#[_,U,_,_,_,U,U,U,_,U,_,_,_,U,U,U,_,U,_,_,U,U,by show 2+2<=_;cbv,?_];exact fin ["let",x,tx a,tx b] _ _ _ _ _ (by
      rw[Yp,Yp,show ([tx a,tx b]:List Str).map cd=je [a,b] from qT];show cd "let"++(32::cd x++_)=cd "let "++cd x++_;rw[show cd "let "=cd "let"++[32] from U];simp only[List.cons_append,List.nil_append,List.append_assoc]
      rfl) (by show 4<=20;decide)
    | mk x =>
     refine#[_,U,_,_,_,U,U,U,_,.inr U,#[U,U],_,U,?_];refine cq (by decide+kernel) ?_;refine#[_,U,_,_,by rw[<- bS],#[aN,U],_,.inl U,?_];refine aB toD GO _ (λk hk kk hkk=>#[_,U,callX k hk _ (hkk _ U)]) ?_;rw[YE,lr];refine#[#[U,U],?_];refine#[_,U,_,_,_,U,U,U,_,.inr U,#[U,U],_,U,?_];refine cq (by decide+kernel) ?_;refine#[_,U,_,_,_,U,U,U,#[U,U,U],_,U,?_];refine cq (by decide+kernel) ?_;refine#[_,U,_,_,_,U,U,U,_,.inr U,#[U,U],_,U,?_];refine gn (by decide+kernel) ?_;refine#[_,U,_,_,_,U,U,U,_,U,_,_,_,U,U,U,_,U,_,_,U,U,?_,?_]
     .rw[Yk];show 2+_<=_;cbv
     exact fin ("make"::x::ks.map tx) _ _ _ _ _ (by
      rw[Yp,Yp,qT];show cd "make"++(32::cd x++_)=cd "make "++cd x++_;rw[show cd "make "=cd "make"++[32] from U];simp only[List.cons_append,List.nil_append,List.append_assoc]
      rfl) (by show (ks.map tx).length+2<=20;cbv)
    | ask x =>
     let(a,r,rfl):=Fe aN.2.1;refine#[_,U,_,_,_,U,U,U,_,.inr U,#[U,U],_,U,?_];refine cq (by decide+kernel) ?_;refine#[_,U,_,_,by rw[<- bS],#[aN,U],_,.inl U,?_];refine aB toD GO _ (λk hk kk hkk=>#[_,U,callX k hk _ (hkk _ U)]) ?_;rw[YE,lr];refine#[#[U,U],?_];refine#[_,U,_,_,_,U,U,U,_,.inr U,#[U,U],_,U,?_];refine cq (by decide+kernel) ?_;refine#[_,U,_,_,_,U,U,U,#[U,U,U],_,U,?_];refine cq (by decide+kernel) ?_;refine#[_,U,_,_,_,U,U,U,_,.inr U,#[U,U],_,U,?_];refine cq (by decide+kernel) ?_;refine#[_,U,_,_,_,U,U,U,#[U,U,U],_,U,?_];refine gn (by decide+kernel) ?_;refine#[_,U,_,_,_,U,U,bU,_,U,_,_,_,U,U,U,_,U,_,U,_,U,?_];rw[show cutD (((a::r).map tx).map D.str) (some 1) none=(r.map tx).map D.str from fI];refine#[_,_,U,U,?_,?_]
     .rw[Yk];show 3+_<=_;have:((a::r).map tx).length=(r.map tx).length+1:=rfl;cbv
     exact fin ("ask"::tx a::x::r.map tx) _ _ _ _ _ (by
      have hcr:(r.map tx).map cd=je r:=by
       rw[mN,YF]
       rfl
      rw[Yp,Yp,Yp,hcr];show cd "ask"++(32::a.T++(32::cd x++_))=cd "ask "++a.T++(32::cd x)++_;rw[show cd "ask "=cd "ask"++[32] from U];simp only[List.cons_append,List.nil_append,List.append_assoc]
      rfl) (by
      have:((a::r).map tx).length=(r.map tx).length+1:=rfl;show (r.map tx).length+3<=20;cbv)
    | g8 r hs =>
     let(hr1,hh,hk):=aN;have aN:dY (.g8 r hs) ks.length:=#[hr1,hh,hk];let(a,js,rfl):=Fe (l:=ks) (by cbv);have hjl:js.length=hs.length:=Z7 hk;refine#[_,U,_,_,_,U,U,U,_,.inr U,#[U,U],_,U,?_];refine cq (by decide+kernel) ?_;refine#[_,U,_,_,by rw[<- bS],#[aN,U],_,.inl U,?_];refine aB toD GO _ (λk hk kk hkk=>#[_,U,callX k hk _ (hkk _ U)]) ?_;rw[YE,lr];refine#[#[U,U],?_];refine#[_,U,_,_,_,U,U,U,_,.inr U,#[U,U],_,U,?_];refine gn (by decide+kernel) ?_;refine#[_,U,_,_,_,U,U,U,_,U,_,U,_,.inl U,_,U,_,_,_,U,U,U,_,.inr U,_,_,U,U,_,U,_,U,?_];have hrl:(aY hs (js.map toD)).length=js.length:=by rw[qF hs _ (by rw[Yk];exact hjl),Yk]
     have ec:cutD (((a::js).map tx).map D.str) (some ((((a::js).map tx).map D.str).length - (aY hs ((a::js).map toD).tail).length)) none=(js.map tx).map D.str:=by
      rw[show (aY hs ((a::js).map toD).tail).length=js.length from hrl,show ((((a::js).map tx).map D.str).length:Int) - (js.length:Int)=1 by rw[Yk,Yk,Yv];cbv];exact fI
     rw[ec];refine#[_,_,_,_,U,#[U,U],?_];rw[show pB (aY hs ((a::js).map toD).tail) ((js.map tx).map D.str)=(hs.zip js).map zr from zip_rows hs js];refine sV hh (λk hk=>?_) λx3 x4 h3 h4=>?_
     .have h1:=oY k (dB hgs k (Yo _ hk));have h2:k.g7<=dM (a::js):=vi (Yo _ hk);show (bp k.T).length<=_;rw[bB];cbv
     refine#[_,U,_,_,_,U,U,U,#[U,U,U],_,U,?_];refine cq (by decide+kernel) ?_;refine#[_,U,_,_,_,U,U,U,_,.inr U,#[U,U],_,U,?_];refine cq (by decide+kernel) ?_;refine#[_,U,_,_,_,U,U,U,#[U,U,U],_,U,?_];refine cq (by decide+kernel) ?_;refine#[_,U,_,_,_,U,U,U,#[U,U,U],_,U,?_];refine cq (by decide+kernel) ?_;refine#[_,U,_,_,_,U,U,U,#[U,U,U],_,U,?_];refine gn (by decide+kernel) ?_;refine#[_,U,_,_,_,U,U,bU,_,U,_,_,_,U,U,U,?_];refine .inr #[_,_,U,U,_,_,U,U,?_,?_]
     .have:=hh.1;rw[Yk,Yk,ZZ];show 4+_<=_;cbv
     exact fin ("case"::tx a::"to"::r::(hs.zip js).map jU) _ _ _ _ _ (by
      rw[Yp,Yp,Yp,Yp];show cd "case"++(32::a.T++(32::cd "to"++(32::cd r++(((hs.zip js).map jU).map cd).flatMap (32::·))))=cd "case "++a.T++cd " to "++cd r++cv hs (je js);rw[oC,show cd "case "=cd "case"++[32] from U,show cd " to "=32::cd "to"++[32] from U];simp only[List.cons_append,List.nil_append,List.append_assoc]) (by
      have:=hh.1;show ((hs.zip js).map jU).length+4<=20;rw[Yk,ZZ];cbv)
    | new k hs =>
     let(hr1,hh,hk):=aN;have aN:dY (.new k hs) ks.length:=#[hr1,hh,hk];refine#[_,U,_,_,_,U,U,U,_,.inr U,#[U,U],_,U,?_];refine cq (by decide+kernel) ?_;refine#[_,U,_,_,by rw[<- bS],#[aN,U],_,.inl U,?_];refine aB toD GO _ (λk hk kk hkk=>#[_,U,callX k hk _ (hkk _ U)]) ?_;rw[YE,lr];refine#[#[U,U],?_];refine#[_,U,_,_,_,U,U,U,_,.inr U,#[U,U],_,U,?_];refine gn (by decide+kernel) ?_;refine#[_,U,_,_,_,U,U,U,_,U,_,U,_,.inl U,_,U,_,_,_,U,U,U,_,.inr U,_,_,U,U,_,U,_,U,?_];have hrl:(aY hs (ks.map toD)).length=ks.length:=by rw[qF hs _ (by rw[Yk];exact hk),Yk]
     have ec:cutD ((ks.map tx).map D.str) (some (((ks.map tx).map D.str).length - (aY hs (ks.map toD)).length)) none=(ks.map tx).map D.str:=by
      rw[hrl,show (((ks.map tx).map D.str).length:Int) - (ks.length:Int)=0 by simp];exact ED
     rw[ec];refine#[_,_,_,_,U,#[U,U],?_];rw[zip_rows];refine sV hh (λk hk=>?_) λx3 x4 h3 h4=>?_
     .have h1:=oY k (dB hgs k hk);have h2:=vi hk;show (bp k.T).length<=_;rw[bB];cbv
     refine#[_,U,_,_,_,U,U,U,#[U,U,U],_,U,?_];refine cq (by decide+kernel) ?_;refine#[_,U,_,_,_,U,U,U,_,.inr U,#[U,U],_,U,?_];refine cq (by decide+kernel) ?_;refine#[_,U,_,_,_,U,U,U,#[U,U,U],_,U,?_];refine cq (by decide+kernel) ?_;refine#[_,U,_,_,_,U,U,U,#[U,U,U],_,U,?_];refine cq (by decide+kernel) ?_;refine#[_,U,_,_,_,U,U,U,#[U,U,U],_,U,?_];refine cq (by decide+kernel) ?_;refine#[_,U,_,_,_,U,U,U,?_];refine .inr #[_,_,U,U,_,_,U,U,?_,?_]
     .have:=hh.1;rw[Yk,Yk,ZZ];show 2+_<=_;cbv
     exact fin ("new"::k::(hs.zip ks).map jU) _ _ _ _ _ (by
      rw[Yp,Yp];show cd "new"++(32::cd k++(((hs.zip ks).map jU).map cd).flatMap (32::·))=cd "new "++cd k++cv hs (je ks);rw[oC,show cd "new "=cd "new"++[32] from U];simp only[List.cons_append,List.nil_append,List.append_assoc]) (by
      have:=hh.1;show ((hs.zip ks).map jU).length+2<=20;rw[Yk,ZZ];cbv)
mutual
noncomputable def sv:D->Bool
 | .str _=>true
 | .int _=>true
 | .tup ds=>eF ds
 | _=>false
noncomputable def eF:List D->Bool
 | []=>true
 | d::ds=>sv d&&eF ds
end
theorem wz:∀ {ds:List D},eF ds=true->∀ d∈ds,sv d=true
 | [],_,d,h=>(nomatch h)
 | a::ds,h,d,hd=>by
  have h:(sv a&&eF ds)=true:=h;rw[YG] at h;rcases Yn.mp hd with rfl | hd
  .exact h.1
  .exact wz h.2 d hd
theorem Ay:∀ {ds:List D} {d:D},d∈ds->dI d<=eU ds
 | a::ds,d,h=>by
  rw[aw];rcases Yn.mp h with rfl | h
  .exact Nat.le_max_left _ _
  .exact Yw (Ay h) (Nat.le_max_right _ _)
def WO:Nat->aav
 | 0=>λ_ _=>False
 | n+1=>λds R=>∃ d:D,ds=[d,d]/\(sv d=true/\dI d<=n)/\R (.bl true)
theorem Ht(LD:Own K mg gT)(T:Txt K mg):∀ n:Nat,aa1 P w K mg base gT (n+1) (WO n)
 | 0=>LD.c λ_ _ _=>xk
 | n+1=>by
  have Qu:=Ht LD T n;refine LD.c λfAL fdAL F_=>?_;refine Ts (nos:=0) F_ uT (λds R h=>?_) λa9 A outer s H E M hr=>#[_,(af (bK (DW.dt (jJ (b7 (a8 bo eA U T.sx PyProof.Rows.boot_isinstance (aa (vd 0) (aa (dc (d:=.ty "tuple") (bM (v:=.ty "tuple") U T.tuple (by decide+kernel) U) U) ae)))) (kA (b7 (a8 bo eA U T.sx PyProof.Rows.boot_isinstance (aa (vd 1) (aa (dc (d:=.ty "tuple") (bM (v:=.ty "tuple") U T.tuple (by decide+kernel) U) U) ae)))))))
 (ai (aP (jL (bW aM bx (fO T.len (aa (vd 0) ae)) (fO T.len (aa (vd 1) ae)) (ax _)) (i9 (a8 (gB U) Iy U T.all PyProof.Rows.boot_all (aa (DN.de (nC ["_law_part","_law_more"] [] (Aa U T.zip (aa (vd 0) (aa (vd 1) ae))) (λ_ _ _ _=>(f9 (m:=2) U (aQ (gM 0 ["_law_part","_law_more"]) (aQ (gM 1 ["_law_part","_law_more"]) fE)))) (λ_ _ _ _=>bh)
 (λ_ _ _ _=>(aj hr Qu (aa (vd 0) (aa (vd 1) ae)))))) ae))))))
 aL)
 (af (bK (DW.dt (ji (b7 (a8 bo eA U T.sx PyProof.Rows.boot_isinstance (aa (vd 0) (aa (dc (d:=.ty "str") (bM (v:=.ty "str") U T.str (by decide+kernel) U) U) ae)))) (nY (b7 (a8 bo eA U T.sx PyProof.Rows.boot_isinstance (aa (vd 1) (aa (dc (d:=.ty "str") (bM (v:=.ty "str") U T.str (by decide+kernel) U) U) ae)))))))
 (ai (aP (jL (a8 bo eA U T.sx PyProof.Rows.boot_isinstance (aa (vd 0) (aa (dc (d:=.ty "str") (bM (v:=.ty "str") U T.str (by decide+kernel) U) U) ae))) (jL (a8 bo eA U T.sx PyProof.Rows.boot_isinstance (aa (vd 1) (aa (dc (d:=.ty "str") (bM (v:=.ty "str") U T.str (by decide+kernel) U) U) ae))) (i9 (bW aM bx (vd 0) (vd 1) (ax _)))))))
 aL)
 (af (bK (DW.dt (ji (lF (b7 (a8 bo eA U T.sx PyProof.Rows.boot_isinstance (aa (vd 0) (aa (dc (d:=.ty "int") (bM (v:=.ty "int") U T.int (by decide+kernel) U) U) ae))))) (ji (lF (b7 (a8 bo eA U T.sx PyProof.Rows.boot_isinstance (aa (vd 1) (aa (dc (d:=.ty "int") (bM (v:=.ty "int") U T.int (by decide+kernel) U) U) ae))))) (ji (b7 (a8 bo eA U T.sx PyProof.Rows.boot_isinstance (aa (vd 0) (aa (dc (d:=.ty "bool") (bM (v:=.ty "bool") U T.bool (by decide+kernel) U) U) ae)))) (nY (b7 (a8 bo eA U T.sx PyProof.Rows.boot_isinstance (aa (vd 1) (aa (dc (d:=.ty "bool") (bM (v:=.ty "bool") U T.bool (by decide+kernel) U) U) ae)))))))))
 (ai (aP C6))
 aL)
 (ai (aP (bW aM bx (vd 0) (vd 1) (ax _))))))),λds R h=>?_]
  .let(d,rfl,_):=h
   rfl
  .let(d,rfl,(hp,hd),q):=h;have hsz:=aC;cases d with
   | str x =>
    refine#[_,U,_,_,false,U,U,_,U,?_];refine cq U ?_;refine#[_,U,_,_,true,U,U,_,U,?_];refine gn U ?_;refine gn U ?_;refine#[_,U,_,_,true,U,U,_,U,?_];refine gn U ?_;refine#[_,U,_,_,true,U,U,_,U,?_];refine gn U ?_;refine#[_,U,_,U,#[U,U,U],?_];rw[decide_eq_true U];exact q
   | int i =>
    refine#[_,U,_,_,false,U,U,_,U,?_];refine cq U ?_;refine#[_,U,_,_,false,U,U,_,U,?_];refine cq U ?_;refine#[_,U,_,_,false,U,U,_,U,?_];refine cq U ?_;refine#[_,U,_,_,true,U,U,_,U,?_];refine cq U ?_;refine#[_,U,_,_,true,U,U,_,U,?_];refine cq U ?_;refine#[_,U,_,_,false,U,U,_,U,?_];refine cq U ?_;refine#[_,U,_,_,false,U,U,_,U,?_];refine cq U ?_;refine#[_,U,_,U,#[U,U,U],?_];rw[decide_eq_true U];exact q
   | tup xs =>
    refine#[_,U,_,_,true,U,U,_,U,?_];refine gn U ?_;refine#[_,U,_,_,true,U,U,_,U,?_];refine gn U ?_;refine#[_,U,_,.inr U,_,U,_,.inr U,#[U,U,U],_,U,?_];refine gn (decide_eq_true U) ?_;refine#[_,U,_,U,_,_,_,_,U,#[U,U],?_];rw[show pB xs xs=xs.map λd=>D.tup [d,d] by
     unfold pB;rw[List.zipWith_self]]
    rw[ba] at hd;refine aB (λd=>D.tup [d,d]) (λ_=>D.bl true) _ (λd hdm k hk=>?_) ?_
    .refine#[_,U,U,_,_,U,_,_,U,U,_,U,_,U,?_];have h1:=Ay hdm;cases n with
     | zero=>cbv
     | succ n=>exact#[d,U,#[wz hp d hdm,by cbv],hk _ U]
    refine#[xs.map λ_=>true,?_,?_]
    .rw[YE,YF]
     rfl
    .rw[show (xs.map λ_=>true).all id=true by simp];exact q
   | _=>cases hp
end
section
variable{P:Program}{w:World}{K:Frag}{mg:Str->Option Value}{base:Heap}
def Iv(x y:Str):Bool:=!decide (y.cps.toList < x.cps.toList)
def inside(a b:Str)(c:Nat):Bool:=if Iv a #[#v[c]]=true then Iv #[#v[c]] b else false
def lies(a b z:Str):Bool:=(z.cps.toList.map (inside a b)).all id
def taken:List Str:=["made","asked","def","tab","cross","to","number","zero","let","make","ask","case","new"]
def BO(z:Str):Bool:=if 1<=z.length/\z.length<=8 then lies "a" "z" z&&!lz (.str z) (taken.map V.str) else false
def isNum(z:Str):Bool:=if 1<=z.length/\z.length<=6 then lies "0" "9" z&&(decide (z="0")||!decide ((#[#v[z.cps.toList.headD 0]]:Str)="0")) else false
structure TK(K:Frag)(mg:Str->Option Value)(tw:Addr):Prop where
 longest:∃ t,mg "LONGEST_NAME"=some (.int 8 t)
 most:∃ t,mg "MOST_FIGURES"=some (.int 6 t)
 taken:mg "TAKEN_WORDS"=some (.ref tw)
 tup:∀ H:Hp,gZ K H tw (QD.taken.map V.str)
def y9:Sp:=λvs H Q _=>∃ z a b:Str,vs=[.str z,.str a,.str b]/\z.length<=1000/\∀ H',dS H H'->Q (.bl (lies a b z)) H'
theorem K0:(["sign","first","last"]:List Str).Nodup:=by decide+kernel
theorem zq{f:Addr}{fd:FuncData}(F:vk K "lies_between" "lies_between" dU f fd)(T:Txt K mg):bV P w K mg base aD 1 f fd ["text","first","last"] y9:=by
 refine F.ok pC (λvs H Q E h=>?_) (λa9 A outer s H vs Q E hr h=>?_)
 .let(z,a,b,rfl,_):=h
  rfl
 .let(z,a,b,rfl,hz,k):=h;refine#[_,aX (eP (dm (gB U) U T.all PyProof.Rows.boot_all (az
   (vh (ts:=["sign"]) (us:=[1,2]) #[U,U,U,U,U,U] rfl (Ln (pv 0)) (λ_ _ _ _=>fb (i:=0) K0 U (Or.inl U)) (λ_ _ _ _=>uW)
    (λ_ _ _ _=>B6 tu tu (pv 1) (pv 0) (pv 2))) aK))),?_]
  refine#[_,U,z,U,vC (λc=>.bl (inside a b c)) (Yw hz (by decide)) (by decide) (λc hc H1 k1 q=>?_) (λD hD=>?_)]
  .refine#[_,U,_,U,_,_,U,U,_,U,?_];refine m4 (λh1=>?_) (λh1=>?_)
   .refine#[_,U,_,_,U,U,?_];have e:inside a b c=Iv #[#v[c]] b:=if_pos h1;rw[e] at q;exact q
   .have e:inside a b c=false:=if_neg h1;rw[e] at q;exact q
  .refine#[D,z.cps.toList.map (inside a b),U,?_,k _ (dS.upd hD)];rw[YF];exact cn.of au
def RE(g:Str->Bool):Sp:=λvs H Q _=>∃ z:Str,vs=[.str z]/\z.length<=1000/\∀ H',dS H H'->Q (.bl (g z)) H'
theorem Hn{f fL tw:Addr}{fd HE:FuncData}(F:vk K "is_name" "is_name" nK f fd)(T:Txt K mg)(G:TK K mg tw)(FL:vk K "lies_between" "lies_between" dU fL HE)(mL:mg "lies_between"=some (.ref fL))(bL:Binds K HE ["text","first","last"] []) :
  bV P w K mg base aD 2 f fd ["text"] (RE BO):=by
 have GL:bV P w K mg base aD 1 fL HE ["text","first","last"] y9:=zq FL T;let(tk,hlong):=G.longest;refine F.ok ym (λvs H Q E h=>?_) (λa9 A outer s H vs Q E hr h=>?_)
 .let(z,rfl,_):=h
  rfl
 .let(z,rfl,hz,k):=h;refine#[_,aJ (k9 (yC (wM zw zw aR (dm fB U T.len Zj (az (pv 0) aK)) (mw (v:=.int 8) U hlong #[_,U]))) (aX (eP DC)) lR)
   (aX (eP (yP (cK GL hr U mL FL.kp bL .nil fW (az (pv 0) (az b8 (az b8 aK)))) (uY (iV m7 (pv 0) (mw (v:=.ref tw) U G.taken U) U))))),?_]
  have hzl:z.length<=sizeLine:=Yw hz (by decide);refine#[_,U,z,U,hzl,_,_,U,U,_,U,?_];refine m4 (λh1=>?_) (λh1=>?_)
  .refine#[_,_,U,U,_,U,?_];refine m4 (λh2=>?_) (λh2=>?_)
   .have e:BO z=false:=by
     unfold BO;rw[if_neg];intro hh;rw[decide_eq_true (by cbv)] at h2;exact absurd h2 (by decide)
    have q:=k H (dS.refl _);rw[e] at q;exact q
   .refine#[_,U,z,_,_,U,hz,λH' s'=>#[_,U,?_]];have h1':1<=z.length:=by have:=of_decide_eq_true h1;cbv
    have h2':z.length<=8:=by
     have h2:¬ (!decide ((z.length:Int)<=8))=true:=h2;simp at h2;cbv
    have e:BO z=(lies "a" "z" z&&!lz (.str z) (taken.map V.str)):=by
     unfold BO;rw[if_pos #[h1',h2']]
    have q:=k H' s';rw[e] at q;refine m4 (λhl=>?_) (λhl=>?_)
    .refine#[_,U,tw,_,U,.inr (G.tup H'),U,U,?_];rw[hl,aah] at q;exact q
    .have hl':lies "a" "z" z=false:=by simpa using hl
     rw[hl',Bool.false_and] at q;exact q
  .refine#[_,U,?_];refine mF ?_;have e:BO z=false:=by
    unfold BO;rw[if_neg];intro hh;exact h1 (decide_eq_true (by cbv))
   have q:=k H (dS.refl _);rw[e] at q;exact q
theorem Bt{f fL tw:Addr}{fd HE:FuncData}(F:vk K "is_number" "is_number" jk f fd)(T:Txt K mg)(G:TK K mg tw)(FL:vk K "lies_between" "lies_between" dU fL HE)(mL:mg "lies_between"=some (.ref fL))(bL:Binds K HE ["text","first","last"] []) :
  bV P w K mg base aD 2 f fd ["text"] (RE isNum):=by
 have GL:bV P w K mg base aD 1 fL HE ["text","first","last"] y9:=zq FL T;let(tk,hmost):=G.most;refine F.ok uS (λvs H Q E h=>?_) (λa9 A outer s H vs Q E hr h=>?_)
 .let(z,rfl,_):=h
  rfl
 .let(z,rfl,hz,k):=h;refine#[_,aJ (k9 (yC (wM zw zw aR (dm fB U T.len Zj (az (pv 0) aK)) (mw (v:=.int 6) U hmost #[_,U]))) (aX (eP DC)) lR)
   (aX (eP (yP (cK GL hr U mL FL.kp bL .nil fW (az (pv 0) (az b8 (az b8 aK)))) (uY (Ij (iV aM (pv 0) b8 (ax _)) (uY (iV wW (dO vy (pv 0) aR (λ_ _=>rfl)) b8 (ax _)))))))),?_]
  have hzl:z.length<=sizeLine:=Yw hz (by decide);refine#[_,U,z,U,hzl,_,_,U,U,_,U,?_];refine m4 (λh1=>?_) (λh1=>?_)
  .refine#[_,_,U,U,_,U,?_];refine m4 (λh2=>?_) (λh2=>?_)
   .have e:isNum z=false:=by
     unfold isNum;rw[if_neg];intro hh;rw[decide_eq_true (by cbv)] at h2;exact absurd h2 (by decide)
    have q:=k H (dS.refl _);rw[e] at q;exact q
   .refine#[_,U,z,_,_,U,hz,λH' s'=>#[_,U,?_]];have h1':1<=z.length:=by have:=of_decide_eq_true h1;cbv
    have h2':z.length<=6:=by
     have h2:¬ (!decide ((z.length:Int)<=6))=true:=h2;simp at h2;cbv
    have e:isNum z=(lies "0" "9" z&&(decide (z="0")||!decide ((#[#v[z.cps.toList.headD 0]]:Str)="0"))):=by
     unfold isNum;rw[if_pos #[h1',h2']]
    have q:=k H' s';rw[e] at q;refine m4 (λhl=>?_) (λhl=>?_)
    .rw[hl,aah] at q;refine#[_,U,U,_,U,?_];have hv:decide (V.str z=V.str "0")=decide (z="0"):=by
      by_cases hh:z="0"
      .rw[hh];simp
      .rw[decide_eq_false hh,decide_eq_false λz'=>hh (V.str.inj z')]
     refine m4 (λh0=>?_) (λh0=>?_)
     .rw[hv] at h0;rw[h0,Bool.true_or] at q;exact q
     .rw[hv] at h0;rw[show decide (z="0")=false by simpa using h0,Bool.false_or] at q;obtain⟨ch,r,ez⟩:∃ ch r,z.cps.toList=ch::r:=by
       cases hc:z.cps.toList with
       | nil =>
        have:z.length=0:=by rw[<- eN];show z.cps.toList.length=0;rw[hc];rfl
        cbv
       | cons a b=>exact#[a,b,U]
      refine#[_,U,z,0,ch,U,U,hzl,by rw[ez];exact bU,U,?_];rw[ez] at q;have hv2:decide (V.str #[#v[ch]]=V.str "0")=decide ((#[#v[ch]]:Str)="0"):=by
       by_cases hh:(#[#v[ch]]:Str)="0"
       .rw[hh];simp
       .rw[decide_eq_false hh,decide_eq_false λz'=>hh (V.str.inj z')]
      rw[hv2];exact q
    .have hl':lies "0" "9" z=false:=by simpa using hl
     rw[hl',Bool.false_and] at q;exact q
  .refine#[_,U,?_];refine mF ?_;have e:isNum z=false:=by
    unfold isNum;rw[if_neg];intro hh;exact h1 (decide_eq_true (by cbv))
   have q:=k H (dS.refl _);rw[e] at q;exact q
def LJ(g:Str->Bool):aav:=λds R=>∃ z:Str,ds=[.str z]/\z.length<=1000/\R (.bl (g z))
theorem HQ{k:Nat}{f:Addr}{fd:FuncData}{ps:List Str}{g:Str->Bool}(F:bV P w K mg base aD k f fd ps (RE g)):bV P w K mg base aD k f fd ps (aO K .no (LJ g)) :=
 F.imp λvs H Q E z3r=>by
  let(M,ds,R,B,r,(z,e,hz,q),kk):=z3r;subst e;let(v,rfl,e1):=cH r;have e1:v=.str z:=e1;subst e1;refine#[z,U,hz,λH' sm=>kk _ q M H' _ #[trivial,λb o e _=>sm b o e,λb m=>?_,λ_ _ h=>h,λ_ m=>m,λ_ m=>.inl m] rfl];let(o,e):=B.md b m;exact#[o,sm b o e]
theorem Pk{c:Nat}(h1:97<=c)(h2:c<=122):inside "a" "z" c=true:=by
 have e1:Iv "a" #[#v[c]]=true:=by
  show (!decide (([c]:List Nat) < [97]))=true;rw[decide_eq_false (show ¬ (([c]:List Nat) < [97]) from λh=>by have:=(Np c 97).mp h;cbv)]
  rfl
 have e2:Iv #[#v[c]] "z"=true:=by
  show (!decide (([122]:List Nat) < [c]))=true;rw[decide_eq_false (show ¬ (([122]:List Nat) < [c]) from λh=>by have:=(Np 122 c).mp h;cbv)]
  rfl
 unfold inside;rw[if_pos e1,e2]
theorem Nw{c:Nat}(h1:48<=c)(h2:c<=57):inside "0" "9" c=true:=by
 have e1:Iv "0" #[#v[c]]=true:=by
  show (!decide (([c]:List Nat) < [48]))=true;rw[decide_eq_false (show ¬ (([c]:List Nat) < [48]) from λh=>by have:=(Np c 48).mp h;cbv)]
  rfl
 have e2:Iv #[#v[c]] "9"=true:=by
  show (!decide (([57]:List Nat) < [c]))=true;rw[decide_eq_false (show ¬ (([57]:List Nat) < [c]) from λh=>by have:=(Np 57 c).mp h;cbv)]
  rfl
 unfold inside;rw[if_pos e1,e2]
theorem Ki{c:Nat}(h1:58<=c):inside "0" "9" c=false:=by
 have e2:Iv #[#v[c]] "9"=false:=by
  show (!decide (([57]:List Nat) < [c]))=false;rw[decide_eq_true (show (([57]:List Nat) < [c]) from (Np 57 c).mpr (by cbv))]
  rfl
 unfold inside;split
 .exact e2
 .rfl
theorem xo{a b z:Str}(h:∀ c∈z.cps.toList,inside a b c=true):lies a b z=true:=by
 unfold lies;rw[List.all_map];exact Y2.mpr λc hc=>h c hc
theorem Er{x:Str}(h:Nm x):BO x=true:=by
 unfold BO;rw[if_pos #[h.2.1,h.2.2.1],xo λc hc=>Pk (h.1 c hc).1 (h.1 c hc).2,fw];have:x∉taken:=λz=>by
  have e:taken=tJ++rB:=rfl;rw[e] at z;exact (Yz.mp z).elim h.2.2.2.1 h.2.2.2.2
 rw[decide_eq_false this]
 rfl
theorem Cy{x:Str}(h:Nm x):isNum x=false:=by
 unfold isNum;split
 .have hl:lies "0" "9" x=false:=by
   unfold lies;obtain⟨c,r,e⟩:∃ c r,x.cps.toList=c::r:=by
    cases hc:x.cps.toList with
    | nil =>
     have:x.length=0:=by rw[<- eN];show x.cps.toList.length=0;rw[hc];rfl
     have:=h.2.1;cbv
    | cons a b=>exact#[a,b,U]
   have:=h.1 c (by rw[e];exact Ym);rw[e,Yp,Ki (by cbv)]
   rfl
  rw[hl]
  rfl
 .rfl
theorem Gd(n:Nat):cd (eL (n:Int))=(Nat.toDigits 10 n).map Char.toNat:=aap n
theorem lead:∀ (m n:Nat),n<=m->0 < n->∃ c r,Nat.toDigits 10 n=c::r/\c≠'0'
 | 0,n,h,h0=>by cbv
 | m+1,n,h,h0=>by
  by_cases hn:n < 10
  .refine#[_,[],Nat.toDigits_of_lt_base hn,?_];have:n=1\/n=2\/n=3\/n=4\/n=5\/n=6\/n=7\/n=8\/n=9:=by cbv
   rcases this with rfl | rfl | rfl | rfl | rfl | rfl | rfl | rfl | rfl<;>decide
  .let(c,r,e,hc):=lead m (n / 10) (by cbv) (by cbv);refine#[c,r++[(n % 10).digitChar],?_,hc];rw[Nat.toDigits_of_base_le (by decide) (by cbv),e]
   rfl
theorem tP{i:Int}(h0:0<=i)(h1:i < 1000000):isNum (eL i)=true:=by
 let(n,rfl):=ZE h0;have hn:n < 10 ^ 6:=by cbv
 have HJ:=PySem.toDigits_len_ge 10 n;have HK:=PySem.toDigits_len_pow (b:=10) (k:=6) (n:=n) (by decide) (by decide) hn;have hlen:(eL (n:Int)).length=(Nat.toDigits 10 n).length:=by rw[<- eN,Gd,Yk]
 have hdg:∀ c∈(eL (n:Int)).cps.toList,48<=c/\c<=57:=λc hc=>by
  have hc:c∈cd (eL (n:Int)):=hc;rw[Gd] at hc;let(ch,hm,rfl):=YB.mp hc;have:=Zt (by decide) (by decide) hm;unfold Char.isDigit at this;simp only[Bool.and_eq_true,decide_eq_true_eq] at this;exact#[this.1,this.2]
 unfold isNum;rw[if_pos #[by cbv,by cbv],xo λc hc=>Nw (hdg c hc).1 (hdg c hc).2,aah];by_cases hz:n=0
 .subst hz;rw[show eL ((0:Nat):Int)="0" by decide+kernel];decide+kernel
 .let(c,r,e,hc):=lead n n (Ys _) (by cbv);have e2:(eL (n:Int)).cps.toList=c.toNat::r.map Char.toNat:=by
   show cd (eL (n:Int))=_;rw[Gd,e]
   rfl
  rw[e2,Zw];have i6:(#[#v[c.toNat]]:Str)≠"0":=λz=>by
   have z2:cd (#[#v[c.toNat]]:Str)=cd "0":=congrArg cd z;have z3:c.toNat=48:=by
    have:[c.toNat]=[48]:=z2;injection this
   exact hc (Char.ext (UInt32.toNat_inj.mp z3))
  rw[decide_eq_false i6];simp
def vT:aav:=λds R=>ds=[.bl true]/\R .cw
theorem MP(F:Own K mg cR)(T:Txt K mg):aa1 P w K mg base cR 1 vT:=by
 refine F.d (nos:=0) FO (λds R h=>?_) λf a9 A outer s H E M hr=>#[_,(ai (bK (lF (b7 (vd 0)))
 vZ
 aL)),λds R h=>?_]
 .let(rfl,_):=h
  rfl
 .let(rfl,q):=h;refine#[_,U,_,U,?_];exact cq U q
def FD:aav:=λds R=>∃ x:Str,ds=[.str x]/\Nm x/\R (.str x)
theorem Qi(kq:aa1 P w K mg base cR 1 vT)(RO:aa1 P w K mg base ky 2 (LJ BO))(F:Own K mg cQ)(T:Txt K mg):aa1 P w K mg base cQ 3 FD:=by
 refine F.d (nos:=0) za (λds R h=>?_) λf a9 A outer s H E M hr=>#[_,(af (bC (aj hr kq (aa (jL (a8 bo eA U T.sx PyProof.Rows.boot_isinstance (aa (vd 0) (aa (dc (d:=.ty "str") (bM (v:=.ty "str") U T.str (by decide+kernel) U) U) ae))) (i9 (aj hr RO (aa (vd 0) ae)))) ae)))
 (ai (aP (vd 0)))),λds R h=>?_]
 .let(x,rfl,_):=h
  rfl
 .let(x,rfl,hx,q):=h;have hl:=bJ hx;refine#[_,U,_,_,true,U,U,_,U,?_];refine gn U ?_;refine#[_,U,x,U,by cbv,?_];rw[Er hx];exact#[U,_,U,q]
def W2:aav:=λds R=>∃ x:Str,ds=[.str x]/\rY x/\R (.bl true)
theorem OX(RO:aa1 P w K mg base ky 2 (LJ BO))(F:Own K mg kz)(T:Txt K mg):aa1 P w K mg base kz 3 W2:=by
 refine F.d (nos:=0) yo (λds R h=>?_) λf a9 A outer s H E M hr=>#[_,(ai (aP (ND (bW aM bx (vd 0) ak (ax _)) (i9 (aj hr RO (aa (vd 0) ae)))))),λds R h=>?_]
 .let(x,rfl,_):=h
  rfl
 .let(x,rfl,hx,q):=h;refine#[_,U,#[U,U,U],_,U,?_];refine cx U (λ_=>q) λi6=>?_;rcases hx with hx | rfl
  .have hl:=bJ hx;refine#[_,U,x,U,by cbv,?_];rw[Er hx];exact q
  .exact absurd U (of_decide_eq_false i6)
def Oi:aav:=λds R=>∃ x:Str,ds=[.str x]/\rY x/\R (.str x)
theorem PD(kq:aa1 P w K mg base cR 1 vT)(Xq:aa1 P w K mg base kz 3 W2)(F:Own K mg fJ)(T:Txt K mg):aa1 P w K mg base fJ 4 Oi:=by
 refine F.d (nos:=0) zo (λds R h=>?_) λf a9 A outer s H E M hr=>#[_,(af (bC (aj hr kq (aa (jL (a8 bo eA U T.sx PyProof.Rows.boot_isinstance (aa (vd 0) (aa (dc (d:=.ty "str") (bM (v:=.ty "str") U T.str (by decide+kernel) U) U) ae))) (i9 (aj hr Xq (aa (vd 0) ae)))) ae)))
 (ai (aP (vd 0)))),λds R h=>?_]
 .let(x,rfl,_):=h
  rfl
 .let(x,rfl,hx,q):=h;refine#[_,U,_,_,true,U,U,_,U,?_];refine gn U ?_;exact#[_,U,x,U,hx,U,_,U,q]
def LG:aav:=λds R=>∃ t:Tm,ds=[lN t]/\t.gt/\R (toD t)
theorem Hg(u:Tm):xn (toD u) "tuple"=some true:=by
 cases u with
 | node f ks =>
  show xn (Dl f (toDs ks)) "tuple"=_;cases f<;>rfl
theorem O0(XO:aa1 P w K mg base j3 2 (LJ isNum))(xY:aa1 P w K mg base cQ 3 FD)(F:Own K mg eS)(T:Txt K mg):aa1 P w K mg base eS 4 LG:=by
 refine F.d (nos:=0) yu (λds R h=>?_) λf a9 A outer s H E M hr=>#[_,(af (bK (b7 (a8 bo eA U T.sx PyProof.Rows.boot_isinstance (aa (vd 0) (aa (dc (d:=.ty "tuple") (bM (v:=.ty "tuple") U T.tuple (by decide+kernel) U) U) ae))))
 (ai (aP (vd 0)))
 aL)
 (af (bK (b7 (aj hr XO (aa (vd 0) ae)))
 (ai (aP (aW (aa ak (aa (er Bw Jx U T.int (by decide+kernel) (aa (vd 0) ae)) ae)))))
 aL)
 (ai (aP (aW (aa ak (aa (aj hr xY (aa (vd 0) ae)) ae))))))),λds R h=>?_]
 .let(x,rfl,_):=h
  rfl
 .let((f,ks),rfl,(aN,hg),q):=h;by_cases hw:f.w=1
  .rw[uE hw];refine#[_,U,_,_,true,U,Hg _,_,U,?_];refine gn U ?_;exact#[_,U,q]
  .cases f with
   | nm x =>
    cases QA aN.2;have hl:=bJ aN.1;refine#[_,U,_,_,false,U,U,_,U,?_];refine cq U ?_;refine#[_,U,x,U,by cbv,_,U,?_];refine cq (Cy aN.1) ?_;exact#[_,U,x,U,aN.1,q]
   | num i =>
    cases QA aN.2;have hl:=jK aN.1.1 aN.1.2;refine#[_,U,_,_,false,U,U,_,U,?_];refine cq U ?_;refine#[_,U,eL i,U,by cbv,_,U,?_];refine gn (tP aN.1.1 aN.1.2) ?_;exact#[_,U,i,U,aN.1.1,Int.lt_trans aN.1.2 (by decide),q]
   | _=>exact absurd U hw
def LK:aav:=λds R=>∃ ts:List Tm,ds=[.lst (ts.map lN)]/\kI ts/\R (.tup (ts.map toD))
theorem MT(FT:aa1 P w K mg base eS 4 LG)(F:Own K mg dX)(T:Txt K mg):aa1 P w K mg base dX 5 LK:=by
 refine F.d (nos:=0) xv (λds R h=>?_) λf a9 A outer s H E M hr=>#[_,(ai (aP (ia T.tuple (aa (DN.de (nC ["item"] [] (bf (vd 0)) (λ_ _ _ _=>(gM 0 ["item"])) (λ_ _ _ _=>bh)
 (λ_ _ _ _=>(aj hr FT (aa (vd 0) ae))))) ae)))),λds R h=>?_]
 .let(x,rfl,_):=h
  rfl
 .let(ts,rfl,hg,q):=h;refine#[_,U,_,.inl U,?_];refine aB lN toD _ (λt ht k hk=>#[_,U,t,U,dB hg t ht,hk _ U]) ?_;exact#[_,.inl U,q]
theorem GP(a:List D)(x y:D):iz (a++[x,y]) (-2)=some x:=by
 unfold iz xZ;have hl:(a++[x,y]).length=a.length+2:=by simp
 rw[if_neg (by decide),if_pos (by rw[hl];cbv),hl];show (a++[x,y])[(-2+((a.length+2:Nat):Int)).toNat]?=_;rw[show (-2+((a.length+2:Nat):Int)).toNat=a.length by cbv];simp
theorem CG(a:List D)(x y:D):cutD (a++[x,y]) none (some (-2))=a:=by
 have:=qe (f:=id) (xs:=a++[x,y]) (lo:=none) (hi:=some (-2));rw[aae] at this;rw[this];have hl:(a++[x,y]).length=a.length+2:=by simp
 have e1:HT.cz (a++[x,y]).length 0 none=0:=rfl;have e2:HT.cz (a++[x,y]).length (a++[x,y]).length (some (-2))=a.length:=by
  rw[hl];unfold HT.cz;simp only[]
  repeat' split
  all_goals cbv
 rw[e1,e2,ZA,Z3,aae,List.take_left]
theorem S5(x y:D)(l:List D):cutD (x::y::l) (some 2) none=l:=by
 have:=qe (f:=id) (xs:=x::y::l) (lo:=some 2) (hi:=none);rw[aae] at this;rw[this];have e1:HT.cz (x::y::l).length 0 (some 2)=2:=by
  unfold HT.cz;simp only[List.length_cons]
  repeat' split
  all_goals cbv
 have e2:HT.cz (x::y::l).length (x::y::l).length none=(x::y::l).length:=rfl;rw[e1,e2,aae];show l.take (l.length+1+1 - 2)=l;rw[show l.length+1+1 - 2=l.length by cbv,ZP]
def ik(h:Str×List Str)(k:Tm):List D:=(h.1::h.2).map .str++[.str ":",lN k]
def VS:aav:=λds R=>∃ (h:Str×List Str) (k:Tm),ds=[.lst (ik h k)]/\(Nm h.1/\h.2.length<=3/\∀ n∈h.2,Nm n)/\k.gt/\R (oA h (toD k))
theorem Pj(kq:aa1 P w K mg base cR 1 vT)(xY:aa1 P w K mg base cQ 3 FD)(FT:aa1 P w K mg base eS 4 LG)(F:Own K mg eX)(T:Txt K mg):aa1 P w K mg base eX 5 VS:=by
 refine F.d (nos:=0) jc (λds R h=>?_) λf a9 A outer s H E M hr=>#[_,(af (bC (aj hr kq (aa (jL (bW so mE (fO T.len (aa (vd 0) ae)) ah (ax _)) (i9 (bW aM bx (ic (vd 0) (dc (d:=.int (-2)) pO U)) ak (ax _)))) ae)))
 (af (lg (ux (nZ (i:=1) jc.nd U U (ts:=["item"]) (us:=[]) #[U,U,U,U,U,U] rfl (bf (DN.de (cm (vd 0) bD (bA (dc (d:=.int (-2)) pO U))))) (λ_ _ _ _=>(gM 0 ["item"])) (λ_ _ _ _=>bh)
 (λ_ _ _ _=>(aj hr xY (aa (vd 0) ae))))))
 (ai (aP (aW (aa (ic (vd 1) ah) (aa (ia T.tuple (aa (DN.de (cm (vd 1) (bA ah) bD)) ae)) (aa (aj hr FT (aa (ic (vd 0) (dc (d:=.int (-1)) b6 U)) ae)) ae)))))))),λds R h=>?_]
 .let(h,k,rfl,_):=h
  rfl
 .let(h,k,rfl,(h1,h2,h3),hk,q):=h;have hlen:(ik h k).length=h.2.length+3:=by simp[ik]
  refine#[_,U,_,.inl U,_,_,U,U,_,U,?_];refine gn (decide_eq_true (by rw[hlen];cbv)) ?_;refine#[_,U,_,_,_,U,U,GP _ _ _,#[U,U,U],?_];refine#[U,?_];refine#[_,U,_,U,_,U,?_];rw[show cutD (ik h k) none (some (-2))=(h.1::h.2).map D.str from CG _ _ _];refine#[_,.inl U,?_];refine aB D.str D.str _ (λx hx kk hkk=>#[_,U,x,U,?_,hkk _ U]) ?_
  .rcases Yn.mp hx with rfl | hx
   .exact h1
   .exact h3 x hx
  rw[YE];refine#[_,U,_,_,_,U,U,bU,?_];refine#[_,U,_,U,_,U,?_];rw[show cutD ((h.1::h.2).map D.str) (some 1) none=h.2.map D.str from fI];refine#[_,.inl U,?_];refine#[_,U,_,_,_,U,U,?_,k,U,hk,q];show iz (ik h k) (-1)=_;rw[show ik h k=((h.1::h.2).map D.str++[.str ":"])++[lN k] by simp[ik]];exact ft _ _
def T2:aav:=λds R=>∃ (hs:List (Str×List Str)) (ks:List Tm),ds=[.lst ((hs.zip ks).map λp=>.lst (ik p.1 p.2))]/\(n6 hs/\kI ks/\ks.length=hs.length)/\R (.tup (aY hs (ks.map toD)))
theorem xb:∀ (hs:List (Str×List Str)) (ks:List Tm),aY hs (ks.map toD)=(hs.zip ks).map λp=>oA p.1 (toD p.2)
 | [],ks=>by cases ks<;>rfl
 | _::_,[]=>rfl
 | h::hs,k::ks=>by
  rw[Yp,aY,xb hs ks]
  rfl
theorem MB(W4:aa1 P w K mg base eX 5 VS)(F:Own K mg dg)(T:Txt K mg):aa1 P w K mg base dg 6 T2:=by
 refine F.d (nos:=0) nQ (λds R h=>?_) λf a9 A outer s H E M hr=>#[_,(ai (aP (ia T.tuple (aa (DN.de (nC ["group"] [] (bf (vd 0)) (λ_ _ _ _=>(gM 0 ["group"])) (λ_ _ _ _=>bh)
 (λ_ _ _ _=>(aj hr W4 (aa (vd 0) ae))))) ae)))),λds R h=>?_]
 .let(hs,ks,rfl,_):=h
  rfl
 .let(hs,ks,rfl,(hh,hg,hl),q):=h;refine#[_,U,_,.inl U,?_];refine aB (λp:(Str×List Str)×Tm=>D.lst (ik p.1 p.2)) (λp=>oA p.1 (toD p.2)) _ (λp hp kk hkk=>?_) ?_
  .exact#[_,U,p.1,p.2,U,hh.2 p.1 (Zb (a:=p.1) (b:=p.2) hp).1,dB hg p.2 (Zb (a:=p.1) (b:=p.2) hp).2,hkk _ U]
  rw[YE,<- xb];exact#[_,.inl U,q]
def Q0:aav:=λds R=>∃ (s:Str) (ks:List Tm),ds=[.str (cO (.op s)),.lst (fG (.op s) ks)]/\(dY (.op s) ks.length/\kI ks)/\R (toD (.node (.op s) ks))
theorem PC(kq:aa1 P w K mg base cR 1 vT)(G3:aa1 P w K mg base dX 5 LK)(F:Own K mg uL)(T:Txt K mg):aa1 P w K mg base uL 6 Q0:=by
 refine F.d (nos:=0) E8 (λds R h=>?_) λf a9 A outer s H E M hr=>#[_,(af (bC (aj hr kq (aa (bW aM bx (fO T.len (aa (vd 1) ae)) ah (ax _)) ae)))
 (ai (aP (bb p9 vb (aW (aa ak (aa (vd 0) ae))) (aj hr G3 (aa (vd 1) ae)))))),λds R h=>?_]
 .let(s,ks,rfl,_):=h
  rfl
 .let(s,ks,rfl,(aN,hg),q):=h;have hsz:=aC;rw[bS] at q;let(a,b,rfl):=ln2 aN.2;refine#[_,U,_,.inl U,#[U,U,U],U,?_];exact#[_,U,_,U,[a,b],U,hg,_,_,U,U,by show 2+2<=_;cbv,q]
def Q8:aav:=λds R=>∃ ks:List Tm,ds=[.str (cO .iR),.lst (fG .iR ks)]/\(dY .iR ks.length/\kI ks)/\R (toD (.node .iR ks))
theorem Mn(kq:aa1 P w K mg base cR 1 vT)(G3:aa1 P w K mg base dX 5 LK)(F:Own K mg og)(T:Txt K mg):aa1 P w K mg base og 6 Q8:=by
 refine F.d (nos:=0) yF (λds R h=>?_) λf a9 A outer s H E M hr=>#[_,(af (bC (aj hr kq (aa (bW aM bx (fO T.len (aa (vd 1) ae)) ah (ax _)) ae)))
 (ai (aP (bb p9 vb (aW (aa (vd 0) ae)) (aj hr G3 (aa (vd 1) ae)))))),λds R h=>?_]
 .let(ks,rfl,_):=h
  rfl
 .let(ks,rfl,(aN,hg),q):=h;have hsz:=aC;rw[bS] at q;let(a,b,c,rfl):=Qv aN;refine#[_,U,_,.inl U,#[U,U,U],U,?_];exact#[_,U,_,U,[a,b,c],U,hg,_,_,U,U,by show 1+3<=_;cbv,q]
def QE:aav:=λds R=>∃ (x:Str) (ks:List Tm),ds=[.str (cO (.lt x)),.lst (fG (.lt x) ks)]/\(dY (.lt x) ks.length/\kI ks)/\R (toD (.node (.lt x) ks))
theorem Pp(kq:aa1 P w K mg base cR 1 vT)(xY:aa1 P w K mg base cQ 3 FD)(G3:aa1 P w K mg base dX 5 LK)(F:Own K mg qr)(T:Txt K mg):aa1 P w K mg base qr 6 QE:=by
 refine F.d (nos:=0) BA (λds R h=>?_) λf a9 A outer s H E M hr=>#[_,(af (bC (aj hr kq (aa (bW aM bx (fO T.len (aa (vd 1) ae)) ah (ax _)) ae)))
 (ai (aP (bb p9 vb (aW (aa (vd 0) (aa (aj hr xY (aa (ic (vd 1) ah) ae)) ae))) (aj hr G3 (aa (DN.de (cm (vd 1) (bA ah) bD)) ae)))))),λds R h=>?_]
 .let(x,ks,rfl,_):=h
  rfl
 .let(x,ks,rfl,(aN,hg),q):=h;have hsz:=aC;rw[bS] at q;let(a,b,rfl):=ln2 aN.2;refine#[_,U,_,.inl U,#[U,U,U],U,?_];exact#[_,U,_,U,_,_,_,U,U,U,x,U,aN.1,_,U,_,U,_,U,[a,b],U,hg,_,_,U,U,by show 2+2<=_;cbv,q]
def Rc:aav:=λds R=>∃ (x:Str) (ks:List Tm),ds=[.str (cO (.mk x)),.lst (fG (.mk x) ks)]/\(dY (.mk x) ks.length/\kI ks)/\R (toD (.node (.mk x) ks))
theorem Qg(kq:aa1 P w K mg base cR 1 vT)(xY:aa1 P w K mg base cQ 3 FD)(G3:aa1 P w K mg base dX 5 LK)(F:Own K mg om)(T:Txt K mg):aa1 P w K mg base om 6 Rc:=by
 refine F.d (nos:=0) yD (λds R h=>?_) λf a9 A outer s H E M hr=>#[_,(af (bC (aj hr kq (aa (bW so mE (fO T.len (aa (vd 1) ae)) ah (ax _)) ae)))
 (ai (aP (aW (aa (vd 0) (aa (aj hr xY (aa (ic (vd 1) ah) ae)) (aa (aj hr G3 (aa (DN.de (cm (vd 1) (bA ah) bD)) ae)) ae))))))),λds R h=>?_]
 .let(x,ks,rfl,_):=h
  rfl
 .let(x,ks,rfl,(aN,hg),q):=h;have hsz:=aC;rw[bS] at q;refine#[_,U,_,.inl U,_,_,U,U,?_];refine#[congrArg (λb=>[D.bl b]) (decide_eq_true (by show (1:Int)<=(((ks.map lN).length+1:Nat):Int);cbv)),?_];refine#[_,U,_,U,_,_,_,U,U,bU,x,U,aN.1,_,U,_,U,_,U,?_];rw[show cutD (fG (.mk x) ks) (some 1) none=ks.map lN from fI];exact#[ks,U,hg,q]
def Qy:aav:=λds R=>∃ (x:Str) (ks:List Tm),ds=[.str (cO (.ask x)),.lst (fG (.ask x) ks)]/\(dY (.ask x) ks.length/\kI ks)/\R (toD (.node (.ask x) ks))
theorem OA(kq:aa1 P w K mg base cR 1 vT)(xY:aa1 P w K mg base cQ 3 FD)(FT:aa1 P w K mg base eS 4 LG)(G3:aa1 P w K mg base dX 5 LK)(F:Own K mg qJ)(T:Txt K mg):aa1 P w K mg base qJ 6 Qy:=by
 refine F.d (nos:=0) BF (λds R h=>?_) λf a9 A outer s H E M hr=>#[_,(af (bC (aj hr kq (aa (bW so mE (fO T.len (aa (vd 1) ae)) ah (ax _)) ae)))
 (ai (aP (aW (aa (vd 0) (aa (aj hr FT (aa (ic (vd 1) ah) ae)) (aa (aj hr xY (aa (ic (vd 1) ah) ae)) (aa (aj hr G3 (aa (DN.de (cm (vd 1) (bA ah) bD)) ae)) ae)))))))),λds R h=>?_]
 .let(x,ks,rfl,_):=h
  rfl
 .let(x,ks,rfl,(aN,hg),q):=h;have hsz:=aC;rw[bS] at q;let(a,r,rfl):=Fe aN.2.1;refine#[_,U,_,.inl U,_,_,U,U,?_];refine#[congrArg (λb=>[D.bl b]) (decide_eq_true (by show (2:Int)<=(((r.map lN).length+1+1:Nat):Int);cbv)),?_];refine#[_,U,_,U,_,_,_,U,U,bU,a,U,hg.1,_,U,_,_,_,U,U,Kj,x,U,aN.1,_,U,_,U,_,U,?_];rw[show cutD (fG (.ask x) (a::r)) (some 2) none=r.map lN from S5 _ _ _];exact#[r,U,hg.2,q]
structure uG(K:Frag)(x qual:Str)(st:Stmt)(f:Addr)(fd:FuncData)(z:Str)(tk:Tok):Prop where
 ex:∃ (oc:Value) (od:Option Addr) (kV doc pm:Value) (an:Option Addr) (a9 ct:Value) (xU:Array (Option Value)) (td:Addr) (o:Obj) (n:Nat),
  fd=fnOf x qual (cD st) (aS st) (ag st) (.ref td) kV doc pm an a9 ct/\K.lookup f=some #[oc,od,.func fd,xU]/\codeIn K a9 qual=true/\K.lookup td=some o/\o.data=.seq #v[.str z tk] n
 kp:keepIn K (.ref f)=true
theorem uG.ok{x qual:Str}{st:Stmt}{f:Addr}{fd:FuncData}{z:Str}{tk:Tok}{N ps:List Str}{k:Nat}{sp:Sp}(F:uG K x qual st f fd z tk)(S:ao N ps (ag st))(len:∀ vs H Q E,sp vs H Q E->vs.length=ps.length)(xc:∀ (a9:Value) (A:Around) (outer:List Env) (s:Shared) (H:Hp) (vs:List V) (Q:VK) (E:XK),cU k (A.deeper (PyProof.Rows.envOfC qual (ag st) ↑s f a9))->sp vs H Q E ->
   ∃ t,rg (m9 aD P w K mg base N qual (ag st) f a9 A outer s H E).Ai (aS st) t/\t { nx:=λ_ H'=>Q .cw H',rt:=Q } (start N vs) H):bV P w K mg base aD (k+1) f fd ps sp:=by
 let(oc,od,kV,doc,pm,an,a9,ct,xU,td,o,n,rfl,lk,qT,_):=F.ex;refine HZ lk qT S len λA outer s H vs Q E hr BG=>?_;let(t,h,q):=xc a9 A outer s H vs Q E hr BG;exact#[t,h.Ai,q]
theorem uG.binds{f:Addr}{fd:FuncData}{tk:Tok}(F:uG K "parted" "parted" eu f fd "|" tk):Binds K fd ["items","sign"] [.str "|" tk]:=by
 let(oc,od,kV,doc,pm,an,a9,ct,xU,td,o,n,rfl,lk,qT,lt,ho):=F.ex;intro s us KX hl;cases us with
 | nil=>simp at hl
 | cons u us =>
  cases us with
  | nil=>exact .of_defaults (T:=td) U (KX _ _ lt) ho U U
  | cons v us=>simp at hl
def eqB(x:D):Bool:=Hz x (.str "|")
def dC(s:List (List D)×List D)(x:D):List (List D)×List D:=if eqB x=true then (s.1++[s.2],[]) else (s.1,s.2++[x])
def kW(xs:List D):List (List D):=let s:=xs.foldl dC ([],[]);s.1++[s.2]
def QO:aav:=λds R=>∃ xs:List D,ds=[.lst xs,.str "|"]/\(xs.length<=1000/\∀ x∈xs,k6 x=true)/\R (.lst ((kW xs).map .lst))
def LL(K:Frag)(H:Hp)(M:Addr->Prop):List Addr->List (List D)->Prop
 | [],[]=>True
 | b::bs,l::ls=>(∃ us,H b=some (.lst us)/\ay K H M l us)/\LL K H M bs ls
 | _,_=>False
theorem LL.mono{K:Frag}{H H':Hp}{M M':Addr->Prop}(hM:∀ b,M b->M' b)(hH:∀ b o,M b->H b=some o->H' b=some o):∀ {bs:List Addr} {ls:List (List D)},(∀ b∈bs,∀ o,H b=some o->H' b=some o)->LL K H M bs ls->LL K H' M' bs ls
 | [],[],_,_=>trivial
 | b::bs,l::ls,h,#[#[us,e,r],t]=>#[#[us,h b Ym _ e,ay.mono hM hH _ _ r],LL.mono hM hH (λc hc=>h c (Yo _ hc)) t]
 | [],_::_,_,h=>h.elim
 | _::_,[],_,h=>h.elim
theorem LL.snoc{K:Frag}{H:Hp}{M:Addr->Prop}:∀ {bs:List Addr} {ls:List (List D)} {b:Addr} {l:List D},LL K H M bs ls->(∃ us,H b=some (.lst us)/\ay K H M l us)->LL K H M (bs++[b]) (ls++[l])
 | [],[],b,l,_,h=>#[h,trivial]
 | c::bs,d::ls,b,l,#[h1,h2],h=>#[h1,LL.snoc h2 h]
 | [],_::_,_,_,h,_=>h.elim
 | _::_,[],_,_,h,_=>h.elim
theorem LL.there{K:Frag}{H:Hp}{M:Addr->Prop}:∀ {bs:List Addr} {ls:List (List D)},LL K H M bs ls->∀ b∈bs,∃ o,H b=some o
 | [],_,_,b,h=>(nomatch h)
 | b::bs,l::ls,#[#[us,e,_],t],c,h=>by
  rcases Yn.mp h with rfl | h
  .exact#[_,e]
  .exact LL.there t c h
 | _::_,[],h,_,_=>h.elim
theorem LL.lst{K:Frag}{H:Hp}{M:Addr->Prop}:∀ {bs:List Addr} {ls:List (List D)},LL K H M bs ls->∀ b∈bs,∃ us,H b=some (.lst us)
 | [],_,_,b,h=>(nomatch h)
 | b::bs,l::ls,#[#[us,e,_],t],c,h=>by
  rcases Yn.mp h with rfl | h
  .exact#[_,e]
  .exact LL.lst t c h
 | _::_,[],h,_,_=>h.elim
theorem zu{α:Type}{l:List α}{a:α}(h:l.Nodup)(n:a∉l):(l++[a]).Nodup:=List.nodup_append.mpr #[h,by simp,λx hx y hy z=>n (by rw[List.mem_singleton.mp hy] at z;exact z▸hx)]
theorem LL.len{K:Frag}{H:Hp}{M:Addr->Prop}:∀ {bs:List Addr} {ls:List (List D)},LL K H M bs ls->bs.length=ls.length
 | [],[],_=>rfl
 | _::_,_::_,#[_,h]=>congrArg (·+1) (LL.len h)
 | [],_::_,h=>h.elim
 | _::_,[],h=>h.elim
theorem LL.lK{K:Frag}{H:Hp}{M M':Addr->Prop}(hM:∀ b,M b->M' b):∀ {bs:List Addr} {ls:List (List D)},LL K H M bs ls->(∀ b∈bs,M' b)->ay K H M' (ls.map .lst) (bs.map V.ref)
 | [],[],_,_=>rfl
 | b::bs,l::ls,#[#[us,e,r],t],h=>#[_,_,U,#[b,us,U,#[h b Ym,e],ay.mono hM (λ_ _ _ e=>e) _ _ r],LL.lK hM t λc hc=>h c (Yo _ hc)]
 | [],_::_,h,_=>h.elim
 | _::_,[],h,_=>h.elim
theorem we:∀ (xs:List D) (s:List (List D)×List D),(xs.foldl dC s).1.length+(xs.foldl dC s).2.length<=s.1.length+s.2.length+xs.length
 | [],s=>by simp
 | x::xs,s=>by
  have h:=we xs (dC s x);have h2:(dC s x).1.length+(dC s x).2.length<=s.1.length+s.2.length+1:=by
   unfold dC;split
   .simp
   .simp;cbv
  rw[aas,Yv];cbv
structure X0(K:Frag)(M:Addr->Prop)(H:Hp)(xs:List D)(a g:Addr)(i:Nat)(O:St)(H':Hp)(bs:List Addr)(b:Addr)(v3:Option V):Prop where
 st:O=[some (.ref a),some (.str "|"),some (.ref g),v3]
 out:H' g=some (.lst ((bs++[b]).map V.ref))
 ll:LL K H' M bs ((xs.take i).foldl dC ([],[])).1
 cur:∃ us,H' b=some (.lst us)/\ay K H' M ((xs.take i).foldl dC ([],[])).2 us
 nd:(g::(bs++[b])).Nodup
 new:∀ c∈g::(bs++[b]),H c=none
 same:dS H H'
theorem NL{f:Addr}{fd:FuncData}{tk:Tok}(F:uG K "parted" "parted" eu f fd "|" tk)(T:Txt K mg):bV P w K mg base aD 1 f fd ["items","sign"] (aO K .no QO):=by
 refine F.ok nW (λvs H Q E h=>?_) (λa9 A outer s H vs Q E hr h=>?_)
 .let(M,ds,R,B,r,(xs,rfl,_),_):=h;rw[r.length]
  rfl
 .let(M,ds,R,B,r,(xs,rfl,(hl,aN),q),kk):=h;let(v1,v2,rfl,r1,r2):=tD r;cases (show v2=.str "|" from r2);let(a,us,rfl,(ma,ha),ru):=r1;refine#[_,(aJ (eg (i:=2) nW.nd U (Or.inl U) (f6 (az (f6 aK) aK)))
   (aJ (nX PassesOwn.never U (lS (pv 0)) (fb (i:=3) nW.nd U (Or.inl U))
    (aX (k9 (iU (Ej (Ia hr)) (pv 3) (pv 1) (ax _))
     (aX (dE (gx YR YZ Y0 cM (pv 2) (az (f6 aK) aK))))
     (aX (dE (gx YR YZ Y0 cM (dO bO (pv 2) b6 (λ_ _=>rfl)) (az (pv 3) aK)))))))
   (aX (eP (pv 2))))),?_]
  have hnone:∀ {c:Addr},H c=none->¬ M c:=λ{c} h m=>by
   let(o,e):=B.md c m;rw[h] at e;cases e
  have hlu:us.length=xs.length:=ru.length;refine#[(by decide:(0:Nat)<=sizeLine),λb hb=>#[(by decide:(1:Nat)<=sizeLine),λg hg=>?_]];have nbg:b≠g:=av au hg;have hgH:H g=none:=by
   rw[aq (Ne.symm nbg)] at hg;exact hg
  have sm0:dS H (upd (upd H b (.lst [])) g (.lst [.ref b])):=λc o e=>by
   rw[aq (av e hgH),aq (av e hb)];exact e
  refine#[_,U,a,U,#[us,.of (sm0 _ _ ha)],rH (xs:=us) (λi O H'=>∃ bs b v3,X0 K M H xs a g i O H' bs b v3) #[[],b,none,U,au,trivial,#[[],by rw[aq nbg];exact au,U],by simp[Ne.symm nbg],λc hc=>?_,sm0] (λi O H' _ #[bs,b,v3,I]=>.of (I.same _ _ ha)) ?_ ?_]
  .rcases Yn.mp hc with rfl | hc
   .exact hgH
   .rw[Yx.mp hc];exact hb
  .rintro i x O H' hx ⟨bs,b,v3,I⟩;have kX:=I.st;subst kX;let(d,hd,rd):=ru.NH hx;have hil:i < xs.length:=(Yu.mp hd).1;have htk:xs.take (i+1)=xs.take i++[d]:=by rw[Zz,hd];rfl
   have hfd:(xs.take (i+1)).foldl dC ([],[])=dC ((xs.take i).foldl dC ([],[])) d:=by rw[htk,ZJ];rfl
   have fC:=we (xs.take i) ([],[]);have htl:(xs.take i).length<=1000:=by rw[Zn];cbv
   have hll:=I.ll.len;have km:∀ c o,M c->H c=some o->H' c=some o:=λc o _ e=>I.same c o e;have rd':Rep K H' M d x:=Rep.mono (λ_ m=>m) km d x rd;refine#[_,U,_,U,M,d,.str "|",rd',U,aN d (Y4 hd),by decide+kernel,.inr (by decide+kernel),_,U,?_];have there:∀ c∈bs++[b],∃ o,H' c=some o:=λc hc=>by
    rcases Yz.mp hc with hc | hc
    .exact I.ll.there c hc
    .rw[Yx.mp hc];let(us,e,_):=I.cur;exact#[_,e]
   have hgb:∀ c∈bs++[b],c≠g:=λc hc z=>(Za.mp I.nd).1 (z▸hc);refine m4 (λhe=>?_) λhe=>?_
   .have he:eqB d=true:=he;refine#[_,U,.inl #[U,_,cn.of I.out],(by decide:(0:Nat)<=sizeLine),λp hp=>#[g,(bs++[b]).map V.ref,.ref p,U,U,?_,?_,?_]]
    .rw[aq (av I.out hp)];exact I.out
    .rw[Yk,Yl];show _+1 < _;have:=aC;simp only[List.length_nil,Nat.zero_add] at fC;cbv
    .have hpH:H p=none:=by
      cases e:H p with
      | none=>rfl
      | some o =>
       have:=I.same p o e;rw[hp] at this;cases this
     have npg:p≠g:=λz=>by rw[z,I.out] at hp;cases hp
     have npb:p∉bs++[b]:=λhc=>by
      let(o,e):=there p hc;rw[hp] at e;cases e
     have kp:∀ c o,c≠g->H' c=some o->upd (upd H' p (.lst [])) g (.lst ((bs++[b]).map V.ref++[.ref p])) c=some o:=λc o n1 e=>by
      rw[aq n1,aq (av e hp)];exact e
     have km2:∀ c o,M c->H' c=some o->upd (upd H' p (.lst [])) g (.lst ((bs++[b]).map V.ref++[.ref p])) c=some o:=λc o m e=>kp c o (λz=>hnone hgH (z▸m)) e;refine#[bs++[b],p,some x,U,?_,?_,?_,?_,?_,?_]
     .rw[au,Yr (l₁:=bs++[b])]
      rfl
     .rw[hfd];unfold dC;rw[if_pos he];refine LL.mono (λ_ m=>m) km2 (λc hc o e=>kp c o (hgb c hc) e) (I.ll.snoc I.cur)
     .rw[hfd];unfold dC;rw[if_pos he];exact#[[],by rw[aq npg];exact au,U]
     .rw[<- YT];exact zu I.nd λhc=>by
       rcases Yn.mp hc with hc | hc
       .exact npg hc
       .exact npb hc
     .intro c hc;rw[<- YT] at hc;rcases Yz.mp hc with hc | hc
      .exact I.new c hc
      .rw[Yx.mp hc];exact hpH
     .exact λc o e=>kp c o (λz=>by rw[z,hgH] at e;cases e) (I.same c o e)
   .have he:¬ eqB d=true:=he;let(cu,hcu,rcu):=I.cur;have hbH:H b=none:=I.new b (by simp);have hbl:cu.length<=1000:=by
     rw[rcu.length];simp only[List.length_nil,Nat.zero_add] at fC;cbv
    refine#[_,U,g,_,-1,.ref b,U,U,cn.of I.out,by rw[Yr];exact ft _ _,.inl #[U,_,cn.of hcu],_,U,b,cu,x,U,U,hcu,?_,?_]
    .have:=aC;cbv
    have nbg2:g≠b:=λz=>hgb b (by simp) z.symm;have nbb:∀ c∈bs,c≠b:=λc hc z=>by
     have h1:=(Za.mp I.nd).2;exact (List.nodup_append.mp h1).2.2 c hc b (by simp) z
    have kp:∀ c o,c≠b->H' c=some o->upd H' b (.lst (cu++[x])) c=some o:=λc o n1 e=>by
     rw[aq n1];exact e
    have km2:∀ c o,M c->H' c=some o->upd H' b (.lst (cu++[x])) c=some o:=λc o m e=>kp c o (λz=>hnone hbH (z▸m)) e;refine#[bs,b,some x,U,?_,?_,?_,I.nd,I.new,λc o e=>kp c o (λz=>by rw[z,hbH] at e;cases e) (I.same c o e)]
    .rw[aq nbg2];exact I.out
    .rw[hfd];unfold dC;rw[if_neg he];exact LL.mono (λ_ m=>m) km2 (λc hc o e=>kp c o (nbb c hc) e) I.ll
    .rw[hfd];unfold dC;rw[if_neg he];exact#[cu++[x],au,(ay.mono (λ_ m=>m) km2 _ _ rcu).append (ay.one (Rep.mono (λ_ m=>m) km2 _ _ rd'))]
  .rintro O H' ⟨bs,b,v3,I⟩;have kX:=I.st;subst kX;refine#[_,U,?_];have etk:xs.take us.length=xs:=by rw[hlu,ZP]
   have L:=I.ll.snoc I.cur;rw[etk] at L;have hnew:∀ c,c=g\/c∈bs++[b]->H c=none:=λc hc=>I.new c (by
    rcases hc with rfl | hc
    .exact Ym
    .exact Yo _ hc)
   refine kk _ q (λc=>M c\/(c=g\/c∈bs++[b])) H' (.ref g) #[trivial,λc o e _=>I.same c o e,λc m=>?_,λ_ _ h=>h,λ_ m=>.inl m,λc m=>?_] #[g,_,U,#[.inr (.inl U),I.out],LL.lK (λ_ m=>.inl m) L λc hc=>.inr (.inr hc)]
   .rcases m with m | rfl | hc
    .let(o,e):=B.md c m;exact#[o,I.same c o e]
    .exact#[_,I.out]
    .exact L.there c hc
   .rcases m with m | hc
    .exact .inl m
    .exact .inr (.inl (hnew c hc))
theorem d4(x:Str):eqB (.str x)=decide (x="|"):=by
 unfold eqB Hz;show PyData.eqv (.str x) (.str "|")=_;by_cases h:x="|"
 .rw[h];decide+kernel
 .rw[decide_eq_false h];simp[PyData.eqv,h]
theorem Kt(t:Tm):eqB (toD t)=false:=by
 cases t with
 | node f ks =>
  show eqB (Dl f (toDs ks))=false;unfold eqB Hz;cases f<;>simp[Dl,toP,PyData.eqv]
theorem KR{x:Str}(h:Nm x):x≠"|":=λz=>by
 have:=h.1 124 (by rw[z];decide);cbv
theorem oE{x:Str}(h:Nm x):eqB (.str x)=false:=by rw[d4,decide_eq_false (KR h)]
theorem FZ{i:Int}(h0:0<=i)(h1:i < 1000000):eqB (.str (eL i))=false:=by
 rw[d4,decide_eq_false];intro z;have:=tP h0 h1;rw[z] at this
 revert this
 decide+kernel
theorem yV{t:Tm}(h:t.gt):eqB (lN t)=false:=by
 let(f,ks):=t;by_cases hw:f.w=1
 .rw[uE hw];exact Kt _
 .cases f with
  | nm x=>exact oE h.1.1
  | num i=>exact FZ h.1.1.1 h.1.1.2
  | _=>exact absurd U hw
theorem mD:∀ (l:List D) (s:List (List D)×List D),(∀ x∈l,eqB x=false)->l.foldl dC s=(s.1,s.2++l)
 | [],s,_=>by simp
 | x::l,s,h=>by
  rw[aas,mD l _ λy hy=>h y (Yo _ hy)];unfold dC;rw[if_neg (by rw[h x Ym];decide)];simp
theorem nJ:∀ (hs:List (Str×List Str)) (ks:List Tm),fX hs ks=(hs.zip ks).flatMap λp=>.str "|"::ik p.1 p.2
 | [],ks=>by cases ks<;>rfl
 | _::_,[]=>rfl
 | h::hs,k::ks=>by
  rw[fX,nJ hs ks,ZH,Yt];simp[ik]
theorem tV:∀ (ps:List ((Str×List Str)×Tm)) (s:List (List D)×List D),(∀ p∈ps,∀ x∈ik p.1 p.2,eqB x=false)->(let r:=(ps.flatMap λp=>D.str "|"::ik p.1 p.2).foldl dC s;r.1++[r.2])=s.1++[s.2]++ps.map λp=>ik p.1 p.2
 | [],s,_=>by simp
 | p::ps,s,h=>by
  rw[Yt,ZJ,aas];have e1:dC s (.str "|")=(s.1++[s.2],[]):=by
   unfold dC;rw[if_pos (by rw[d4];exact decide_eq_true U)]
  rw[e1,mD _ _ (h p Ym),tV ps _ λq hq=>h q (Yo _ hq)];simp
theorem JH{hs:List (Str×List Str)}{ks:List Tm}(hh:n6 hs)(hg:kI ks):∀ p∈hs.zip ks,∀ x∈ik p.1 p.2,eqB x=false:=λp hp x hx=>by
 have h1:=hh.2 p.1 (Zb (a:=p.1) (b:=p.2) hp).1;have h2:=dB hg p.2 (Zb (a:=p.1) (b:=p.2) hp).2;unfold ik at hx;rcases Yz.mp hx with hx | hx
 .let(z,hz,rfl):=YB.mp hx;rcases Yn.mp hz with rfl | hz
  .exact oE h1.1
  .exact oE (h1.2.2 z hz)
 .rcases Yn.mp hx with rfl | hx
  .rw[d4];decide+kernel
  .rw[Yx.mp hx];exact yV h2
theorem uy{l:List D}{hs:List (Str×List Str)}{ks:List Tm}(hl:∀ x∈l,eqB x=false)(hh:n6 hs)(hg:kI ks):kW (l++fX hs ks)=l::(hs.zip ks).map λp=>ik p.1 p.2:=by
 unfold kW;rw[ZJ,mD l _ hl,nJ];have:=tV (hs.zip ks) ([],[]++l) (JH hh hg);simpa using this
theorem n0:∀ (hs:List (Str×List Str)) (ks:List Tm),n6 hs->(fX hs ks).length<=7 * hs.length
 | [],_,_=>by simp[fX]
 | _::_,[],_=>by simp[fX]
 | h::hs,k::ks,hh=>by
  have h1:=n0 hs ks #[by have:=hh.1;simp only[List.length_cons] at this;cbv,λx hx=>hh.2 x (List.mem_cons_of_mem _ hx)];have h2:=(hh.2 h Ym).2.1;rw[fX];simp only[List.length_cons,List.length_append,List.length_map];cbv
theorem gv{x:Str}(h:Nm x):PyData.strOk x=true:=h.1.strOk
theorem pP{x:Str}(h:rY x):PyData.strOk x=true:=by
 rcases h with h | rfl
 .exact gv h
 .decide+kernel
theorem Hc{i:Int}(h0:0<=i):PyData.strOk (eL i)=true:=by
 let(n,rfl):=ZE h0;unfold PyData.strOk;rw[<- Array.all_toList];refine Y2.mpr λc hc=>?_;have hc:c∈cd (eL (n:Int)):=hc;rw[Gd] at hc;let(ch,hm,rfl):=YB.mp hc;have:=Zt (by decide) (by decide) hm;unfold Char.isDigit at this;simp only[Bool.and_eq_true,decide_eq_true_eq] at this;have h2:ch.toNat<=57:=this.2;exact decide_eq_true (by cbv)
theorem De{hs:List (Str×List Str)}(hh:n6 hs):((hs.map λh=>h.1::h.2).flatten).all PyData.strOk=true:=Y2.mpr λx hx=>by
 let(l,hl,hx):=List.mem_flatten.mp hx;let(h,hm,rfl):=YB.mp hl;rcases Yn.mp hx with rfl | hx
 .exact gv (hh.2 h hm).1
 .exact gv ((hh.2 h hm).2.2 x hx)
theorem OU{f:Fm}{n:Nat}(h:dY f n):f.ar n=true/\f.strs.all PyData.strOk=true:=by
 cases f with
 | nm x=>exact#[by simp[Fm.ar,h.2],by simp[Fm.strs,gv h.1]]
 | num i=>exact#[by simp[Fm.ar,h.2],U]
 | op s =>
  refine#[by simp[Fm.ar,h.2],?_];rcases h.1 with rfl | rfl | rfl<;>decide+kernel
 | iR=>exact#[by simp[Fm.ar,show n=3 from h],U]
 | lt x=>exact#[by simp[Fm.ar,h.2],by simp[Fm.strs,gv h.1]]
 | mk x=>exact#[U,by simp[Fm.strs,gv h.1]]
 | ask x=>exact#[by simp[Fm.ar,h.2.1],by simp[Fm.strs,gv h.1]]
 | g8 r hs =>
  refine#[?_,by rw[Fm.strs,ZS,pP h.1,De h.2.1];rfl];simp only[Fm.ar,h.2.2,beq_self_eq_true,Bool.true_and];exact Y2.mpr λx hx=>decide_eq_true (Yw (h.2.1.2 x hx).2.1 (by decide))
 | new k hs =>
  refine#[?_,by rw[Fm.strs,ZS,pP h.1,De h.2.1];rfl];simp only[Fm.ar,h.2.2,beq_self_eq_true,Bool.true_and];exact Y2.mpr λx hx=>decide_eq_true (Yw (h.2.1.2 x hx).2.1 (by decide))
mutual
theorem zG:∀ t:Tm,t.gt->t.wf=true/\t.Pb=true
 | .node f ks,h=>by
  let(h1,h2):=CV ks h.2;let(h3,h4):=OU h.1;exact#[by show (f.ar ks.length&&p5 ks)=true;rw[h3,h1];rfl,by show (f.strs.all PyData.strOk&&wK ks)=true;rw[h4,h2];rfl]
theorem CV:∀ ks:List Tm,kI ks->p5 ks=true/\wK ks=true
 | [],_=>#[U,U]
 | t::r,h=>by
  let(h1,h2):=zG t h.1;let(h3,h4):=CV r h.2;exact#[by show (t.wf&&p5 r)=true;rw[h1,h3];rfl,by show (t.Pb&&wK r)=true;rw[h2,h4];rfl]
end
theorem yH{t:Tm}(h:t.gt):k6 (lN t)=true:=by
 let(f,ks):=t;by_cases hw:f.w=1
 .rw[uE hw];exact C0 _ (zG _ h).1 (zG _ h).2
 .cases f with
  | nm x=>exact gv h.1.1
  | num i=>exact Hc h.1.1.1
  | _=>exact absurd U hw
theorem iq{hs:List (Str×List Str)}{ks:List Tm}(hh:n6 hs)(hg:kI ks):∀ x∈fX hs ks,k6 x=true:=λx hx=>by
 rw[nJ] at hx;let(p,hp,hx):=YN.mp hx;have h1:=hh.2 p.1 (Zb (a:=p.1) (b:=p.2) hp).1;have h2:=dB hg p.2 (Zb (a:=p.1) (b:=p.2) hp).2;rcases Yn.mp hx with rfl | hx
 .decide+kernel
 .unfold ik at hx;rcases Yz.mp hx with hx | hx
  .let(z,hz,rfl):=YB.mp hx;rcases Yn.mp hz with rfl | hz
   .exact gv h1.1
   .exact gv (h1.2.2 z hz)
  .rcases Yn.mp hx with rfl | hx
   .decide+kernel
   .rw[Yx.mp hx];exact yH h2
section
variable{X:Cx}{c:Ent}{k:Nat}{f:Addr}{fd:FuncData}{ps:List Str}{t:aav}{x:Str}{p pos:Pos}{e:Expr}{es:List Expr}{ta:gb}
theorem qW{z:Str}{dv:Value}(hr:cU k X.A)(hg:Gl X x)(hm:X.mg x=some (.ref f))(hk:keepIn X.K (.ref f)=true)(hb:Binds X.K fd ps [dv])(hz:RelV (.str z) dv)(ha:DA X c (e::es) ta)(F:bV X.prog X.w X.K X.mg X.base aD k f fd ps (aO X.K .no t))(kP:aay x:=by decide)(he:aaw X.env e es:=by rfl)(fC:aax X.env pos es:=by rfl) :
  DE X c (.Call (.Name x p) (e::es) [] pos) (eY (λds R=>t (ds++[.str z]) R) ta):=#[(cK F hr hg hm hk hb (.cons hz .nil) (E:=E0) fW ha.pa kP he fC).imp λO H Q zz=>d7 zz λM s as R L q kk =>
 #[M,s,as,_,L,q,λds s1 q1 M1 H1 vs L1 E1 r1 hl=>#[M1,ds++[.str z],_,L1.base.CJ,r1.append (ay.one (d:=.str z) U),q1,λd rd M' H' v B rv=>kk d s1 rd M' H' v (L1.after (L1.base.yp B)) (E1.trans L1.base (Ext.after (L1.base.yp B))) rv]]]
end
def QJ:aav:=λds R=>∃ (r:Str) (hs:List (Str×List Str)) (ks:List Tm),ds=[.str (cO (.g8 r hs)),.lst (fG (.g8 r hs) ks)]/\(dY (.g8 r hs) ks.length/\kI ks)/\R (toD (.node (.g8 r hs) ks))
theorem MO{xS:Addr}{qm:FuncData}{qz:Tok}(Nc:bV P w K mg base aD 1 xS qm ["items","sign"] (aO K .no QO))(DK:uG K "parted" "parted" eu xS qm "|" qz)(Gx:mg "parted"=some (.ref xS))(Hq:Binds K qm ["items","sign"] [.str "|" qz])(kq:aa1 P w K mg base cR 1 vT)(FT:aa1 P w K mg base eS 4 LG)(Kn:aa1 P w K mg base fJ 4 Oi)(Rx:aa1 P w K mg base dg 6 T2)(F:Own K mg oG)(T:Txt K mg):aa1 P w K mg base oG 7 QJ:=by
 refine F.d (nos:=0) lD (λds R h=>?_) λf a9 A outer s H E M hr=>#[_,(af (sS 2 lD.nd (qW (hr.mono (by ac_rfl)) U Gx DK.kp Hq #[qz,U] (aa (vd 1) ae) Nc))
 (af (sS 3 lD.nd (ic (vd 2) ah))
 (af (bC (aj hr kq (aa (jL (bW aM bx (fO T.len (aa (vd 3) ae)) ah (ax _)) (i9 (bW aM bx (ic (vd 3) ah) ak (ax _)))) ae)))
 (ai (aP (aW (aa (vd 0) (aa (aj hr FT (aa (ic (vd 3) ah) ae)) (aa (aj hr Kn (aa (ic (vd 3) ah) ae)) (aa (aj hr Rx (aa (DN.de (cm (vd 2) (bA ah) bD)) ae)) ae)))))))))),λds R h=>?_]
 .let(r,hs,ks,rfl,_):=h
  rfl
 .let(r,hs,ks,rfl,(aN,hg),q):=h;have hsz:=aC;rw[bS] at q;let(hr1,hh,hk):=aN;let(a,js,rfl):=Fe (l:=ks) (by cbv);have hjl:js.length=hs.length:=Z7 hk;have hrl:=n0 hs js hh;have h3:=hh.1;have ep:kW (fG (.g8 r hs) (a::js))=[lN a,.str "to",.str r]::(hs.zip js).map λp=>ik p.1 p.2:=uy (l:=[lN a,.str "to",.str r]) (λx hx=>by
   rcases Yn.mp hx with rfl | hx
   .exact yV hg.1
   .rcases Yn.mp hx with rfl | hx
    .rw[d4];decide+kernel
    .rw[Yx.mp hx];rcases hr1 with h | rfl
     .exact oE h
     .rw[d4];decide+kernel) hh hg.2
  refine#[_,U,_,U,#[?_,λx hx=>?_],?_]
  .show (fX hs js).length+1+1+1<=_;cbv
  .rcases Yn.mp hx with rfl | hx
   .exact yH hg.1
   .rcases Yn.mp hx with rfl | hx
    .decide+kernel
    .rcases Yn.mp hx with rfl | hx
     .exact pP hr1
     .exact iq hh hg.2 x hx
  rw[ep];refine#[_,U,_,_,_,U,U,bU,?_];refine#[_,U,_,.inl U,#[U,U,U],_,U,?_];refine gn (decide_eq_true U) ?_;refine#[_,U,_,_,_,U,U,U,#[U,U,U],?_];refine#[U,?_];refine#[_,U,_,U,_,_,_,U,U,U,a,U,hg.1,?_];refine#[_,U,_,_,_,U,U,U,r,U,hr1,?_];refine#[_,U,_,U,_,U,?_];rw[Yp,fI];exact#[hs,js,by rw[YF];rfl,#[hh,hg.2,hjl],q]
def QF:aav:=λds R=>∃ (k:Str) (hs:List (Str×List Str)) (ks:List Tm),ds=[.str (cO (.new k hs)),.lst (fG (.new k hs) ks)]/\(dY (.new k hs) ks.length/\kI ks)/\R (toD (.node (.new k hs) ks))
theorem OC{xS:Addr}{qm:FuncData}{qz:Tok}(Nc:bV P w K mg base aD 1 xS qm ["items","sign"] (aO K .no QO))(DK:uG K "parted" "parted" eu xS qm "|" qz)(Gx:mg "parted"=some (.ref xS))(Hq:Binds K qm ["items","sign"] [.str "|" qz])(kq:aa1 P w K mg base cR 1 vT)(Kn:aa1 P w K mg base fJ 4 Oi)(Rx:aa1 P w K mg base dg 6 T2)(F:Own K mg rX)(T:Txt K mg):aa1 P w K mg base rX 7 QF:=by
 refine F.d (nos:=0) uf (λds R h=>?_) λf a9 A outer s H E M hr=>#[_,(af (sS 2 uf.nd (qW (hr.mono (by ac_rfl)) U Gx DK.kp Hq #[qz,U] (aa (vd 1) ae) Nc))
 (af (bC (aj hr kq (aa (bW aM bx (fO T.len (aa (ic (vd 2) ah) ae)) ah (ax _)) ae)))
 (ai (aP (aW (aa (vd 0) (aa (aj hr Kn (aa (ic (ic (vd 2) ah) ah) ae)) (aa (aj hr Rx (aa (DN.de (cm (vd 2) (bA ah) bD)) ae)) ae)))))))),λds R h=>?_]
 .let(k,hs,ks,rfl,_):=h
  rfl
 .let(k,hs,ks,rfl,(aN,hg),q):=h;have hsz:=aC;rw[bS] at q;let(hr1,hh,hk):=aN;have hrl:=n0 hs ks hh;have h3:=hh.1;have ep:kW (fG (.new k hs) ks)=[.str k]::(hs.zip ks).map λp=>ik p.1 p.2:=uy (l:=[.str k]) (λx hx=>by
   rw[Yx.mp hx];rcases hr1 with h | rfl
   .exact oE h
   .rw[d4];decide+kernel) hh hg
  refine#[_,U,_,U,#[?_,λx hx=>?_],?_]
  .show (fX hs ks).length+1<=_;cbv
  .rcases Yn.mp hx with rfl | hx
   .exact pP hr1
   .exact iq hh hg x hx
  rw[ep];refine#[_,U,_,_,_,U,U,bU,_,.inl U,#[U,U,U],?_];refine#[U,?_];refine#[_,U,_,U,_,_,_,U,U,bU,_,_,_,U,U,U,k,U,hr1,?_];refine#[_,U,_,U,_,U,?_];rw[Yp,fI];exact#[hs,ks,by rw[YF];rfl,#[hh,hg,hk],q]
end
section
variable{P:Program}{w:World}{K:Frag}{mg:Str->Option Value}{base:Heap}
structure sH(K:Frag)(M0:Addr->Prop)(H0:Hp)(Wd:Addr)(vs:List V)(F:Addr)(M:Addr->Prop)(H:Hp)(bs:List Addr)(fr:List (List D)):Prop where
 out:H F=some (.lst (bs.map V.ref))
 ll:LL K H M bs fr
 nd:(F::bs).Nodup
 new:∀ c∈F::bs,H0 c=none/\¬ M c
 B:Base #[.no,M0,H0] M H
 wd:H Wd=some (.lst vs)
 wn:Wd∉F::bs
section
variable{M0 M:Addr->Prop}{H0 H:Hp}{Wd F:Addr}{vs:List V}{bs:List Addr}{fr:List (List D)}
theorem sH.oN(I:sH K M0 H0 Wd vs F M H bs fr){p:Addr}(hp:H p=none):H0 p=none:=by
 cases e:H0 p with
 | none=>rfl
 | some o =>
  have:=I.B.fr p o e λz=>z;rw[hp] at this;cases this
theorem sH.nM(I:sH K M0 H0 Wd vs F M H bs fr){p:Addr}(hp:H p=none):¬ M p:=λm=>by
 let(o,e):=I.B.md p m;rw[hp] at e;cases e
theorem sH.GA(I:sH K M0 H0 Wd vs F M H bs fr){q:Addr}{o:HO}(nm:¬ M q)(h0:H0 q=none):Base #[.no,M0,H0] M (upd H q o):=#[trivial,λc u e g=>by
  rw[aq (λz=>by subst z;exact nomatch (show (none:Option HO)=some u from (show H0 c=none from h0).symm.trans e))];exact I.B.fr c u e g,λc m=>by
  let(u,e):=I.B.md c m;exact#[u,by rw[aq (λz=>by subst z;exact nm m)];exact e],λ_ _ h=>h,I.B.m0,I.B.mn]
theorem sH.push(I:sH K M0 H0 Wd vs F M H bs fr){p:Addr}{us:List V}{l:List D}(hp:H p=none)(hr:ay K H M l us):sH K M0 H0 Wd vs F M (upd (upd H p (.lst us)) F (.lst (bs.map V.ref++[.ref p]))) (bs++[p]) (fr++[l]):=by
 have hF:=I.new F Ym;have npF:p≠F:=λz=>by rw[z,I.out] at hp;cases hp
 have npb:p∉bs:=λhc=>by
  let(o,e):=I.ll.there p hc;rw[hp] at e;cases e
 have npw:Wd≠p:=λz=>by rw[<- z,I.wd] at hp;cases hp
 have nwF:Wd≠F:=λz=>I.wn (z▸Ym);have hgb:∀ c∈bs,c≠F:=λc hc z=>(Za.mp I.nd).1 (z▸hc);have kp:∀ c o,c≠F->H c=some o->upd (upd H p (.lst us)) F (.lst (bs.map V.ref++[.ref p])) c=some o:=λc o n1 e=>by
  rw[aq n1,aq (av e hp)];exact e
 have km:∀ c o,M c->H c=some o->upd (upd H p (.lst us)) F (.lst (bs.map V.ref++[.ref p])) c=some o:=λc o m e=>kp c o (λz=>hF.2 (z▸m)) e;refine#[?_,?_,?_,λc hc=>?_,?_,kp _ _ nwF I.wd,λhc=>?_]
 .rw[au,Yr]
  rfl
 .exact (LL.mono (λ_ m=>m) km (λc hc o e=>kp c o (hgb c hc) e) I.ll).snoc #[us,by rw[aq npF];exact au,ay.mono (λ_ m=>m) km _ _ hr]
 .rw[<- YT];exact zu I.nd λhc=>by
   rcases Yn.mp hc with hc | hc
   .exact npF hc
   .exact npb hc
 .rw[<- YT] at hc;rcases Yz.mp hc with hc | hc
  .exact I.new c hc
  .rw[Yx.mp hc];exact#[I.oN hp,I.nM hp]
 .refine#[trivial,λc u e g=>kp c u (λz=>by subst z;exact nomatch (show (none:Option HO)=some u from (show H0 c=none from hF.1).symm.trans e)) (I.B.fr c u e g),λc m=>?_,λ_ _ h=>h,I.B.m0,I.B.mn];let(u,e):=I.B.md c m;exact#[u,km c u m e]
 .rw[<- YT] at hc;rcases Yz.mp hc with hc | hc
  .exact I.wn hc
  .exact npw (Yx.mp hc)
theorem LL.last{K:Frag}{H:Hp}{M:Addr->Prop}:∀ {bs:List Addr} {b0:List (List D)} {cur:List D},LL K H M bs (b0++[cur])->∃ cs b us,bs=cs++[b]/\H b=some (.lst us)/\ay K H M cur us/\LL K H M cs b0
 | [],b0,cur,h=>by cases b0<;>exact h.elim
 | b::bs,[],cur,h=>by
  let((us,e,r),t):=h;cases bs with
  | nil=>exact#[[],b,us,U,e,r,trivial]
  | cons c bs=>exact t.elim
 | b::bs,l::b0,cur,h=>by
  let(h1,t):=h;let(cs,c,us,e,h2,h3,h4):=LL.last t;exact#[b::cs,c,us,by rw[e];rfl,h2,h3,h1,h4]
theorem sH.add{cs:List Addr}{b:Addr}{us:List V}{b0:List (List D)}{cur:List D}{d:D}{v:V}(I:sH K M0 H0 Wd vs F M H (cs++[b]) (b0++[cur]))(hb:H b=some (.lst us))(r:ay K H M cur us)(l4:LL K H M cs b0)(rv:Rep K H M d v) :
  sH K M0 H0 Wd vs F M (upd H b (.lst (us++[v]))) (cs++[b]) (b0++[cur++[d]]):=by
 have hbn:=I.new b (by simp);have nFb:F≠b:=λz=>(List.nodup_cons.mp I.nd).1 (by rw[z];simp);have nbb:∀ c∈cs,c≠b:=λc hc z=>(List.nodup_append.mp (List.nodup_cons.mp I.nd).2).2.2 c hc b (by simp) z;have nwb:Wd≠b:=λz=>I.wn (by rw[z];simp);have kp:∀ c o,c≠b->H c=some o->upd H b (.lst (us++[v])) c=some o:=λc o n1 e=>by rw[aq n1];exact e
 have km:∀ c o,M c->H c=some o->upd H b (.lst (us++[v])) c=some o:=λc o m e=>kp c o (λz=>hbn.2 (z▸m)) e;exact#[kp _ _ nFb I.out,(LL.mono (λ_ m=>m) km (λc hc o e=>kp c o (nbb c hc) e) l4).snoc #[us++[v],au,(ay.mono (λ_ m=>m) km _ _ r).append (ay.one (Rep.mono (λ_ m=>m) km _ _ rv))],I.nd,I.new,I.GA hbn.2 hbn.1,kp _ _ nwb I.wd,I.wn]
theorem sH.pop{cs:List Addr}{b:Addr}{us:List V}{b0:List (List D)}{cur:List D}(I:sH K M0 H0 Wd vs F M H (cs++[b]) (b0++[cur]))(hb:H b=some (.lst us))(r:ay K H M cur us)(l4:LL K H M cs b0) :
  sH K M0 H0 Wd vs F (λc=>M c\/c=b) (upd H F (.lst (cs.map V.ref))) cs b0/\Rep K (upd H F (.lst (cs.map V.ref))) (λc=>M c\/c=b) (.lst cur) (.ref b):=by
 have hF:=I.new F Ym;have hbn:=I.new b (by simp);have nFb:b≠F:=λz=>(List.nodup_cons.mp I.nd).1 (by rw[<- z];simp);have hgb:∀ c∈cs,c≠F:=λc hc z=>(Za.mp I.nd).1 (by rw[<- z];exact Zd _ hc);have nbb:∀ c∈cs,c≠b:=λc hc z=>(List.nodup_append.mp (List.nodup_cons.mp I.nd).2).2.2 c hc b (by simp) z;have nwF:Wd≠F:=λz=>I.wn (z▸Ym);have kp:∀ c o,c≠F->H c=some o->upd H F (.lst (cs.map V.ref)) c=some o:=λc o n1 e=>by rw[aq n1];exact e
 have km:∀ c o,M c->H c=some o->upd H F (.lst (cs.map V.ref)) c=some o:=λc o m e=>kp c o (λz=>hF.2 (z▸m)) e;have nd2:(F::cs).Nodup:=by
  have h:=I.nd;rw[<- YT] at h;exact (List.nodup_append.mp h).1
 refine#[#[au,LL.mono (λ_ m=>.inl m) km (λc hc o e=>kp c o (hgb c hc) e) l4,nd2,λc hc=>?_,#[trivial,λc u e g=>kp c u (λz=>by subst z;exact nomatch (show (none:Option HO)=some u from (show H0 c=none from hF.1).symm.trans e)) (I.B.fr c u e g),λc m=>?_,λ_ _ h=>h,λc m=>.inl (I.B.m0 c m),λc m=>?_],kp _ _ nwF I.wd,λhc=>I.wn ?_],#[b,us,U,#[.inr U,kp _ _ nFb hb],ay.mono (λ_ m=>.inl m) km _ _ r]]
 .have h1:=I.new c (by rw[<- YT];exact Zd _ hc);refine#[h1.1,λm=>?_];rcases m with m | rfl
  .exact h1.2 m
  .rcases Yn.mp hc with hc | hc
   .exact nFb hc
   .exact nbb c hc U
 .rcases m with m | rfl
  .let(u,e):=I.B.md c m;exact#[u,km c u m e]
  .exact#[_,kp _ _ nFb hb]
 .rcases m with m | rfl
  .exact I.B.mn c m
  .exact .inr (.inl hbn.1)
 .rw[<- YT];exact Zd _ hc
theorem sH.call{M':Addr->Prop}{H':Hp}(I:sH K M0 H0 Wd vs F M H bs fr)(B:Base #[.no,M,H] M' H'):sH K M0 H0 Wd vs F M' H' bs fr:=by
 have kp:∀ c o,H c=some o->H' c=some o:=λc o e=>B.fr c o e λz=>z;refine#[kp _ _ I.out,LL.mono B.m0 (λc o _ e=>kp c o e) (λc _ o e=>kp c o e) I.ll,I.nd,λc hc=>#[(I.new c hc).1,λm=>?_],#[trivial,λc u e g=>kp c u (I.B.fr c u e g),B.md,λ_ _ h=>h,λc m=>B.m0 c (I.B.m0 c m),λc m=>?_],kp _ _ I.wd,I.wn]
 .have ht:∃ us,H c=some (.lst us):=by
   rcases Yn.mp hc with rfl | hc
   .exact#[_,I.out]
   .exact I.ll.lst c hc
  let(us,e):=ht;rcases B.mn c m with m | n | ⟨xs,n⟩
  .exact (I.new c hc).2 m
  .have n:H c=none:=n;rw[n] at e;cases e
  .have n:H c=some (.tup xs):=n;rw[n] at e;cases e
 .rcases B.mn c m with m | n | ⟨xs,n⟩
  .exact I.B.mn c m
  .exact .inr (.inl (I.oN n))
  .have n:H c=some (.tup xs):=n;refine .inr ?_;cases e:H0 c with
   | none=>exact .inl e
   | some o =>
    have:=I.B.fr c o e λz=>z;rw[n] at this;cases this;exact .inr #[xs,e]
end
end
section
variable{P:Program}{w:World}{K:Frag}{mg:Str->Option Value}{base:Heap}
def Vv:aav:=λds R=>∃ (f:Fm) (ks:List Tm),ds=[.lst (.str (cO f)::fG f ks)]/\(dY f ks.length/\f.w=1/\kI ks)/\R (toD (.node f ks))
def WK:aav:=λds R=>∃ (ws:List (List Nat)) (its:List D),ds=[.str (bp (bc ws))]/\(ws≠[]/\(∀ x∈ws,32∉x)/\(bc ws).length<=100000/\Run [[]] ws [its])/\R (.lst its)
def Fg(fr:List (List D)):Nat:=(fr.map λl=>l.length+1).sum
theorem ko(a b:List (List D)):Fg (a++b)=Fg a+Fg b:=by simp[Fg]
theorem kH(l:List D):Fg [l]=l.length+1:=by simp[Fg]
theorem zB:∀ fr:List (List D),fr.length<=Fg fr
 | []=>by simp
 | a::l=>by
  have:=zB l;rw[show a::l=[a]++l from U,ko,kH,Yl];simp only[List.length_cons,List.length_nil];cbv
theorem J1:∀ a:List (List Nat),a.length<=(bc a).length+1/\∀ x∈a,x.length<=(bc a).length
 | []=>#[by simp,λx h=>nomatch h]
 | x::a=>by
  have e:(bc (x::a)).length=x.length+(a.length+(a.map List.length).sum):=by
   show (x++a.flatMap (32::·)).length=_;rw[Yl,fU]
  refine#[by rw[e,Yv];cbv,λy hy=>?_];rw[e];rcases Yn.mp hy with rfl | hy
  .cbv
  .have:∀ (l:List (List Nat)),y∈l->y.length<=(l.map List.length).sum:=λl=>by
    induction l with
    | nil=>exact λh=>nomatch h
    | cons b l ih =>
     intro h;rw[Yp,Zi];rcases Yn.mp h with rfl | h
     .cbv
     .have:=ih h;cbv
   have:=this a hy;cbv
theorem gp{c:Ent}{M:Addr->Prop}{H:Hp}(B:Base c M H):Base #[.no,M,H] M H:=#[trivial,λ_ _ e _=>e,B.md,λ_ _ h=>h,λ_ m=>m,λ_ m=>.inl m]
theorem Mr(kq:aa1 P w K mg base cR 1 vT)(W7:aa1 P w K mg base gc 8 Vv)(F:Own K mg iE)(T:Txt K mg):aa1 P w K mg base iE 9 WK:=by
 let(fBI,fdBI,JBI,QZ,mBI,bBI):=id W7;let(fNE,fdNE,JNE,JC,mNE,bNE):=id kq;refine F.c λf fd F=>?_;refine F.ok eR (λvs H Q E h=>?_) (λa9 A outer s H vs Q E hr h=>?_)
 .let(M,ds,R,B,r,(ws,its,rfl,_),_):=h;rw[r.length]
  rfl
 .let(M,ds,R,B,r,(ws,its,rfl,(hw1,hw3,hT,hrun0),q),kk):=h;let(v1,rfl,r1):=cH r;cases (show v1=.str (bp (bc ws)) from r1);have hrN:cU 1 _:=hr.mono (by decide);refine#[_,(aJ (eg (i:=1) eR.nd U (Or.inl U) (f6 (az (f6 aK) aK)))
   (aJ (nX PassesOwn.never U (lS (gx Zp Zq PySem.F.type_str_split v8 (pv 0) (az b8 aK))) (fb (i:=2) eR.nd U (Or.inl U))
    (aJ (k9 (EO (gx Zp PySem.F.slot_str_startswith PySem.F.type_str_startswith A8 (pv 2) (az b8 aK)))
     (aJ (dE (gx YR YZ Y0 cM (pv 1) (az (f6 (az (iy Em (pv 2) (mB aR) vf) aK)) aK)))
      (aX v9))
     lR)
    (aJ (eg (i:=3) eR.nd U (Or.inl U) (gx Zp PySem.F.slot_str_rstrip PySem.F.type_str_rstrip zj (pv 2) (az b8 aK)))
    (aJ (dE (gx YR YZ Y0 cM (dO bO (pv 1) b6 (λ_ _=>rfl)) (az (pv 3) aK)))
    (aX (nX PassesOwn.never U (tZ U T.range (az (dj qO (dm fB U T.len Zj (az (pv 2) aK)) (dm fB U T.len Zj (az (pv 3) aK))) aK)) (fb (i:=4) eR.nd U (Or.inl U))
     (aJ (dE (cK JNE hrN U mNE JC.kp bNE .nil fW (az (iV mQ (dm ff U T.len Zj (az (pv 1) aK)) aR (ax _)) aK)))
     (aJ (eg (i:=5) eR.nd U (Or.inl U) (yh YR Zx Zy qx (pv 1)))
     (aX (dE (gx YR YZ Y0 cM (dO bO (pv 1) b6 (λ_ _=>rfl)) (az (cK JBI hr U mBI QZ.kp bBI .nil fW (az (pv 5) aK)) aK))))))))))))
   (aJ (dE (cK JNE hrN U mNE JC.kp bNE .nil fW (az (iV aM (dm ff U T.len Zj (az (pv 1) aK)) aR (ax _)) aK)))
   (aX (eP (dO bO (pv 1) aR (λ_ _=>rfl))))))),?_]
  let(nk,hwx):=J1 ws;have hLG:=aC;refine#[(by decide:(0:Nat)<=sizeLine),λb hb=>#[(by decide:(1:Nat)<=sizeLine),λg hg=>?_]];refine#[_,U,U,_,_,U,U,by decide,by rw[bB];cbv,by rw[qN hw1 hw3,Yk];cbv,λp hp=>?_];rw[qN hw1 hw3];have nbg:b≠g:=av au hg;have hgH:H g=none:=by
   rw[aq (Ne.symm nbg)] at hg;exact hg
  have npg:p≠g:=Ne.symm (av au hp);have hp1:upd H b (.lst []) p=none:=by
   rw[aq npg] at hp;exact hp
  have npb:p≠b:=Ne.symm (av au hp1);have hpH:H p=none:=by
   rw[aq npb] at hp1;exact hp1
  have hn:∀ {c:Addr},H c=none->¬ M c:=λ{c} h m=>by
   let(o,e):=B.md c m;rw[h] at e;cases e
  have kp0:∀ c o,H c=some o->upd (upd (upd H b (.lst [])) g (.lst [.ref b])) p (.lst ((ws.map bp).map V.str)) c=some o:=λc o e=>by
   rw[aq (av e hpH),aq (av e hgH),aq (av e hb)];exact e
  have I0:sH K M H p ((ws.map bp).map V.str) g M (upd (upd (upd H b (.lst [])) g (.lst [.ref b])) p (.lst ((ws.map bp).map V.str))) [b] [[]]:=by
   refine#[?_,#[#[[],?_,U],trivial],by simp[Ne.symm nbg],λc hc=>?_,#[trivial,λc o e _=>kp0 c o e,λc m=>?_,λ_ _ h=>h,λ_ m=>m,λ_ m=>.inl m],au,by simp[npg,npb]]
   .rw[aq (Ne.symm npg),au]
    rfl
   .rw[aq (Ne.symm npb),aq nbg,au]
   .rcases Yn.mp hc with rfl | hc
    .exact#[hgH,hn hgH]
    .rw[Yx.mp hc];exact#[hb,hn hb]
   .let(o,e):=B.md c m;exact#[o,kp0 c o e]
  refine#[p,U,#[_,cn.of au],rH (xs:=(ws.map bp).map V.str) (λi O H'=>∃ M' bs fr v2 v3 v4 v5,O=[some (.str (bp (bc ws))),some (.ref g),v2,v3,v4,v5]/\sH K M H p ((ws.map bp).map V.str) g M' H' bs fr/\Run fr (ws.drop i) [its]/\Fg fr<=1+2 * i) #[M,[b],[[]],none,none,none,none,U,I0,hrun0,by decide] (λi O H' _ #[M',bs,fr,v2,v3,v4,v5,_,I,_]=>cn.of I.wd) ?_ ?_]
  .rintro i x O H' hx ⟨M',bs,fr,v2,v3,v4,v5,rfl,I,hrun,hms⟩;rw[YS,YS] at hx;let(z,hz,rfl):=YK.mp hx;let(wd,hwd,rfl):=YK.mp hz;have hil:i < ws.length:=(Yu.mp hwd).1;have hwl2:wd.length<=100000:=by
    have:=hwx wd (Y4 hwd);cbv
   have hdr:ws.drop i=wd::ws.drop (i+1):=by
    rw[ZY hil];exact congrArg (·::_) (Yu.mp hwd).2
   rw[hdr] at hrun;refine#[_,U,U,_,_,U,U,_,U,?_];cases hrun with
   | Wb fC hr2 =>
    rename_i h
    rw[Ab];refine m4 (λ_=>?_) λhe=>absurd U he;refine#[_,U,.inl #[U,_,cn.of I.out],_,U,_,U,_,U,by rw[bB];cbv,(by decide:(1:Nat)<=sizeLine),λq hq=>#[g,bs.map V.ref,.ref q,U,U,?_,?_,?_]]
    .rw[aq (av I.out hq)];exact I.out
    .rw[Yk,I.ll.len];have:=zB fr;cbv
    .rw[JY];refine#[M',bs++[q],fr++[[.str (bp h)]],_,v3,v4,v5,U,I.push (l:=[.str (bp h)]) hq (ay.one (d:=.str (bp h)) U),hr2,?_];rw[ko,kH];simp only[List.length_cons,List.length_nil];cbv
   | Te fC hcl hr2 =>
    rename_i b0 cur x n sQ
    have kX:Txt.startswith (bp (x++List.replicate n 41)) "("=false:=by
     cases x with
     | nil=>exact absurd U fC.1
     | cons a x =>
      rw[YT,Ab];exact decide_eq_false (fC.2 a Ym).2.1
    refine m4 (λhe=>absurd (kX.symm.trans he) (by decide)) λ_=>?_;refine#[_,U,U,_,_,U,U,by rw[bB];cbv,?_];rw[Hi n fC];let(cs,b1,us,rfl,hb1,ru,l4):=LL.last I.ll;rw[ko,kH] at hms;have hul:us.length=cur.length:=ru.length;refine#[_,U,g,_,-1,.ref b1,U,U,cn.of I.out,by rw[Yr];exact ft _ _,.inl #[U,_,cn.of hb1],_,U,b1,us,.str (bp x),U,U,hb1,by cbv,?_];have hxl:x.length<=100000/\n<=100000:=by
     rw[Yl,Zu] at hwl2;cbv
    have hj:(((bp (x++List.replicate n 41)).length:Nat):Int) - (((bp x).length:Nat):Int)=(n:Int):=by
     rw[bB,bB,Yl,Zu];cbv
    refine#[_,U,_,U,by rw[bB];cbv,_,U,_,U,by rw[bB];cbv,_,_,U,U,_,U,by rw[hj];cbv,by rw[hj];cbv,?_];rw[hj,Int.toNat_natCast];have I1:=I.add (d:=.str (bp x)) (v:=.str (bp x)) hb1 ru l4 U;have hm1:Fg (b0++[cur++[.str (bp x)]])<=1+2 * (i+1):=by
     rw[ko,kH,Yl];simp only[List.length_cons,List.length_nil];cbv
    refine A7 (λj O H'=>∃ M' bs fr v4 v5,O=[some (.str (bp (bc ws))),some (.ref g),some (.str (bp (x++List.replicate n 41))),some (.str (bp x)),v4,v5]/\sH K M H p ((ws.map bp).map V.str) g M' H' bs fr/\Cl fr (n - j) sQ/\Fg fr<=1+2 * (i+1)) #[M',_,_,v4,v5,U,I1,hcl,hm1] ?_ ?_
    .rintro j O H' hjn ⟨M',bs,fr,v4,v5,rfl,I,hcl,hms⟩;obtain⟨m,hm⟩:∃ m,n - j=m+1:=#[n - j - 1,by cbv];rw[hm] at hcl;cases hcl with
     | succ h1 h2 h3 hcl =>
      rename_i b0 prev f ks
      have hlen:bs.length=b0.length+2:=by
       rw[I.ll.len];simp
      have hdec:decide ((1:Int) < (((bs.map V.ref).length:Nat):Int))=true:=decide_eq_true (by rw[Yk];cbv);refine#[_,U,g,_,U,.inl (cn.of I.out),_,_,U,U,M',[.bl true],(·=.cw),gp I.B,ay.one (congrArg V.bl hdec),#[U,U],λd _ M1 H1 v B1 _=>?_];have I1:=I.call B1;let(cs,b1,us,rfl,hb1,ru,l4):=LL.last I1.ll;have hdrop:((cs++[b1]).map V.ref).dropLast=cs.map V.ref:=by rw[Yr];exact aaq
      refine#[_,U,.inl #[U,_,cn.of I1.out],g,_,.ref b1,U,U,I1.out,by rw[List.map_append];simp,?_];rw[hdrop];let(I2,rb):=I1.pop hb1 ru l4;let(cs,b2,us2,rfl,hb2,ru2,l42):=LL.last I2.ll;refine#[_,U,g,_,-1,.ref b2,U,U,cn.of I2.out,by rw[Yr];exact ft _ _,.inl #[U,_,cn.of hb2],_,U,_,[_],(·=toD (.node f ks)),gp I2.B,ay.one rb,#[f,ks,U,#[h1,h2,h3],U],λd hd M3 H3 v B3 rv=>?_];subst hd;have I3:=I2.call B3;let(cs3,b3,us3,e3,hb3,ru3,l43):=LL.last I3.ll;let(rfl,e4):=List.append_inj' e3 U;cases e4;have hl3:us3.length=prev.length:=ru3.length;simp only[ko,kH,List.length_append,List.length_cons,List.length_nil] at hms;refine#[b2,us3,v,U,U,hb3,by cbv,M3,_,_,_,_,U,I3.add hb3 ru3 l43 rv,?_,?_]
      .rw[show n - (j+1)=m by cbv];exact hcl
      .simp only[ko,kH,List.length_append,List.length_cons,List.length_nil];cbv
    .rintro O H' ⟨M',bs,fr,v4,v5,rfl,I,hcl,hms⟩;rw[Nat.sub_self] at hcl;cases hcl;exact#[M',bs,sQ,_,_,v4,v5,U,I,hr2,hms]
  .rintro O H' ⟨M',bs,fr,v2,v3,v4,v5,rfl,I,hrun,hms⟩;rw[Yk,Yk,aaj] at hrun;cases hrun;let(cs,b1,us,rfl,hb1,ru,l4):=LL.last (b0:=[]) I.ll;cases cs with
   | cons c cs=>exact l4.elim
   | nil =>
    refine#[_,U,g,_,U,.inl (cn.of I.out),U,M',[.bl true],(·=.cw),gp I.B,ay.one (d:=.bl true) U,#[U,U],λd _ M1 H1 v B1 _=>?_];have I1:=I.call B1;let(cs1,b2,us1,e1,hb2,ru1,l41):=LL.last (b0:=[]) I1.ll;let(rfl,e4):=List.append_inj' e1 U;cases e4;refine#[_,U,g,_,0,.ref b1,U,U,cn.of I1.out,U,?_];have hbn:=I1.new b1 (by simp);exact kk _ ‹R (.lst its)› (λc=>M1 c\/c=b1) H1 (.ref b1) #[trivial,I1.B.fr,λc m=>by
     rcases m with m | rfl
     .exact I1.B.md c m
     .exact#[_,hb2],λ_ _ h=>h,λc m=>.inl (I1.B.m0 c m),λc m=>by
     rcases m with m | rfl
     .exact I1.B.mn c m
     .exact .inr (.inl hbn.1)] #[b1,us1,U,#[.inr U,hb2],ay.mono (λ_ m=>.inl m) (λ_ _ _ e=>e) _ _ ru1]
def yX(P:Program)(w:World)(K:Frag)(mg:Str->Option Value)(base:Heap)(k:Nat)(f:Addr)(sp:Sp):Prop:=∃ fd ps,bV P w K mg base aD k f fd ps sp/\keepIn K (.ref f)=true/\Binds K fd ps []
def brk(a z l m q c n:Addr):List (Str×Value):=[("+",.ref a),("-",.ref a),("*",.ref a),("zero",.ref z),("let",.ref l),("make",.ref m),("ask",.ref q),("case",.ref c),("new",.ref n)]
theorem JV{a z l m q c n:Addr}(h1:yX P w K mg base 7 a (aO K .no Q0))(h2:yX P w K mg base 7 z (aO K .no Q8))(h3:yX P w K mg base 7 l (aO K .no QE))(h4:yX P w K mg base 7 m (aO K .no Rc))(h5:yX P w K mg base 7 q (aO K .no Qy))(h6:yX P w K mg base 7 c (aO K .no QJ))(h7:yX P w K mg base 7 n (aO K .no QF)){f:Fm}{ks:List Tm}(hf:dY f ks.length)(hw:f.w=1)(hk:kI ks):∃ g t,valueAt (brk a z l m q c n) (cO f)=some (.ref g)/\yX P w K mg base 7 g (aO K .no t)/\∀ R:D->Prop,R (toD (.node f ks))->t [.str (cO f),.lst (fG f ks)] R:=by
 cases f with
 | nm x=>cases hw
 | num x=>cases hw
 | op s =>
  refine#[a,Q0,?_,h1,λR r=>#[s,ks,U,#[hf,hk],r]];obtain⟨rfl | rfl | rfl,_⟩:=hf<;>rfl
 | iR=>exact#[z,Q8,U,h2,λR r=>#[ks,U,#[hf,hk],r]]
 | lt x=>exact#[l,QE,U,h3,λR r=>#[x,ks,U,#[hf,hk],r]]
 | mk x=>exact#[m,Rc,U,h4,λR r=>#[x,ks,U,#[hf,hk],r]]
 | ask x=>exact#[q,Qy,U,h5,λR r=>#[x,ks,U,#[hf,hk],r]]
 | g8 x hs=>exact#[c,QJ,U,h6,λR r=>#[x,hs,ks,U,#[hf,hk],r]]
 | new x hs=>exact#[n,QF,U,h7,λR r=>#[x,hs,ks,U,#[hf,hk],r]]
theorem AQ{M M1 M2:Addr->Prop}{H H1 H2:Hp}(A:Base #[.no,M,H] M1 H1)(B:Base #[.no,M1,H1] M2 H2):Base #[.no,M,H] M2 H2:=by
 refine#[trivial,λc o e g=>B.fr c o (A.fr c o e g) g,B.md,λ_ _ h=>h,λc h=>B.m0 c (A.m0 c h),λc h=>?_];rcases B.mn c h with h | n | ⟨xs,n⟩
 .exact A.mn c h
 .have n:H1 c=none:=n;refine .inr (.inl ?_);cases e:H c with
  | none=>exact e
  | some o =>
   have:=A.fr c o e λz=>z;rw[n] at this;cases this
 .have n:H1 c=some (.tup xs):=n;refine .inr ?_;cases e:H c with
  | none=>exact .inl e
  | some o =>
   have:=A.fr c o e λz=>z;rw[n] at this;cases this;exact .inr #[xs,e]
theorem Ow(kq:aa1 P w K mg base cR 1 vT){d a z l m q c n:Addr}(h1:yX P w K mg base 7 a (aO K .no Q0))(h2:yX P w K mg base 7 z (aO K .no Q8))(h3:yX P w K mg base 7 l (aO K .no QE))(h4:yX P w K mg base 7 m (aO K .no Rc))(h5:yX P w K mg base 7 q (aO K .no Qy))(h6:yX P w K mg base 7 c (aO K .no QJ))(h7:yX P w K mg base 7 n (aO K .no QF))(hD:LR P w K d (brk a z l m q c n))(QH:mg "BRACKETS"=some (.ref d))(F:Own K mg gc):aa1 P w K mg base gc 8 Vv:=by
 let(fNE,fdNE,JNE,JC,mNE,bNE):=id kq;refine F.c λf fd F=>?_;refine F.ok sR (λvs H Q E h=>?_) (λa9 A outer s H vs Q E hr h=>?_)
 .let(M,ds,R,B,r,(f,ks,rfl,_),_):=h;rw[r.length]
  rfl
 .let(M,ds,R,B,r,(g,ks,rfl,(hf,hw,hk),qq),kk):=h;let(v1,rfl,r1):=cH r;let(ad,us,rfl,(ma,ha),v2,us,rfl,r2,ru):=r1;cases (show v2=.str (cO g) from r2);have hrN:cU 1 _:=hr.mono (by decide);refine#[_,(aJ (dE (cK JNE hrN U mNE JC.kp bNE .nil fW (az (iV (Jp hD) (dO bO (pv 0) aR (λ_ _=>rfl)) (mw (v:=.ref d) U QH U) U) aK)))
   (aX (eP (EC hr (dO (S4 hD) (mw (v:=.ref d) U QH U) (dO bO (pv 0) aR (λ_ _=>rfl)) (λ_ _=>rfl)) (az (dO bO (pv 0) aR (λ_ _=>rfl)) (az (iy vj (pv 0) (mB aR) vf) aK)))))),?_]
  have hat:iz (V.str (cO g)::us) 0=some (V.str (cO g)):=fT (j:=0) U;let(g1,t1,e1,C1,hR):=JV h1 h2 h3 h4 h5 h6 h7 hf hw hk;refine#[_,U,ad,_,0,_,U,U,cn.of ha,hat,cO g,U,U,M,[.bl true],(·=.cw),gp B,ay.one (d:=.bl true) (by rw[e1];rfl),#[U,U],λdd _ M1 H1 v B1 _=>?_];have ha1:H1 ad=some (.lst (.str (cO g)::us)):=B1.fr _ _ ha λz=>z;refine#[_,U,ad,_,0,_,U,U,cn.of ha1,hat,cO g,g1,U,U,e1,g1,_,U,C1,_,U,ad,_,0,_,U,U,cn.of ha1,hat,_,U,_,U,ad,_,U,cn.of ha1,λp hp=>?_];have hcut:nO (V.str (cO g)::us) (some 1) none=us:=by
   unfold nO;rw[show (some (1:Int))=some ((1:Nat):Int) from U,HT.p6,HT.mj,Yv,show min 1 (us.length+1)=1 by cbv,List.drop_succ_cons,ZA,Nat.add_sub_cancel,ZP]
  rw[hcut];have kp:∀ c o,H1 c=some o->upd H1 p (.lst us) c=some o:=λc o e=>by
   rw[aq (av e hp)];exact e
  have hpH:H p=none:=by
   cases e:H p with
   | none=>rfl
   | some o =>
    have e2:H1 p=some o:=B1.fr p o e λz=>z;rw[hp] at e2;cases e2
  have B2:Base #[.no,M,H] (λc=>M1 c\/c=p) (upd H1 p (.lst us)):=#[trivial,λc o e g=>kp c o (B1.fr c o e g),λc h=>by
   rcases h with h | rfl
   .let(o,e):=B1.md c h;exact#[o,kp c o e]
   .exact#[_,au],λ_ _ h=>h,λc h=>.inl (B1.m0 c h),λc h=>by
   rcases h with h | rfl
   .exact B1.mn c h
   .exact .inr (.inl hpH)]
  have ru2:ay K (upd H1 p (.lst us)) (λc=>M1 c\/c=p) (fG g ks) us:=ay.mono (λc h=>.inl (B1.m0 c h)) (λc o _ e=>kp c o (B1.fr c o e λz=>z)) _ _ ru;refine#[_,[.str (cO g),.lst (fG g ks)],(·=toD (.node g ks)),gp B2,#[_,_,U,U,ay.one #[p,us,U,#[.inr U,au],ru2]],hR _ U,λd hd M3 H3 v B3 rv=>kk _ qq M3 H3 v ?_ (hd▸rv)];exact AQ B2 B3
def Uq:aav:=λds R=>∃ (x:Str) (fs:List (Str×Str)),ds=[.str x,.tup (fs.map pairD)]/\(x.length<=8/\fs.length<=3/\∀ p∈fs,p.1.length<=8/\p.2.length<=8)/\R (.str (bp (bZ ((x::fs.flatMap λp=>[p.1,p.2]).map .w))))
theorem N7(F:Own K mg eE)(T:Txt K mg):aa1 P w K mg base eE 1 Uq:=by
 refine F.d (nos:=1) fh (λds R h=>?_) λf a9 A outer s H E M hr=>#[_,(af (sN 0 2 fh.nd (aH (aa (vd 0) ae)))
 (af (sF (bf (vd 1)) (f9 (m:=2) U (aQ (gN 3 fh.nd) (aQ (gN 4 fh.nd) fE)))
 (ai (bC (pJ YW YX cP jF (pv 2) (aa (DN.de (aH (aa (vd 3) (aa (vd 4) ae)))) ae)))))
 (ai (aP (eh ak (aa (zF (pv 2)) ae)))))),λds R h=>?_]
 .let(x,fs,rfl,_):=h
  rfl
 .let(x,fs,rfl,(hx,hl,hf),q):=h;have hsz:=aC;right;refine cj pairD (λdn s=>∃ x3 x4:Sl,(x3.pl=true/\x4.pl=true)/\s=#[[.dat (.str x),.dat (.tup (fs.map pairD)),.own 0,x3,x4],[some (.lst ((x::dn.flatMap λp=>[p.1,p.2]).map .str))]]) ?_ ?_ _ #[.no,.no,#[U,U],U]
  .rintro s ⟨x3,x4,hp,rfl⟩;let(h1,h2):=kG hf;right;refine#[?_,?_]
   .rw[Yp,Zi,Yv,h2];show _+_+_ * 1<=_;cbv
   .rw[show Txt.join _ _=_ from uO _];exact q
  .rintro dn p td s E e ⟨x3,x4,⟨h3,h4⟩,rfl⟩ hN hE;have hle:=congrArg List.length e;rw[Yl,Yv] at hle;have h2:=(kG (l:=dn) λp hp=>hf p (by rw[e];simp[hp])).2;right;refine#[?_,?_]
   .rw[Yk,Yv];show _+2<=_;cbv
   .refine hN _ #[.dat (.str p.1),.dat (.str p.2),#[U,U],?_];rw[show (x::(dn++[p]).flatMap λp=>[p.1,p.2]).map D.str=(x::dn.flatMap λp=>[p.1,p.2]).map D.str++[.str p.1,.str p.2] by simp]
    rfl
def RP:aav:=λds R=>∃ (h:Hd) (r:List D),ds=[.tup (.str h.nm::.tup (h.fs.map pairD)::r)]/\(h.nm.length<=8/\h.fs.length<=3/\∀ p∈h.fs,p.1.length<=8/\p.2.length<=8)/\R (.str (bp (bZ (h.ws.map .w))))
def S9:aav:=λds R=>∃ (h:Hd) (t:Str) (r:List D),ds=[.tup (.str h.nm::.tup (h.fs.map pairD)::.str t::r)]/\(h.nm.length<=8/\h.fs.length<=3/\∀ p∈h.fs,p.1.length<=8/\p.2.length<=8)/\t.length<=8/\R (.str (bp (bZ ((h.ws++(["to",t]:List Str)).map .w))))
theorem Nj(Sr:aa1 P w K mg base eE 1 Uq)(F:Own K mg fo)(T:Txt K mg):aa1 P w K mg base fo 2 RP:=by
 refine F.d (nos:=0) sP (λds R h=>?_) λf a9 A outer s H E M hr=>#[_,(ai (aP (aj hr Sr (aa (cb (vd 0) ah) (aa (cb (vd 0) ah) ae))))),λds R h=>?_]
 .let(h,r,rfl,_):=h
  rfl
 .let(h,r,rfl,hl,q):=h;right;exact#[hl,q]
theorem O5(Sr:aa1 P w K mg base eE 1 Uq)(F:Own K mg fi)(T:Txt K mg):aa1 P w K mg base fi 2 S9:=by
 refine F.d (nos:=0) sT (λds R h=>?_) λf a9 A outer s H E M hr=>#[_,(ai (aP (bb aA a7 (bb aA a7 (aj hr Sr (aa (cb (vd 0) ah) (aa (cb (vd 0) ah) ae))) ak) (cb (vd 0) ah)))),λds R h=>?_]
 .let(h,t,r,rfl,_):=h
  rfl
 .let(h,t,r,rfl,hl,ht,q):=h;have hsz:=aC;have h1:=Gh hl;have e4:(" to ":Str).length=4:=rfl;right;refine#[hl,?_];right;refine#[by rw[bB,e4];show (bZ (h.ws.map .w)).length+_<=_;cbv,?_];right;refine#[by rw[Y8,bB,e4];show (bZ (h.ws.map .w)).length+_+_<=_;cbv,?_];rw[<- L8 (by intro z;cases z)] at q;exact q
def Uu:aav:=λds R=>∃ rs:List (Str×Tm),ds=[.tup (rs.map eG)]/\(∀ r∈rs,Nm r.1/\vE r.2)/\R (.lst (rs.map λr=>.str (bp (bZ (ml r)))))
theorem O6(XB:aa1 P w K mg base gX 3 Vl)(F:Own K mg e9)(T:Txt K mg):aa0 P w K mg base e9 4 Uu:=by
 refine F.n (nos:=0) sG (λds R h=>?_) λf a9 A outer s H E M hr=>#[_,(ai (cX (nC ["name","term"] [] (bf (vd 0)) (λ_ _ _ _=>(f9 (m:=2) U (aQ (gM 0 ["name","term"]) (aQ (gM 1 ["name","term"]) fE)))) (λ_ _ _ _=>bh)
 (λ_ _ _ _=>(bb aA a7 (bb aA a7 (vd 0) ak) (aj hr XB (aa (vd 1) ae))))))),λds R h=>?_]
 .let(rs,rfl,_):=h
  rfl
 .let(rs,rfl,ok,q):=h;have hsz:=aC;right;refine aB eG (λr=>.str (bp (bZ (ml r)))) _ (λr hr k hk=>?_) ?_
  .let(h1,h2):=ok r hr;have h3:=oY r.2 h2.1;have h4:=h2.2.2;have h5:=bJ h1;have e3:(" : ":Str).length=3:=rfl;right;refine#[by rw[e3];cbv,?_];right;refine#[#[h2.1,by cbv],?_];right;refine#[by rw[Y8,e3,bB r.2.T];cbv,?_];rw[Mp];exact hk _ U
  .rw[YE];exact q
def QN(b:Bool):aav:=λds R=>∃ k:Kp,ds=[bX k]/\(dH k/\k.asked=b)/\R (.lst (k.rws.map λr=>.str (bp (bZ r))))
theorem rh{h:Hd}:h.c6≠[]:=by intro z;cases z
theorem yL{h:Hd}(e:h.res=none):h.ws.map .w=h.c6:=by
 unfold Hd.c6 Hd.to;rw[e,YA]
theorem to_els{h:Hd}{r:Str}(e:h.res=some r):(h.ws++(["to",r]:List Str)).map .w=h.c6:=by
 unfold Hd.c6 Hd.to;rw[e]
theorem OJ(Rv:aa1 P w K mg base fo 2 RP)(UJ:aa1 P w K mg base fi 2 S9)(UR:aa0 P w K mg base e9 4 Uu)(F:Own K mg gP)(T:Txt K mg):aa0 P w K mg base gP 5 (QN false):=by
 refine F.n (nos:=1) iB (λds R h=>?_) λf a9 A outer s H E M hr=>#[_,(af (sN 0 1 iB.nd (aH (aa (eh ak (aa (DN.de (ck bu br (DN.de (aH (aa (bb aA a7 ak (cb (vd 0) ah)) ae))) (DN.de (nC ["maker"] [] (bf (cb (vd 0) ah)) (λ_ _ _ _=>(gM 0 ["maker"])) (λ_ _ _ _=>bh)
 (λ_ _ _ _=>(aj hr Rv (aa (vd 0) ae))))))) ae)) ae)))
 (af (sF (bf (cb (vd 0) ah)) (gN 2 iB.nd)
 (ai (sE 1 (aa (eh ak (aa (DN.de (ck bu br (DN.de (aH (aa (bb aA a7 ak (aj hr UJ (aa (vd 2) ae))) ae))) (DN.de (aU hr UR (aa (cb (vd 2) ah) ae))))) ae)) ae))))
 (ai (gw (pv 1))))),λds R h=>?_]
 .let(k,rfl,_):=h
  rfl
 .let((b,nm,hs,ts),rfl,(ok,rfl),q):=h;have hsz:=aC;have e5:("made ":Str).length<=6:=by decide
  have e4:("def ":Str).length=4:=rfl;have hn:nm.length<=8:=bJ ok.nm;have hl:hs.length<=5:=ok.hl;have tl:ts.length<=5:=ok.tl;right;refine#[by show _+nm.length<=_;cbv,?_];right;refine aB kY (λh=>.str (bp (bZ h.c6))) _ (λh hh k hk=>?_) ?_
  .have o:=ok.hs h hh;have hr:h.res=none:=o.res;right;exact#[o.BK,by rw[yL hr];exact hk _ U]
  rw[YE,show ("made ":Str)++_=_ from IV nm];right;refine#[by rw[Yk];show 1+hs.length<=_;cbv,?_];have g1:(bZ [.w "made",.w nm]).length<=100000:=Yw (iH.cons (by decide) (iH.cons hn .nil)).len (by decide);refine#[_,mi [.w "made",.w nm] Hd.c6 hs,ie (by rw[Yk];cbv) g1 (λx hx=>?_) (by decide),?_]
  .let(h,hh,rfl):=YB.mp hx;exact Yw (ok.hs h hh).c6.len (by decide)
  rw[mq _ _ (by simp) (λx hx=>by let(h,hh,rfl):=List.mem_map.mp hx;exact rh),List.flatMap_map];right;refine cj kK (λdn s=>∃ x2:Sl,x2.pl=true/\s=#[[.dat (bX #[false,nm,hs,ts]),.own 0,x2],[some (.lst ((Kp.rws #[false,nm,hs,dn]).map λr=>.str (bp (bZ r))))]]) ?_ ?_ _ #[.no,U,U]
  .rintro s ⟨x2,hp,rfl⟩;right;exact q
  .rintro dn t td s E e ⟨x2,hp,rfl⟩ hN hE;have e:ts=dn++t::td:=e;have o:nN false t:=ok.ts t (by show t∈ts;rw[e];simp);have hle:=congrArg List.length e;rw[Yl,Yv] at hle;let((nm2,fs,res),rows):=t;obtain⟨r,hr,hkn⟩:∃ r,res=some r/\rY r:=o.h.res;subst hr;have rl:rows.length<=5:=o.rl;have hel:(bZ (Hd.c6 #[nm2,fs,some r])).length<=1809 * 9:=o.h.c6.len;right;refine#[o.h.BK,iD hkn,?_];rw[to_els (h:=#[nm2,fs,some r]) U];right;refine#[by rw[e4,bB (bZ _)];cbv,?_];rw[Po rh];right;refine#[λr hr=>o.rs r hr,?_];right;refine#[by rw[Yk];show 1+rows.length<=_;cbv,?_];have g2:(bZ (.w "def"::Hd.c6 #[nm2,fs,some r])).length<=100000:=Yw (iH.cons (by decide) o.h.c6).len (by decide);refine#[_,mi (.w "def"::Hd.c6 #[nm2,fs,some r]) ml rows,ie (by rw[Yk];cbv) g2 (λx hx=>?_) (by decide),?_]
   .let(r,hr,rfl):=YB.mp hx;exact Yw (pU (o.rs r hr).1 (o.rs r hr).2).len (by decide)
   rw[mq _ _ (by simp) (λx hx=>by let(r,hr,rfl):=List.mem_map.mp hx;intro z;cases z),List.flatMap_map];right;refine#[by rw[List.length_map,show (Kp.rws #[false,nm,hs,dn]).length=dn.length+1 by simp[Kp.rws]];cbv,?_];refine hN _ #[.dat (kK #[#[nm2,fs,some r],rows]),U,?_];unfold Kp.rws;rw[Yr,<- YT,Yr]
   rfl
theorem Mg(Rv:aa1 P w K mg base fo 2 RP)(UJ:aa1 P w K mg base fi 2 S9)(UR:aa0 P w K mg base e9 4 Uu)(F:Own K mg gf)(T:Txt K mg):aa0 P w K mg base gf 5 (QN true):=by
 refine F.n (nos:=1) g6 (λds R h=>?_) λf a9 A outer s H E M hr=>#[_,(af (sN 0 1 g6.nd (aH (aa (eh ak (aa (DN.de (ck bu br (DN.de (aH (aa (bb aA a7 ak (cb (vd 0) ah)) ae))) (DN.de (nC ["asker"] [] (bf (cb (vd 0) ah)) (λ_ _ _ _=>(gM 0 ["asker"])) (λ_ _ _ _=>bh)
 (λ_ _ _ _=>(aj hr UJ (aa (vd 0) ae))))))) ae)) ae)))
 (af (sF (bf (cb (vd 0) ah)) (gN 2 g6.nd)
 (ai (sE 1 (aa (eh ak (aa (DN.de (ck bu br (DN.de (aH (aa (bb aA a7 ak (aj hr Rv (aa (vd 2) ae))) ae))) (DN.de (aU hr UR (aa (cb (vd 2) ah) ae))))) ae)) ae))))
 (ai (gw (pv 1))))),λds R h=>?_]
 .let(k,rfl,_):=h
  rfl
 .let((b,nm,hs,ts),rfl,(ok,rfl),q):=h;have hsz:=aC;have e5:("asked ":Str).length<=6:=by decide
  have e4:("tab ":Str).length=4:=rfl;have hn:nm.length<=8:=bJ ok.nm;have hl:hs.length<=5:=ok.hl;have tl:ts.length<=5:=ok.tl;right;refine#[by show _+nm.length<=_;cbv,?_];right;refine aB kY (λh=>.str (bp (bZ h.c6))) _ (λh hh k hk=>?_) ?_
  .have o:=ok.hs h hh;let(nm2,fs,res):=h;obtain⟨r,hr,hkn⟩:∃ r,res=some r/\rY r:=o.res;subst hr;right;exact#[o.BK,iD hkn,by rw[to_els (h:=#[nm2,fs,some r]) U];exact hk _ U]
  rw[YE,show ("asked ":Str)++_=_ from Gv nm];right;refine#[by rw[Yk];show 1+hs.length<=_;cbv,?_];have g1:(bZ [.w "asked",.w nm]).length<=100000:=Yw (iH.cons (by decide) (iH.cons hn .nil)).len (by decide);refine#[_,mi [.w "asked",.w nm] Hd.c6 hs,ie (by rw[Yk];cbv) g1 (λx hx=>?_) (by decide),?_]
  .let(h,hh,rfl):=YB.mp hx;exact Yw (ok.hs h hh).c6.len (by decide)
  rw[mq _ _ (by simp) (λx hx=>by let(h,hh,rfl):=List.mem_map.mp hx;exact rh),List.flatMap_map];right;refine cj kK (λdn s=>∃ x2:Sl,x2.pl=true/\s=#[[.dat (bX #[true,nm,hs,ts]),.own 0,x2],[some (.lst ((Kp.rws #[true,nm,hs,dn]).map λr=>.str (bp (bZ r))))]]) ?_ ?_ _ #[.no,U,U]
  .rintro s ⟨x2,hp,rfl⟩;right;exact q
  .rintro dn t td s E e ⟨x2,hp,rfl⟩ hN hE;have e:ts=dn++t::td:=e;have o:nN true t:=ok.ts t (by show t∈ts;rw[e];simp);have hle:=congrArg List.length e;rw[Yl,Yv] at hle;let((nm2,fs,res),rows):=t;have hr:res=none:=o.h.res;subst hr;have rl:rows.length<=5:=o.rl;have hel:(bZ (Hd.c6 #[nm2,fs,none])).length<=1809 * 9:=o.h.c6.len;right;refine#[o.h.BK,?_];rw[yL (h:=#[nm2,fs,none]) U];right;refine#[by rw[e4,bB (bZ _)];cbv,?_];rw[Ol rh];right;refine#[λr hr=>o.rs r hr,?_];right;refine#[by rw[Yk];show 1+rows.length<=_;cbv,?_];have g2:(bZ (.w "tab"::Hd.c6 #[nm2,fs,none])).length<=100000:=Yw (iH.cons (by decide) o.h.c6).len (by decide);refine#[_,mi (.w "tab"::Hd.c6 #[nm2,fs,none]) ml rows,ie (by rw[Yk];cbv) g2 (λx hx=>?_) (by decide),?_]
   .let(r,hr,rfl):=YB.mp hx;exact Yw (pU (o.rs r hr).1 (o.rs r hr).2).len (by decide)
   rw[mq _ _ (by simp) (λx hx=>by let(r,hr,rfl):=List.mem_map.mp hx;intro z;cases z),List.flatMap_map];right;refine#[by rw[List.length_map,show (Kp.rws #[true,nm,hs,dn]).length=dn.length+1 by simp[Kp.rws]];cbv,?_];refine hN _ #[.dat (kK #[#[nm2,fs,none],rows]),U,?_];unfold Kp.rws;rw[Yr,<- YT,Yr]
   rfl
def VT:aav:=λds R=>∃ k:Kp,ds=[bX k]/\dH k/\R (.lst (k.rws.map λr=>.str (bp (bZ r))))
theorem PB(Xy:aa0 P w K mg base gP 5 (QN false))(XX:aa0 P w K mg base gf 5 (QN true))(F:Own K mg fu)(T:Txt K mg):aa1 P w K mg base fu 6 VT:=by
 refine F.d (nos:=0) pk (λds R h=>?_) λf a9 A outer s H E M hr=>#[_,(ai (aP (vt (aF aM bx (cb (vd 0) ah) ak (ax _)) (DN.de (aU hr Xy (aa (vd 0) ae))) (DN.de (aU hr XX (aa (vd 0) ae)))))),λds R h=>?_]
 .let(k,rfl,_):=h
  rfl
 .let((b,nm,hs,ts),rfl,ok,q):=h;cases b with
  | false =>
   right;exact#[#[ok,U],q]
  | true =>
   right;exact#[#[ok,U],q]
def V2:aav:=λds R=>∃ t:Tm,(t.wf=true/\t.size<=100000)/\ds=[toD t]/\R (.lst (toDs t.kids))
theorem P7(F:Own K mg fc)(T:Txt K mg):aa0 P w K mg base fc 1 V2:=by
 refine F.c λf fd F=>?_;refine LZ (nos:=0) F i5 (λds R h=>?_) λa9 A outer s H E M hr=>#[_,(af (sS 1 i5.nd (cb (vd 0) ah))
 (af (bK (aF dq okIn (vd 1) (aW (aa ak (aa ak ae))) U)
 (ai (cX (ix d5 ig U T.list (by decide+kernel) (aa (fk (vd 0) (bA ah) bD) ae))))
 aL)
 (af (bK (aF aM bx (vd 1) ak (ax _))
 (ai (cX (ix d5 ig U T.list (by decide+kernel) (aa (fk (vd 0) (bA ah) bD) ae))))
 aL)
 (af (bK (aF aM bx (vd 1) ak (ax _))
 (ai (cX (ix d5 ig U T.list (by decide+kernel) (aa (cb (vd 0) ah) ae))))
 aL)
 (af (bK (aF aM bx (vd 1) ak (ax _))
 (ai (cX (ck bu br (DN.de (aH (aa (cb (vd 0) ah) ae))) (DN.de (ix d5 ig U T.list (by decide+kernel) (aa (cb (vd 0) ah) ae))))))
 aL)
 (af (bK (aF aM bx (vd 1) ak (ax _))
 (ai (cX (ck bu br (DN.de (aH (aa (cb (vd 0) ah) ae))) (DN.de (nC ["row"] [] (bf (cb (vd 0) ah)) (λ_ _ _ _=>(gM 0 ["row"])) (λ_ _ _ _=>bh)
 (λ_ _ _ _=>(cb (vd 0) ah)))))))
 aL)
 (af (bK (aF aM bx (vd 1) ak (ax _))
 (ai (cX (nC ["row"] [] (bf (cb (vd 0) ah)) (λ_ _ _ _=>(gM 0 ["row"])) (λ_ _ _ _=>bh)
 (λ_ _ _ _=>(cb (vd 0) ah)))))
 aL)
 (ai (cX (aH ae)))))))))),λds R h=>?_]
 .let(t,_,rfl,_):=h
  rfl
 .let(t,(hw,hs),rfl,q):=h;let(f,ks):=t;let(ha,hk):=pN hw;have hl:ks.length < 100000:=YQ DM hs
  replace q:R (.lst (toDs ks)):=q
  cases f with
  | nm x =>
   cases len0 (l:=ks) (by simpa [Fm.ar] using ha);trivial;exact q
  | num x =>
   cases len0 (l:=ks) (by simpa [Fm.ar] using ha);trivial;exact q
  | op x =>
   let(a,b,rfl):=JS (l:=ks) (by simpa [Fm.ar] using ha);trivial;exact q
  | iR =>
   let(a,b,c,rfl):=Uh (l:=ks) (by simpa [Fm.ar] using ha);trivial;exact q
  | lt x =>
   let(a,b,rfl):=JS (l:=ks) (by simpa [Fm.ar] using ha);trivial;exact q
  | mk x =>
   trivial;exact q
  | ask x =>
   let(a,r,rfl):=u5 (l:=ks) (by simpa [Fm.ar] using ha);trivial;refine#[?_,q];have:=aC;have e:(toDs (a::r)).tail=toDs r:=rfl;rw[e,toDs_len];simp at hl ⊢;cbv
  | g8 x hd =>
   have HK:ks.length=hd.length+1:=(yU ha).1;let(a,r,rfl):=u5 (l:=ks) (by cbv);have hr2:(toDs r).length=hd.length:=by rw[toDs_len];simpa using HK
   trivial;refine nF (f:=nj) (λy hy k hk=>?_) #[_,_,U,U,?_,?_]
   .let(a1,a2,a3,rfl):=lJ hr2 y hy;trivial;exact hk _ U
   .have e:(List.map nj (aY hd (toDs r))).length=(toDs r).length:=by rw[lW hr2]
    have:=aC;show [toD a].length+([]++List.map nj (aY hd (toDs r))).length<=sizeLine;rw[YE,e,toDs_len];simp at hl ⊢;cbv
   .show R (.lst ([toD a]++([]++List.map nj (aY hd (toDs r)))));rw[lW hr2];exact q
  | new x hd =>
   have hr2:(toDs ks).length=hd.length:=by rw[toDs_len];exact (Jl ha).1
   trivial;refine nF (f:=nj) (λy hy k hk=>?_) ?_
   .let(a1,a2,a3,rfl):=lJ hr2 y hy;trivial;exact hk _ U
   .show R (.lst ([]++List.map nj (aY hd (toDs ks))));rw[lW hr2];exact q
def U4:aav:=λds R=>∃ t:Tm,(t.wf=true/\t.size<=100000)/\ds=[toD t]/\R (.lst (toDs t.pre))
theorem toDs_app(a b:List Tm):toDs (a++b)=toDs a++toDs b:=by rw[toDs_map,toDs_map,toDs_map,Yr]
theorem toDs_rev(a:List Tm):toDs a.reverse=(toDs a).reverse:=by rw[toDs_map,toDs_map,aai]
theorem Pu(F:Own K mg pS)(T:Txt K mg)(XZ:aa0 P w K mg base fc 1 V2):aa0 P w K mg base pS 2 U4:=by
 refine F.c λf fd F=>?_;refine LZ (nos:=2) F lV (λds R h=>?_) λa9 A outer s H E M hr=>#[_,(af (sN 0 1 lV.nd (aH ae))
 (af (sN 1 2 lV.nd (aH (aa (vd 0) ae)))
 (af (uJ PassesOwn.never (zA (pv 2))
 (af (sS 3 lV.nd (EX Zx Zy qx DZ (pv 2)))
 (af (sE 1 (aa (vd 3) ae))
 (ai (bC (pJ YW YX cP jF (pv 2) (aa (DN.de (Dz (DN.de (aU hr XZ (aa (vd 3) ae))) b6)) ae)))))))
 (ai (gw (pv 1)))))),λds R h=>?_]
 .let(t,_,rfl,_):=h
  rfl
 .let(t,(hw,hs),rfl,q):=h
  replace q:R (.lst (toDs t.pre)):=q
  trivial;refine#[λm s=>∃ (dn st:List Tm) (x:Sl),s=#[[.dat (toD t),.own 0,.own 1,x],[some (.lst (toDs dn)),some (.lst (toDs st.reverse))]]/\m=aV st/\dn++jf st=t.pre/\p5 st=true,#[_,[],[t],.no,U,U,?_,?_],?_]
  .show t.pre++[]=t.pre;simp
  .show (t.wf&&true)=true;simp[hw]
  .rintro m s ⟨dn,st,x,rfl,rfl,e,kX⟩;have hlen:dn.length+aV st=t.size:=by rw[<- p8 t,<- e,Yl,rE]
   refine#[1,toDs st.reverse,U,U,?_];cases st with
   | nil =>
    refine cq U ?_;have e':dn=t.pre:=by simpa [jf] using e
    subst e';exact#[0,_,U,U,q]
   | cons y r =>
    have hy:y.wf=true:=lP kX y Ym;have hr':p5 r=true:=vP λz hz=>lP kX z (Yo _ hz);have hsz:aV (y::r)=y.size+aV r:=rfl;have ed:toDs (y::r).reverse=toDs r.reverse++[toD y]:=by rw[ZI,toDs_app];rfl
    refine gn (by rw[ed];simp) ?_;have gW:=aC;refine#[1,_,U,U,U,_,U,toDs r.reverse,toD y,by rw[ed],U,?_];refine#[0,_,U,U,U,_,U,_,U,_,_,U,U,?_,?_]
    .rw[toDs_len];cbv
    refine#[1,_,U,U,U,_,U,y,#[hy,by cbv],U,_,U,_,U,_,_,U,U,?_,?_]
    .rw[toDs_len,List.length_reverse,List.length_reverse,toDs_len];have h1:=ki r;have h2:=ki y.kids;have h3:=size_eq y;cbv
    refine#[aV (y.kids++r),?_,dn++[y],y.kids++r,.dat (toD y),?_,U,?_,FV (Gg hy) hr']
    .rw[g9,hsz,size_eq y];cbv
    .rw[toDs_app,List.reverse_append,toDs_app,toDs_rev y.kids]
     rfl
    .rw[<- e,wa,YI];show _=dn++(y.pre++jf r);rw[IT y];simp
def Vq:aav:=λds R=>∃ t:Tm,ds=[toD t]/\R (Ms (lu t))
theorem MJ(F:Own K mg lQ)(T:Txt K mg):aa1 P w K mg base lQ 1 Vq:=by
 refine F.d (nos:=0) BC (λds R h=>?_) λf a9 A outer s H E M hr=>#[_,(af (bK (aF aM bx (cb (vd 0) ah) ak (ax _))
 (ai (aP (aW (aa ak (aa (cb (vd 0) ah) ae)))))
 aL)
 (af (bK (aF aM bx (cb (vd 0) ah) ak (ax _))
 (ai (aP (aW (aa ak (aa (cb (vd 0) ah) ae)))))
 aL)
 (ai (aP Fb)))),λds R h=>?_]
 .let(t,rfl,_):=h
  rfl
 .let((f,ks),rfl,q):=h;cases f<;>(right;exact q)
def U7:aav:=λds R=>∃ k:Kp,ds=[bX k]/\dH k/\∀ l,sO l k.uses->R (GV l)
theorem Mm(XF:aa0 P w K mg base pS 2 U4)(X9:aa1 P w K mg base lQ 1 Vq)(F:Own K mg kg)(T:Txt K mg):aa0 P w K mg base kg 3 U7:=by
 refine F.n (nos:=1) eQ (λds R h=>?_) λf a9 A outer s H E M hr=>#[_,(af (sN 0 1 eQ.nd AG)
 (af (sF (bf (cb (vd 0) ah)) (gN 2 eQ.nd)
 (ai (sF (bf (cb (vd 2) (dc (d:=.int (-1)) b6 U))) (f9 (m:=2) U (aQ (gN 3 eQ.nd) (aQ (gN 4 eQ.nd) fE)))
 (ai (sF (bf (DN.de (aU hr XF (aa (vd 4) ae)))) (gN 5 eQ.nd)
 (af (sS 6 eQ.nd (aj hr X9 (aa (vd 5) ae)))
 (ai (bK (aF Gw JN (vd 6) Fb (ax _))
 (ai (vO (kF (sY hr) (pv 1) (DE.pe (vd 6)) (DE.pe (bb cN jg (Gk (wL (sY hr) (pv 1) (DE.pe (vd 6)) (DE.pe ah) #[U,U,U,U])) ah)) U)))
 aL))))))))
 (ai (gw (pv 1))))),λds R h=>?_]
 .let(k,rfl,_):=h
  rfl
 .let((b,nm,hs,ts),rfl,ok,q):=h;have hsz:=aC;have hul:(Kp.uses #[b,nm,hs,ts]).length<=5 * (5 * 46):=ok.uses;right;refine cj kK (λdn s=>∃ (l:Cn) (x2 x3 x4 x5 x6:Sl),(x2.pl=true/\x3.pl=true/\x4.pl=true/\x5.pl=true/\x6.pl=true)/\sO l (dn.flatMap Tb.uses)/\s=#[[.dat (bX #[b,nm,hs,ts]),.own 0,x2,x3,x4,x5,x6],[some (GV l)]]) ?_ ?_ _ #[[],.no,.no,.no,.no,.no,#[U,U,U,U,U],.nil,U]
  .rintro s ⟨l,x2,x3,x4,x5,x6,hp,hl,rfl⟩;right;exact q l hl
  .rintro dn t td s E e ⟨l,x2,x3,x4,x5,x6,⟨h2,h3,h4,h5,h6⟩,hl,rfl⟩ hN hE;have e:ts=dn++t::td:=e;have o:nN b t:=ok.ts t (by show t∈ts;rw[e];simp);right;refine cj eG (λrn s=>∃ (l:Cn) (x3 x4 x5 x6:Sl),(x3.pl=true/\x4.pl=true/\x5.pl=true/\x6.pl=true)/\sO l (dn.flatMap Tb.uses++rn.flatMap zi)/\s=#[[.dat (bX #[b,nm,hs,ts]),.own 0,.dat (kK t),x3,x4,x5,x6],[some (GV l)]]) ?_ ?_ _ #[l,x3,x4,x5,x6,#[h3,h4,h5,h6],by rw[List.flatMap_nil,YA];exact hl,U]
   .rintro s ⟨l,x3,x4,x5,x6,⟨h3,h4,h5,h6⟩,hl,rfl⟩;exact hN _ #[l,_,x3,x4,x5,x6,#[U,h3,h4,h5,h6],by rw[List.flatMap_append];simpa [Tb.uses] using hl,U]
   .rintro rn r rd s E2 e2 ⟨l,x3,x4,x5,x6,⟨h3,h4,h5,h6⟩,hl,rfl⟩ hN2 hE2;have hr:=(o.rs r (by rw[e2];simp)).2;let(w1,w2):=zP r.2 hr.1;right;refine#[r.2,#[w1,by have:=hr.2.2;cbv],U,?_];rw[toDs_map];right;refine cj toD (λpn s=>∃ (l:Cn) (x5 x6:Sl),(x5.pl=true/\x6.pl=true)/\sO l (dn.flatMap Tb.uses++rn.flatMap zi++pn.filterMap lu)/\s=#[[.dat (bX #[b,nm,hs,ts]),.own 0,.dat (kK t),.dat (.str r.1),.dat (toD r.2),x5,x6],[some (GV l)]]) ?_ ?_ _ #[l,x5,x6,#[h5,h6],by rw[List.filterMap_nil,YA];exact hl,U]
    .rintro s ⟨l,x5,x6,⟨h5,h6⟩,hl,rfl⟩;exact hN2 _ #[l,_,_,x5,x6,#[U,U,h5,h6],by rw[List.flatMap_append];simpa [zi] using hl,U]
    .rintro pn p pd s E3 e3 ⟨l,x5,x6,⟨h5,h6⟩,hl,rfl⟩ hN3 hE3;right;have ef:(pn++[p]).filterMap lu=pn.filterMap lu++(lu p).toList:=by
      rw[List.filterMap_append];cases h:lu p<;>simp[h]
     cases hu:lu p with
     | none=>exact hN3 _ #[l,_,_,#[U,U],by rw[ef,hu];simpa using hl,U]
     | some u =>
      have hll:l.length<=2000:=by
       refine Yw hl.1 ?_;rw[Yl,Yl];have h1:(dn.flatMap Tb.uses).length<=5 * (5 * 46):=by
        have:=hul;rw[show Kp.uses #[b,nm,hs,ts]=ts.flatMap Tb.uses from U,e,YL,Yl] at this;cbv
       have h2:(rn.flatMap zi).length<=5 * 46:=cy (by have:=o.rl;rw[e2,List.length_append] at this;cbv) λx hx=>wV (o.rs x (by rw[e2];simp[hx])).2;have h3:(pn.filterMap lu).length<=46:=by
        refine Yw (Z4 _ _) ?_;have:=congrArg List.length e3;rw[p8,Yl] at this;have:=hr.2.2;cbv
       cbv
      right;have el:(jy (l.map λp=>eV p.1) (l.map λp=>D.int p.2) [Sum.inr (FG u.1),Sum.inr u.2]).getD (.int 0)=.int (lk l u):=u0 l u;dsimp only;rw[el];right;refine#[by rw[Yk];cbv,?_];refine hN3 _ #[bump l u,.dat (toD p),.dat (Ms (some u)),#[U,U],by rw[ef,hu,<- YI];exact hl.bump u,?_];rw[<- IP]
      rfl
def Qn(a:Bool):aav:=λds R=>∃ k:Kp,ds=[bX k]/\dH k/\R (.tup ((k.mK a).map kY))
theorem OT(F:Own K mg gU)(T:Txt K mg):aa1 P w K mg base gU 1 (Qn false):=by
 refine F.d (nos:=0) ve (λds R h=>?_) λf a9 A outer s H E M hr=>#[_,(af (bK (aF aM bx (cb (vd 0) ah) ak (ax _))
 (ai (aP (cb (vd 0) ah)))
 aL)
 (ai (aP (ia T.tuple (aa (DN.de (nC ["table"] [] (bf (cb (vd 0) ah)) (λ_ _ _ _=>(gM 0 ["table"])) (λ_ _ _ _=>bh)
 (λ_ _ _ _=>(aW (aa (OE (vd 0) ah) (aa (OE (vd 0) ah) ae)))))) ae))))),λds R h=>?_]
 .let(k,rfl,_):=h
  rfl
 .let((b,nm,hs,ts),rfl,ok,q):=h;cases b with
  | false =>
   right;exact q
  | true =>
   right;refine aB kK (λt=>kY t.h) _ (λt ht k hk=>?_) ?_
   .have o:=(ok.ts t ht).h;let((nm2,fs,res),rows):=t;have hr:res=none:=o.res;subst hr;right;exact hk _ U
   .right;rw[YE];rw[show Kp.mK #[true,nm,hs,ts] false=ts.map (·.h) from U,YF] at q;exact q
theorem MG(F:Own K mg gK)(T:Txt K mg):aa1 P w K mg base gK 1 (Qn true):=by
 refine F.d (nos:=0) vp (λds R h=>?_) λf a9 A outer s H E M hr=>#[_,(af (bK (aF aM bx (cb (vd 0) ah) ak (ax _))
 (ai (aP (cb (vd 0) ah)))
 aL)
 (ai (aP (ia T.tuple (aa (DN.de (nC ["function"] [] (bf (cb (vd 0) ah)) (λ_ _ _ _=>(gM 0 ["function"])) (λ_ _ _ _=>bh)
 (λ_ _ _ _=>(aW (aa (OE (vd 0) ah) (aa (OE (vd 0) ah) (aa (OE (vd 0) ah) ae))))))) ae))))),λds R h=>?_]
 .let(k,rfl,_):=h
  rfl
 .let((b,nm,hs,ts),rfl,ok,q):=h;cases b with
  | true =>
   right;exact q
  | false =>
   right;refine aB kK (λt=>kY t.h) _ (λt ht k hk=>?_) ?_
   .have o:=(ok.ts t ht).h;let((nm2,fs,res),rows):=t;obtain⟨r,hr,hkn⟩:∃ r,res=some r/\rY r:=o.res;subst hr;right;exact hk _ U
   .right;rw[YE];rw[show Kp.mK #[false,nm,hs,ts] true=ts.map (·.h) from U,YF] at q;exact q
def U9:aav:=λds R=>∃ k:Kp,ds=[bX k]/\dH k/\∀ l,rp l k.told->R (Om l)
theorem OF(GMI:aa1 P w K mg base gU 1 (Qn false))(XH:aa1 P w K mg base gK 1 (Qn true))(F:Own K mg kJ)(T:Txt K mg):aa0 P w K mg base kJ 2 U9:=by
 refine F.n (nos:=1) iL (λds R h=>?_) λf a9 A outer s H E M hr=>#[_,(af (sN 0 1 iL.nd AG)
 (af (sF (bf (aj hr GMI (aa (vd 0) ae))) (gN 2 iL.nd)
 (ai (vO (kF (sY hr) (pv 1) (DE.pe (aW (aa ak (aa (cb (vd 2) ah) ae)))) (DE.pe C6) U))))
 (af (sF (bf (aj hr XH (aa (vd 0) ae))) (gN 3 iL.nd)
 (ai (vO (kF (sY hr) (pv 1) (DE.pe (aW (aa ak (aa (cb (vd 3) ah) ae)))) (DE.pe C6) U))))
 (ai (gw (pv 1)))))),λds R h=>?_]
 .let(k,rfl,_):=h
  rfl
 .let(k,rfl,ok,q):=h;have hsz:=aC;have h1:=ok.told;right;refine#[ok,?_];right;refine cj kY (λdn s=>∃ (l:List (Bool×Str)) (x2:Sl),x2.pl=true/\rp l (dn.map λh=>(false,h.nm))/\s=#[[.dat (bX k),.own 0,x2,.no],[some (Om l)]]) ?_ ?_ _ #[[],.no,U,.nil,U]
  .rintro s ⟨l,x2,h2,hl,rfl⟩;right;refine#[ok,?_];right;refine cj kY (λdn s=>∃ (l:List (Bool×Str)) (x3:Sl),x3.pl=true/\rp l ((k.mK false).map (λh=>(false,h.nm))++dn.map λh=>(true,h.nm))/\s=#[[.dat (bX k),.own 0,x2,x3],[some (Om l)]]) ?_ ?_ _ #[l,.no,U,by rw[Y9,YA];exact hl,U]
   .rintro s ⟨l,x3,h3,hl,rfl⟩;right;exact q l hl
   .rintro dn h td s E e ⟨l,x3,h3,hl,rfl⟩ hN hE;right;refine#[by rw[List.length_map];have:=hl.1;have:=ok.told;unfold Kp.told at this;rw[e] at this;simp only[List.length_append,List.length_map,List.length_cons] at *;cbv,?_];refine hN _ #[Bk l (true,h.nm),.dat (kY h),U,by rw[Yr,<- YI];exact hl.put _,?_];rw[<- EA]
    rfl
  .rintro dn h td s E e ⟨l,x2,h2,hl,rfl⟩ hN hE;right;refine#[by rw[List.length_map];have:=hl.1;have:=ok.told;unfold Kp.told at this;rw[e] at this;simp only[List.length_append,List.length_map,List.length_cons] at *;cbv,?_];refine hN _ #[Bk l (false,h.nm),.dat (kY h),U,by rw[Yr];exact hl.put _,?_];rw[<- EA]
   rfl
def V9:aav:=λds R=>∃ ps:List Kp,ds=[.tup (ps.map bX)]/\kU ps/\R (.lst (ps.flatMap λk=>ps.map λo=>.tup [bX k,bX o,.int (nS k o:Nat)]))
theorem NT(XA:aa0 P w K mg base kJ 2 U9)(W6:aa0 P w K mg base kg 3 U7)(F:Own K mg fg)(T:Txt K mg):aa0 P w K mg base fg 4 V9:=by
 refine F.n (nos:=1) bY (λds R h=>?_) λf a9 A outer s H E M hr=>#[_,(af (sN 0 1 bY.nd (aH ae))
 (af (lg (ux (nZ (i:=2) bY.nd U U (ts:=["kind"]) (us:=[]) #[U,U,U,U,U,U] rfl (bf (vd 0)) (λ_ _ _ _=>(gM 0 ["kind"])) (λ_ _ _ _=>bh)
 (λ_ _ _ _=>(DN.df (aU hr XA (aa (vd 0) ae)))))))
 (af (sF (bf (vd 0)) (gN 3 bY.nd)
 (af (lg (eg (i:=4) bY.nd U (Or.inr U) (DE.pe (DN.de (aU hr W6 (aa (vd 3) ae))))))
 (ai (sF (Aa U T.zip (aa (vd 0) (aa (vd 2) ae))) (f9 (m:=2) U (aQ (gN 5 bY.nd) (aQ (gN 6 bY.nd) fE)))
 (ai (sE 1 (aa (aW (aa (vd 3) (aa (vd 5) (aa (a8 (Cz U) MH U T.sum (by decide+kernel) (aa (DN.de (nC ["use"] [4] (Hj (vd 6)) (λ_ _ _ _=>(gM 0 ["use","uses"])) (λ_ _ _ _=>bh)
 (λ_ _ _ _=>(IQ (wL (sY hr) (DE.pe (vd 1)) (DE.pe (vd 0)) (DE.pe ah) #[U,U,U,U]))))) ae)) ae)))) ae)))))))
 (ai (gw (pv 1)))))),λds R h=>?_]
 .let(ps,rfl,_):=h
  rfl
 .let(ps,rfl,(hl,ok),q):=h;have hsz:=aC;right;refine kB bX LW (λk l=>rp l k.told) ps (λk hk kk hkk=>?_) λls hls=>?_
  .right;exact#[ok k hk,λl hl=>#[_,_,U,hkk _ _ hl U]]
  rw[YE];let(z1,z2,z3):=rN bX LW hls;right;refine cj bX (λdn s=>∃ (x3 x4 x5 x6:Sl),(x3.pl=true/\x4.pl=true/\x5.pl=true/\x6.pl=true)/\s=#[[.dat (.tup (ps.map bX)),.own 0,.dat (.lst (ls.map LW)),x3,x4,x5,x6],[some (.lst (dn.flatMap λk=>ps.map λo=>.tup [bX k,bX o,.int (nS k o:Nat)]))]]) ?_ ?_ _ #[.no,.no,.no,.no,#[U,U,U,U],U]
  .rintro s ⟨x3,x4,x5,x6,hp,rfl⟩;right;exact q
  .rintro dn k td s E e ⟨x3,x4,x5,x6,⟨h3,h4,h5,h6⟩,rfl⟩ hN hE;have ok1:=ok k (by rw[e];simp);right;refine#[ok1,λl hcl=>?_];right;rw[z3];refine cj (λp:Kp×List (Bool×Str)=>.tup [bX p.1,LW p.2]) (λzn s=>∃ (x5 x6:Sl),(x5.pl=true/\x6.pl=true)/\s=#[[.dat (.tup (ps.map bX)),.own 0,.dat (.lst (ls.map LW)),.dat (bX k),.dat (GV l),x5,x6],[some (.lst ((dn.flatMap λk=>ps.map λo=>.tup [bX k,bX o,.int (nS k o:Nat)])++zn.map λp=>.tup [bX k,bX p.1,.int (nS k p.1:Nat)]))]]) ?_ ?_ _ #[x5,x6,#[h5,h6],by rw[Y9,YA];rfl]
   .rintro s ⟨x5,x6,⟨h5,h6⟩,rfl⟩;refine hN _ #[.dat (bX k),.dat (GV l),x5,x6,#[U,U,h5,h6],?_];have ez:((ps.zip ls).map λp=>D.tup [bX k,bX p.1,.int (nS k p.1:Nat)])=ps.map λo=>D.tup [bX k,bX o,.int (nS k o:Nat)]:=by
     conv=>rhs;rw[<- z1,YF]
     rfl
    rw[ez,YL];simp
   .rintro zn p zd s E2 e2 ⟨x5,x6,⟨h5,h6⟩,rfl⟩ hN2 hE2;have hsn:=z2 p (by rw[e2];simp);right;rw[YF];refine aB (λu=>N4 (eV u)) (λu=>.int (lk l u:Nat)) _ (λu hu kk hk=>?_) ?_
    .right;have el:(jy (l.map λp=>eV p.1) (l.map λp=>D.int p.2) [Sum.inr (FG u.1),Sum.inr u.2]).getD (.int 0)=.int (lk l u):=u0 l u;dsimp only;rw[el];exact hk _ U
    .rw[YE];have hc:=Gm hcl hsn;have hcc:=Cq (o:=p.1) ok1;have hle:=congrArg List.length e2;have hzl:=congrArg List.length z1;rw[Yl,Yv] at hle;rw[Yk] at hzl;have hdl:=congrArg List.length e;rw[Yl] at hdl;have LV:(dn.flatMap λk=>ps.map λo=>D.tup [bX k,bX o,.int (nS k o:Nat)]).length<=5 * 5:=cy (by cbv) λx _=>by rw[Yk];exact hl
     refine#[p.2.map λu=>lk l u,by rw[YF];rfl,by rw[hc];cbv,?_];rw[hc];right;refine#[by rw[Yl,Yk];cbv,?_];refine hN2 _ #[.dat (bX p.1),.dat (LW p.2),#[U,U],?_];rw[Yr,<- YI]
     rfl
def LN:aav:=λds R=>∃ ps:List Kp,ds=[.tup (ps.map bX)]/\kU ps/\R (.lst ((dw ps).map jz))
theorem PM(Xp:aa0 P w K mg base fg 4 V9)(F:Own K mg fV)(T:Txt K mg):aa0 P w K mg base fV 5 LN:=by
 refine F.n (nos:=1) fq (λds R h=>?_) λf a9 A outer s H E M hr=>#[_,(af (sN 0 1 fq.nd (aH ae))
 (af (sF (bf (DN.de (aU hr Xp (aa (vd 0) ae)))) (f9 (m:=3) U (aQ (gN 2 fq.nd) (aQ (gN 3 fq.nd) (aQ (gN 4 fq.nd) fE))))
 (ai (bK (DW.dt (jJ (aF wW FK (cb (vd 2) ah) (cb (vd 3) ah) (ax _)) (kA (aF mQ mE (vd 4) ah (ax _)))))
 (ai (sE 1 (aa (aW (aa (cb (vd 2) ah) (aa (cb (vd 3) ah) (aa (vd 4) ae)))) ae)))
 aL)))
 (ai (gw (pv 1))))),λds R h=>?_]
 .let(ps,rfl,_):=h
  rfl
 .let(ps,rfl,hps,q):=h;have hsz:=aC;right;refine#[hps,?_];rw[G5];right;have fC:(ny ps).length<=5 * 5:=cy hps.1 λx _=>by rw[Yk];exact hps.1
  refine cj Vk (λdn s=>∃ (x2 x3 x4:Sl),(x2.pl=true/\x3.pl=true/\x4.pl=true)/\s=#[[.dat (.tup (ps.map bX)),.own 0,x2,x3,x4],[some (.lst (((dn.filter cC).map mO).map jz))]]) ?_ ?_ _ #[.no,.no,.no,#[U,U,U],U]
  .rintro s ⟨x2,x3,x4,hp,rfl⟩;right;exact q
  .rintro dn p td s E e ⟨x2,x3,x4,⟨h2,h3,h4⟩,rfl⟩ hN hE;have hno:cC p=false->E.nx #[[.dat (.tup (ps.map bX)),.own 0,.dat (bX p.1),.dat (bX p.2),.dat (.int (nS p.1 p.2:Nat))],[some (.lst (((dn.filter cC).map mO).map jz))]]:=λh=>hN _ #[.dat (bX p.1),.dat (bX p.2),.dat (.int (nS p.1 p.2:Nat)),#[U,U,U],by rw[List.filter_append,List.filter_cons_of_neg (by rw[h];exact Bool.false_ne_true)];simp];have hyes:cC p=true->E.nx #[[.dat (.tup (ps.map bX)),.own 0,.dat (bX p.1),.dat (bX p.2),.dat (.int (nS p.1 p.2:Nat))],[some (.lst (((dn.filter cC).map mO).map jz++[jz (mO p)]))]]:=λh=>hN _ #[.dat (bX p.1),.dat (bX p.2),.dat (.int (nS p.1 p.2:Nat)),#[U,U,U],by rw[List.filter_append,List.filter_cons_of_pos h];simp];have LV:(((dn.filter cC).map mO).map jz).length<=25:=by
    rw[Yk,Yk];have:=ZN cC dn;have:=congrArg List.length e;rw[Yl] at this;cbv
   let((ka,kn,kh,kt),(oa,on,oh,ot)):=p;cases ka<;>cases oa
   .right;exact hno U
   .right;refine cx (b':=cC _) (show decide ((0:Int) < ((nS _ _:Nat):Int))=decide (0 < nS _ _) from decide_eq_decide.mpr (by cbv)) (λh=>?_) λh=>hno h;right;exact#[by cbv,hyes h]
   .right;refine cx (b':=cC _) (show decide ((0:Int) < ((nS _ _:Nat):Int))=decide (0 < nS _ _) from decide_eq_decide.mpr (by cbv)) (λh=>?_) λh=>hno h;right;exact#[by cbv,hyes h]
   .right;exact hno U
def QT:aav:=λds R=>∃ ps:List Kp,ds=[.tup (ps.map bX)]/\kU ps/\R (.lst ((dw ps).map λx=>.str (jv x)))
theorem Nx(Qo:aa0 P w K mg base fV 5 LN)(F:Own K mg fj)(T:Txt K mg):aa0 P w K mg base fj 6 QT:=by
 refine F.n (nos:=0) sL (λds R h=>?_) λf a9 A outer s H E M hr=>#[_,(ai (cX (nC ["kind","other","many"] [] (bf (DN.de (aU hr Qo (aa (vd 0) ae)))) (λ_ _ _ _=>(f9 (m:=3) U (aQ (gM 0 ["kind","other","many"]) (aQ (gM 1 ["kind","other","many"]) (aQ (gM 2 ["kind","other","many"]) fE))))) (λ_ _ _ _=>bh)
 (λ_ _ _ _=>(Eh (kj ak (kj (CC (vd 0)) (kj ak (kj (CC (vd 1)) (kj ak (kj (CC (vd 2)) JI))))))))))),λds R h=>?_]
 .let(ps,rfl,_):=h
  rfl
 .let(ps,rfl,hps,q):=h;have hsz:=aC;let(h1,h2):=fY hps;right;refine#[hps,?_];right;refine aB jz (λx=>.str (jv x)) _ (λx hx k hk=>?_) ?_
  .have o:=h2 x hx;have g1:=bJ o.a;have g2:=bJ o.b;have g3:=rC o;have g4:(eL (x.2.2:Nat)).length<=8:=jK (by cbv) (by have:=o.n;cbv);have e6:("cross ":Str).length=6:=rfl;have e1:(" ":Str).length=1:=rfl;have hlog:((x.2.2:Nat):Int).natAbs.log2 < 1920:=by
    have:=o.n;exact Nat.lt_of_le_of_lt (Nat.log2_le_self _) (by cbv)
   right;rw[empty_app]
   iterate 7 (refine#[by (try simp only[Str.length_append]);cbv,?_];right)
   refine#[hlog,?_];right;refine#[by show (_++eL _).length<=_;simp only[Str.length_append];cbv,?_];exact#[Yw g3 (by cbv),hk _ U]
  .rw[YE];exact q
def Ve:aav:=λds R=>∃ ps:List Kp,ds=[.tup (ps.map bX)]/\kU ps/\R (.str (Txt.join "\n" (qp ps)))
theorem Pt(RN:aa0 P w K mg base fj 6 QT)(XW:aa1 P w K mg base fu 6 VT)(F:Own K mg qb)(T:Txt K mg):aa1 P w K mg base qb 7 Ve:=by
 refine F.d (nos:=1) qg (λds R h=>?_) λf a9 A outer s H E M hr=>#[_,(af (sN 0 1 qg.nd (aH ae))
 (af (sF (bf (vd 0)) (gN 2 qg.nd)
 (ai (bC (pJ YW YX cP jF (pv 1) (aa (aj hr XW (aa (vd 2) ae)) ae)))))
 (ai (aP (eh ak (aa (DN.de (ck bu br (zF (pv 1)) (DN.de (aU hr RN (aa (vd 0) ae))))) ae)))))),λds R h=>?_]
 .let(ps,rfl,_):=h
  rfl
 .let(ps,rfl,hps,q):=h;have hsz:=aC;let(h1,h2):=mW hps;right;refine cj bX (λdn s=>∃ x2:Sl,x2.pl=true/\s=#[[.dat (.tup (ps.map bX)),.own 0,x2],[some (.lst ((dn.flatMap λk=>k.rws.map λr=>bp (bZ r)).map .str))]]) ?_ ?_ _ #[.no,U,U]
  .rintro s ⟨x2,_,rfl⟩;right;refine#[hps,?_];right;have e2:((ps.flatMap λk=>k.rws.map λr=>bp (bZ r)).map D.str++(dw ps).map λx=>.str (jv x))=(qp ps).map .str:=by
    unfold qp;rw[Yr,YF (l:=dw ps)]
    rfl
   have e3:=congrArg List.length e2;rw[Yl,Yk (as:=qp ps)] at e3;refine#[by cbv,?_];rw[e2];right;exact#[gq h1 (by decide) h2 (by decide),q]
  .rintro dn k td s E e ⟨x2,_,rfl⟩ hN hE;have o:=hps.2 k (by rw[e];simp);have hd:=congrArg List.length e;rw[Yl] at hd;have:=hps.1;have h4:=cy (f:=λk:Kp=>k.rws.map λr=>bp (bZ r)) (l:=dn) (n:=5) (m:=6) (by cbv) λk hk=>by
    rw[Yk];exact (hps.2 k (by rw[e];simp[hk])).rws.1
   have h5:=o.rws.1;right;refine#[o,?_];right;refine#[by rw[Yk,Yk];cbv,?_];refine hN _ #[.dat (bX k),U,?_];rw[YL,Yr (l₁:=dn.flatMap _)];simp
   rfl
def Sy:aav:=λds R=>∃ h:Hd,ds=[.lst (h.ws.map .str)]/\(Nm h.nm/\h.fs.length<=3/\∀ p∈h.fs,Nm p.1/\rY p.2)/\R (.tup [.str h.nm,.tup (h.fs.map pairD)])
theorem Mu(kq:aa1 P w K mg base cR 1 vT)(xY:aa1 P w K mg base cQ 3 FD)(Kn:aa1 P w K mg base fJ 4 Oi)(F:Own K mg gD)(T:Txt K mg):aa1 P w K mg base gD 5 Sy:=by
 refine F.d (nos:=0) o6 (λds R h=>?_) λf a9 A outer s H E M hr=>#[_,(af (bC (aj hr kq (aa (bW aM bx (bb gr NJ (fO T.len (aa (vd 0) ae)) ah) ah (ax _)) ae)))
 (af (lg (ux (nZ (i:=1) o6.nd U U (ts:=["field","kind"]) (us:=[]) #[U,U,U,U,U,U] rfl (Aa U T.zip (aa (DN.de (Ic 1 (vd 0) aR aR)) (aa (DN.de (Ic 2 (vd 0) aR aR)) ae))) (λ_ _ _ _=>(f9 (m:=2) U (aQ (gM 0 ["field","kind"]) (aQ (gM 1 ["field","kind"]) fE)))) (λ_ _ _ _=>bh)
 (λ_ _ _ _=>(aW (aa (aj hr xY (aa (vd 0) ae)) (aa (aj hr Kn (aa (vd 1) ae)) ae)))))))
 (ai (aP (aW (aa (aj hr xY (aa (ic (vd 0) ah) ae)) (aa (ia T.tuple (aa (vd 1) ae)) ae))))))),λds R h=>?_]
 .let(h,rfl,_):=h
  rfl
 .let(h,rfl,(hn,hl,hf),q):=h;have hsz:=aC;have hod:=CI h;have e1:((h.ws.map D.str).length:Int) % 2=1:=by rw[hod];cbv
  have ws1:pM ((h.ws.map D.str).drop 1)=(h.fs.map (·.1)).map .str:=by
   rw[<- Ac,<- vB]
   rfl
  have ws2:pM ((h.ws.map D.str).drop 2)=(h.fs.map (·.2)).map .str:=by
   rw[<- Af,<- vB,List.map_drop]
   rfl
  right;refine#[show (0:Int) < 2 by decide,?_];rw[e1];right;rw[ws1,ws2,zK];refine aB pairD pairD _ (λp hp k hk=>?_) ?_
  .let(g1,g2):=hf p hp;right;refine#[g1,?_];right;exact#[g2,hk _ U]
  rw[YE];right;refine#[hn,?_];right;exact q
def Mo:aav:=λds R=>∃ (h:Hd) (r:Str),ds=[.lst ((h.ws++(["to",r]:List Str)).map .str)]/\(Nm h.nm/\h.fs.length<=3/\∀ p∈h.fs,Nm p.1/\rY p.2)/\rY r/\R (.tup [.str h.nm,.tup (h.fs.map pairD),.str r])
theorem JE(kq:aa1 P w K mg base cR 1 vT)(Q9:aa1 P w K mg base gD 5 Sy)(Kn:aa1 P w K mg base fJ 4 Oi)(F:Own K mg iM)(T:Txt K mg):aa1 P w K mg base iM 6 Mo:=by
 refine F.d (nos:=0) xI (λds R h=>?_) λf a9 A outer s H E M hr=>#[_,(af (bC (aj hr kq (aa (jL (bW so mE (fO T.len (aa (vd 0) ae)) ah (ax _)) (i9 (bW aM bx (ic (vd 0) (dc (d:=.int (-2)) pO U)) ak (ax _)))) ae)))
 (ai (aP (bb kc qC (aj hr Q9 (aa (DN.de (cm (vd 0) bD (bA (dc (d:=.int (-2)) pO U)))) ae)) (aW (aa (aj hr Kn (aa (ic (vd 0) (dc (d:=.int (-1)) b6 U)) ae)) ae)))))),λds R h=>?_]
 .let(h,r,rfl,_):=h
  rfl
 .let(h,r,rfl,hh,hr,q):=h;have hsz:=aC;have hod:=CI h;have el:((h.ws++(["to",r]:List Str)).map D.str)=h.ws.map D.str++[.str "to",.str r]:=by simp
  rw[el];right;refine gn (decide_eq_true (by rw[Yl,hod];show (3:Int)<=((_+2:Nat):Int);cbv)) ?_;right;refine#[A2 _ _ _,?_];right;rw[yc];right;refine#[hh,?_];right;refine#[Bo _ _ _,?_];right;refine#[hr,?_];right;exact#[by simp,by show 3<=_;cbv,q]
def Gj(r:Str×Tm):D:=.lst [.str r.1,.str ":",lN r.2]
def WD:aav:=λds R=>∃ r:Str×Tm,ds=[Gj r]/\(Nm r.1/\r.2.gt)/\R (eG r)
def Vh:aav:=λds R=>∃ rs:List (Str×Tm),ds=[.lst (rs.map Gj)]/\(∀ r∈rs,Nm r.1/\r.2.gt)/\R (.tup (rs.map eG))
def Wq:aav:=λds R=>∃ a b:Str,ds=[.lst [.str a,.str b]]/\Nm b/\R (.str b)
theorem PZ(kq:aa1 P w K mg base cR 1 vT)(xY:aa1 P w K mg base cQ 3 FD)(FT:aa1 P w K mg base eS 4 LG)(F:Own K mg kE)(T:Txt K mg):aa1 P w K mg base kE 5 WD:=by
 refine F.d (nos:=0) yW (λds R h=>?_) λf a9 A outer s H E M hr=>#[_,(af (bC (aj hr kq (aa (jL (bW aM bx (fO T.len (aa (vd 0) ae)) ah (ax _)) (i9 (bW aM bx (ic (vd 0) ah) ak (ax _)))) ae)))
 (ai (aP (aW (aa (aj hr xY (aa (ic (vd 0) ah) ae)) (aa (aj hr FT (aa (ic (vd 0) ah) ae)) ae)))))),λds R h=>?_]
 .let(r,rfl,_):=h
  rfl
 .let(r,rfl,(h1,h2),q):=h;right;refine#[h1,?_];right;exact#[h2,q]
theorem Mz(Xn:aa1 P w K mg base kE 5 WD)(F:Own K mg iJ)(T:Txt K mg):aa1 P w K mg base iJ 6 Vh:=by
 refine F.d (nos:=0) xx (λds R h=>?_) λf a9 A outer s H E M hr=>#[_,(ai (aP (ia T.tuple (aa (DN.de (nC ["group"] [] (bf (vd 0)) (λ_ _ _ _=>(gM 0 ["group"])) (λ_ _ _ _=>bh)
 (λ_ _ _ _=>(aj hr Xn (aa (vd 0) ae))))) ae)))),λds R h=>?_]
 .let(rs,rfl,_):=h
  rfl
 .let(rs,rfl,ok,q):=h;right;refine aB Gj eG _ (λr hr k hk=>?_) ?_
  .right;exact#[ok r hr,hk _ U]
  rw[YE];right;exact q
theorem Pr(kq:aa1 P w K mg base cR 1 vT)(xY:aa1 P w K mg base cQ 3 FD)(F:Own K mg fA)(T:Txt K mg):aa1 P w K mg base fA 4 Wq:=by
 refine F.d (nos:=0) pA (λds R h=>?_) λf a9 A outer s H E M hr=>#[_,(af (bC (aj hr kq (aa (bW aM bx (fO T.len (aa (vd 0) ae)) ah (ax _)) ae)))
 (ai (aP (aj hr xY (aa (ic (vd 0) ah) ae))))),λds R h=>?_]
 .let(a,b,rfl,_):=h
  rfl
 .let(a,b,rfl,h1,q):=h;right;exact#[h1,q]
def Va:aav:=λds R=>∃ w0 x:Str,ds=[.str x]/\qj w0 x/\R (.bl (decide (w0="cross")))
def Um:aav:=λds R=>∃ as bs:List Str,ds=[.lst ((as++bs).map .str)]/\((∀ x∈as,∃ w0:Str,w0≠"cross"/\qj w0 x)/\(∀ x∈bs,qj "cross" x)/\(as++bs).length<=100)/\R (.int (as.length:Nat))
def Tw:aav:=λds R=>∃ (rs:List Str) (n:Int),ds=[.lst (rs.map .str),.lst (rs.map .str),.int n]/\rs.length<=100/\R .cw
theorem N1(F:Own K mg eW)(T:Txt K mg):aa1 P w K mg base eW 1 Va:=by
 refine F.d (nos:=0) pG (λds R h=>?_) λf a9 A outer s H E M hr=>#[_,(ai (aP (bW aM bx (ic (DN.de (As (vd 0) (aa ak ae))) ah) ak (ax _)))),λds R h=>?_]
 .let(w0,x,rfl,_):=h
  rfl
 .let(w0,x,rfl,(ws,rfl,h1,h2),q):=h;have hsz:=aC;rw[bB] at h2;have h3:=AX (cd w0::ws);have es:Txt.split (bp (bc (cd w0::ws))) " "=(cd w0::ws).map bp:=qN (by simp) h1;right;refine#[by rw[bB];cbv,by rw[es,Yk];cbv,?_];rw[es];right;have e:decide (fv (D.str (bp (cd w0)))=fv (D.str "cross"))=decide (w0="cross"):=decide_eq_decide.mpr (by rw[oP];exact#[λh=>by injection h,λh=>by rw[h]]);rw[<- e] at q;exact q
theorem Mc(X7:aa1 P w K mg base eW 1 Va)(F:Own K mg dF)(T:Txt K mg):aa1 P w K mg base dF 2 Um:=by
 refine F.d (nos:=0) eO (λds R h=>?_) λf a9 A outer s H E M hr=>#[_,(af (sF (KP U T.enumerate (aa (vd 0) ae)) (f9 (m:=2) U (aQ (gN 1 eO.nd) (aQ (gN 2 eO.nd) fE)))
 (ai (bK (b7 (aj hr X7 (aa (vd 2) ae)))
 (ai (aP (vd 1)))
 aL)))
 (ai (aP (fO T.len (aa (vd 0) ae))))),λds R h=>?_]
 .let(as,bs,rfl,_):=h
  rfl
 .let(as,bs,rfl,(ha,hb,hl),q):=h;have hsz:=aC;right;rw[enum_zip];have hz:∀ (dn:List (Str×Nat)) (x:Str×Nat) (td:List (Str×Nat)),(as++bs).zipIdx=dn++x::td->x.2=dn.length/\(as++bs)[dn.length]?=some x.1:=λdn x td e=>by
   have h:=congrArg (λl=>l[dn.length]?) e;simp only[List.getElem?_zipIdx,List.getElem?_append_right (Nat.le_refl dn.length),Nat.sub_self,List.getElem?_cons_zero] at h;let(y,h1,h2):=YK.mp h;rw[<- h2];exact#[by simp,h1]
  refine cj (λp:Str×Nat=>D.tup [.int (p.2:Nat),.str p.1]) (λdn s=>dn.length<=as.length/\∃ x1 x2:Sl,(x1.pl=true/\x2.pl=true)/\s=#[[.dat (.lst ((as++bs).map .str)),x1,x2],[]]) ?_ ?_ _ #[YO _,.no,.no,#[U,U],U]
  .rintro s ⟨hle,x1,x2,hp,rfl⟩;rw[List.length_zipIdx,Yl] at hle;right;rw[Yk,Yl,show bs.length=0 by cbv];exact q
  .rintro dn x td s E e ⟨hle,x1,x2,⟨h1,h2⟩,rfl⟩ hN hE;let(e2,e3):=hz dn x td e;by_cases kR:dn.length < as.length
   .rw[List.getElem?_append_left kR] at e3;let(w0,hw,hr):=ha x.1 (Y4 e3);right;refine#[hr,?_];rw[decide_eq_false hw];right;exact hN _ #[by rw[Yl];exact kR,_,_,#[U,U],U]
   .rw[ZT (by cbv)] at e3;right;refine#[hb x.1 (Y4 e3),?_];right;rw[e2,show dn.length=as.length by cbv];exact hE _ q
theorem Mk(F:Own K mg gY)(T:Txt K mg):aa1 P w K mg base gY 1 Tw:=by
 refine F.d (nos:=0) mZ (λds R h=>?_) λf a9 A outer s H E M hr=>#[_,(ai (sF (dN U T.range (aa (a8 (uu U) N6 U T.max PyProof.Rows.boot_max (aa (fO T.len (aa (vd 0) ae)) (aa (fO T.len (aa (vd 1) ae)) ae))) ae)) (gN 3 mZ.nd)
 (ai (bK (DW.dt (ji (aF so mE (vd 3) (fO T.len (aa (vd 0) ae)) (ax _)) (ji (aF so mE (vd 3) (fO T.len (aa (vd 1) ae)) (ax _)) (nY (aF wW FK (ic (vd 0) (vd 3)) (ic (vd 1) (vd 3)) (ax _))))))
 vZ
 aL)))),λds R h=>?_]
 .let(rs,n,rfl,_):=h
  rfl
 .let(rs,n,rfl,hl,q):=h;have hsz:=aC;have em:(if ((rs.map D.str).length:Int) > ((rs.map D.str).length:Int) then ((rs.map D.str).length:Int) else ((rs.map D.str).length:Int))=(rs.length:Nat):=by
   rw[if_neg (by cbv),Yk]
  right;rw[em];refine#[#[by cbv,by cbv],?_];rw[Int.toNat_natCast,kx];refine cj (λi:Nat=>D.int (i:Int)) (λdn s=>∃ x3:Sl,x3.pl=true/\s=#[[.dat (.lst (rs.map .str)),.dat (.lst (rs.map .str)),.dat (.int n),x3],[]]) ?_ ?_ _ #[.no,U,U]
  .rintro s ⟨x3,hp,rfl⟩;exact q
  .rintro dn k td s E e ⟨x3,hp,rfl⟩ hN hE;have hk:k < rs.length:=List.mem_range.mp (by rw[e];simp);have hd:decide (((rs.map D.str).length:Int)<=(k:Int))=false:=decide_eq_false (by rw[Yk];cbv);have ha:iz (rs.map D.str) ((k:Nat):Int)=some (.str rs[k]):=fT (by rw[YS,YY hk];rfl);right;refine cq hd ?_;right;refine cq hd ?_;right;refine#[ha,?_];right;refine#[ha,?_];right;refine cq (by rw[decide_eq_true U];rfl) ?_;exact hN _ #[_,U,U]
def VJ:aav:=λds R=>∃ (b:Bool) (h:Hd),ds=[kY h]/\et b h/\R (.str (bp (bZ h.c6)))
theorem PR(F:Own K mg eJ)(T:Txt K mg):aa1 P w K mg base eJ 1 VJ:=by
 refine F.d (nos:=1) ee (λds R h=>?_) λf a9 A outer s H E M hr=>#[_,(af (sN 0 1 ee.nd (aH (aa (cb (vd 0) ah) ae)))
 (af (sF (bf (cb (vd 0) ah)) (f9 (m:=2) U (aQ (gN 2 ee.nd) (aQ (gN 3 ee.nd) fE)))
 (ai (bC (pJ YW YX cP jF (pv 1) (aa (DN.de (aH (aa (vd 2) (aa (vd 3) ae)))) ae)))))
 (af (bK (aF aM bx (fO T.len (aa (vd 0) ae)) ah (ax _))
 (ai (bC (pJ YW YX cP jF (pv 1) (aa (DN.de (aH (aa ak (aa (cb (vd 0) ah) ae)))) ae))))
 aL)
 (ai (aP (eh ak (aa (zF (pv 1)) ae))))))),λds R h=>?_]
 .let(b,h,rfl,_):=h
  rfl
 .let(b,h,rfl,o,q):=h;have hsz:=aC;have hl:=o.BK;have HV:=o.HV;let(nm,fs,res):=h;right;refine cj pairD (λdn s=>∃ x2 x3:Sl,(x2.pl=true/\x3.pl=true)/\s=#[[.dat (kY #[nm,fs,res]),.own 0,x2,x3],[some (.lst ((nm::dn.flatMap λp=>[p.1,p.2]).map .str))]]) ?_ ?_ _ #[.no,.no,#[U,U],U]
  .rintro s ⟨x2,x3,hp,rfl⟩;cases res with
   | none =>
    right;refine#[gq (n:=7) HV.1 (by decide) (λx hx=>Yw (HV.2 x hx) (by decide)) (by decide),?_];rw[<- yL (h:=#[nm,fs,none]) U,<- uO] at q;exact q
   | some r =>
    have ht:r.length<=8:=o.JQ.2 r (by show r∈[_,r];simp);have hw7:(nm::fs.flatMap λp=>[p.1,p.2]).length<=7:=HV.1;right;refine#[by rw[Yk];show (nm::fs.flatMap λp=>[p.1,p.2]).length+2<=_;cbv,?_];rw[show (nm::fs.flatMap λp=>[p.1,p.2]).map D.str++[D.str "to",.str r]=(Hd.ws #[nm,fs,some r]++(["to",r]:List Str)).map .str by simp[Hd.ws]];right;refine#[gq (n:=9) (by rw[Yl];show (nm::fs.flatMap λp=>[p.1,p.2]).length+2<=_;cbv) (by decide) (λx hx=>?_) (by decide),?_]
    .rcases Yz.mp hx with hx | hx
     .exact Yw (HV.2 x hx) (by decide)
     .rcases Yn.mp hx with rfl | hx
      .decide
      .rw[Yx.mp hx];cbv
    rw[<- to_els (h:=#[nm,fs,some r]) U,<- uO] at q;exact q
  .rintro dn p td s E e ⟨x2,x3,⟨h2,h3⟩,rfl⟩ hN hE;have e:fs=dn++p::td:=e;have hle:=congrArg List.length e;rw[Yl,Yv] at hle;have h4:=(kG (l:=dn) λp hp=>hl.2.2 p (by show p∈fs;rw[e];simp[hp])).2;have h5:fs.length<=3:=hl.2.1;right;refine#[?_,?_]
   .rw[Yk,Yv];show _+2<=_;cbv
   .refine hN _ #[.dat (.str p.1),.dat (.str p.2),#[U,U],?_];rw[show (nm::(dn++[p]).flatMap λp=>[p.1,p.2]).map D.str=(nm::dn.flatMap λp=>[p.1,p.2]).map D.str++[.str p.1,.str p.2] by simp]
    rfl
def Wj:aav:=λds R=>∃ k:Kp,ds=[bX k]/\dH k/\R (.lst (k.rws.map λr=>.str (bp (bZ r))))
theorem L7(Vw:aa1 P w K mg base eJ 1 VJ)(T1:aa1 P w K mg base eI 13 (Sq 11))(F:Own K mg fz)(T:Txt K mg):aa0 P w K mg base fz 14 Wj:=by
 refine F.n (nos:=1) bI (λds R h=>?_) λf a9 A outer s H E M hr=>#[_,(af (Hv (n:=1000) (vd 0) (f9 (m:=4) U (aQ (gN 1 bI.nd) (aQ (gN 2 bI.nd) (aQ (gN 3 bI.nd) (aQ (gN 4 bI.nd) fE))))))
 (af (sN 0 5 bI.nd (aH (aa (eh ak (aa (DN.de (ck bu br (DN.de (aH (aa (bb aA a7 (bb aA a7 (vd 1) ak) (vd 2)) ae))) (DN.de (nC ["_law_head"] [] (bf (vd 3)) (λ_ _ _ _=>(gM 0 ["_law_head"])) (λ_ _ _ _=>bh)
 (λ_ _ _ _=>(aj hr Vw (aa (vd 0) ae))))))) ae)) ae)))
 (af (sF (bf (vd 4)) (gN 6 bI.nd)
 (af (lg (ux (nZ (i:=7) bI.nd U U (ts:=["_law_name","_law_term"]) (us:=[]) #[U,U,U,U,U,U] rfl (bf (cb (vd 6) (dc (d:=.int (-1)) b6 U))) (λ_ _ _ _=>(f9 (m:=2) U (aQ (gM 0 ["_law_name","_law_term"]) (aQ (gM 1 ["_law_name","_law_term"]) fE)))) (λ_ _ _ _=>bh)
 (λ_ _ _ _=>(eh ak (aa (DN.de (aH (aa ak (aa (vd 0) (aa ak (aa (aj hr T1 (aa (vd 1) ae)) ae)))))) ae))))))
 (ai (sE 5 (aa (bb aA a7 (bb aA a7 (ic (DN.de (aH (aa ak (aa ak ae)))) (er iw qM U T.int (by decide+kernel) (aa (bW aM bx (vd 1) ak (ax _)) ae))) (aj hr Vw (aa (fk (vd 6) bD (bA (dc (d:=.int (-1)) b6 U))) ae))) (eh ak (aa (vd 7) ae))) ae)))))
 (ai (gw (pv 5)))))),λds R h=>?_]
 .let(k,rfl,_):=h
  rfl
 .let((b,nm,hs,ts),rfl,ok,q):=h;have hsz:=aC;have hn:nm.length<=8:=bJ ok.nm;have hl:hs.length<=5:=ok.hl;have tl:ts.length<=5:=ok.tl;have LA:=wF b;have e1:(" ":Str).length=1:=rfl;right;refine#[by show (bG b).length+_<=_;cbv,?_];right;refine#[by rw[Y8];show (bG b).length+_+nm.length<=_;cbv,?_];right;refine aB kY (λh=>.str (bp (bZ h.c6))) _ (λh hh k hk=>?_) ?_
  .right;exact#[ok.hs h hh,hk _ U]
  rw[YE,show bG b++" "++nm=_ from Ci (bG b) nm];right;refine#[by rw[Yk];show 1+hs.length<=_;cbv,?_];have g1:(bZ [.w (bG b),.w nm]).length<=100000:=Yw (iH.cons LA (iH.cons hn .nil)).len (by decide);refine#[_,mi [.w (bG b),.w nm] Hd.c6 hs,ie (by rw[Yk];cbv) g1 (λx hx=>?_) (by decide),?_]
  .let(h,hh,rfl):=YB.mp hx;exact Yw (ok.hs h hh).c6.len (by decide)
  rw[mq _ _ (by simp) (λx hx=>by let(h,hh,rfl):=List.mem_map.mp hx;exact rh),List.flatMap_map];right;refine cj kK (λdn s=>∃ x6 x7:Sl,(x6.pl=true/\x7.pl=true)/\s=#[[.dat (bX #[b,nm,hs,ts]),.dat (.str (bG b)),.dat (.str nm),.dat (.tup (hs.map kY)),.dat (.tup (ts.map kK)),.own 0,x6,x7],[some (.lst ((Kp.rws #[b,nm,hs,dn]).map λr=>.str (bp (bZ r))))]]) ?_ ?_ _ #[.no,.no,#[U,U],U]
  .rintro s ⟨x6,x7,hp,rfl⟩;right;exact q
  .rintro dn t td s E e ⟨x6,x7,⟨h6,h7⟩,rfl⟩ hN hE;have e:ts=dn++t::td:=e;have o:nN b t:=ok.ts t (by show t∈ts;rw[e];simp);have hle:=congrArg List.length e;rw[Yl,Yv] at hle;have rl:t.rows.length<=5:=o.rl;have hel:(bZ t.h.c6).length<=1809 * 9:=o.h.c6.len;have htl:=o.c6 (a:=b) |>.len
   have e4:∀ a,(tabS a++" ":Str).length=4:=λa=>by cases a<;>rfl
   right;refine aB eG (λr=>.str (pb r)) _ (λr hr k hk=>?_) ?_
   .let(r1,r2):=o.rs r hr;have h3:=oY r.2 r2.1;have h4:=r2.2.2;have h5:=bJ r1;right;refine#[#[r2.1,r2.2.1,by cbv],?_];refine#[[" | ",r.1," : ",bp r.2.T],U,?_,by rw[Li];exact hk _ U];show 3+(r.1.length+(3+((bp r.2.T).length+0)))+4 * 0<=_;rw[bB r.2.T];cbv
   rw[YE];have hgo:∀ s',s'=(#[[.dat (bX #[b,nm,hs,ts]),.dat (.str (bG b)),.dat (.str nm),.dat (.tup (hs.map kY)),.dat (.tup (ts.map kK)),.own 0,.dat (kK t),.dat (.lst (t.rows.map λr=>.str (pb r)))],[some (.lst (((Kp.rws #[b,nm,hs,dn]).map λr=>.str (bp (bZ r)))++[.str (tabS b++" "++bp (bZ t.h.c6)++Txt.join "" (t.rows.map pb))]))]]:DS)->E.nx s':=λs' es=>by
    rw[tH] at es;refine hN s' #[.dat (kK t),.dat (.lst (t.rows.map λr=>.str (pb r))),#[U,U],?_];rw[es];unfold Kp.rws;rw[Yr,<- YT,Yr]
    rfl
   have hjr:((t.rows.map pb).map (·.length)).sum+(t.rows.map pb).length * ("":Str).length<=16777216:=gq (n:=5) (by rw[Yk];exact rl) (by decide) (λx hx=>by let(r,hr,rfl):=YB.mp hx;exact Yw (Dn (o.rs r hr).1 (o.rs r hr).2) (by decide)) (by decide);have htt:=congrArg Str.length (tH b t);rw[bB (bZ (t.c6 b)),Y8] at htt;have hrw:(Kp.rws #[b,nm,hs,dn]).length=dn.length+1:=by simp[Kp.rws]
   cases b <;>
   .right;rw[yZ];right;refine#[o.h,?_];right;refine#[by rw[bB (bZ t.h.c6)];show 4+_<=_;cbv,?_];right;refine#[t.rows.map pb,by rw[YF];rfl,hjr,?_];right;refine#[Yw (Nat.le_of_eq htt) (by cbv),?_];right;refine#[by rw[Yk,hrw];cbv,?_];exact hgo _ U
def Nq:aav:=λds R=>∃ (f:Fm),ds=[toD (.node f [])]/\f.w=0/\R (.lst [])
def MR:aav:=λds R=>∃ (f:Fm) (ks:List Tm),ds=[toD (.node f ks)]/\((dY f ks.length/\f.w=1)\/(f.w=0/\ks=[]))/\R (.lst (ks.map toD))
theorem Kx(h1:aa1 P w K mg base bQ 1 Sh)(h2:aa1 P w K mg base bQ 1 Nq):aa1 P w K mg base bQ 1 MR :=
 (h1.or h2).imp λf fd J=>J.imp λvs H Q E z=>by
  let(M,ds,R,B,r,(f,ks,e,hc,q),kk):=z;refine#[M,ds,R,B,r,?_,kk];rcases hc with hc | ⟨hw,rfl⟩
  .exact .inl #[f,ks,e,hc,q]
  .exact .inr #[f,e,hw,q]
theorem Lv(F:Own K mg bQ)(T:Txt K mg):aa1 P w K mg base bQ 1 Nq:=by
 refine F.d (nos:=1) du (λds R h=>?_) λf a9 A outer s H E M hr=>#[_,(af (sN 0 1 du.nd (aH ae))
 (af (sF (bf (fk (vd 0) (bA ah) bD)) (gN 2 du.nd)
 (ai (bK (DW.dt (jJ (b7 (a8 bo eA U T.sx PyProof.Rows.boot_isinstance (aa (vd 2) (aa (dc (d:=.ty "tuple") (bM (v:=.ty "tuple") U T.tuple (by decide+kernel) U) U) ae)))) (jJ (aF mQ mE (fO T.len (aa (vd 2) ae)) ah (ax _)) (kA (b7 (a8 bo eA U T.sx PyProof.Rows.boot_isinstance (aa (cb (vd 2) ah) (aa (dc (d:=.ty "str") (bM (v:=.ty "str") U T.str (by decide+kernel) U) U) ae))))))))
 (ai (sE 1 (aa (vd 2) ae)))
 (ai (bK (b7 (a8 bo eA U T.sx PyProof.Rows.boot_isinstance (aa (vd 2) (aa (dc (d:=.ty "tuple") (bM (v:=.ty "tuple") U T.tuple (by decide+kernel) U) U) ae))))
 (ai (bC (pJ YW YX cP jF (pv 1) (aa (DN.de (nC ["_law_one"] [0] (bf (vd 2)) (λ_ _ _ _=>(gM 0 ["_law_one","_law_term"])) (λ_ _ _ _=>bh)
 (λ_ _ _ _=>(ic (DN.de (aH (aa (vd 0) (aa (cb (vd 0) (dc (d:=.int (-1)) b6 U)) ae)))) (er iw qM U T.int (by decide+kernel) (aa (bW dq okIn (cb (vd 1) ah) (aW (aa ak (aa ak ae))) U) ae)))))) ae))))
 aL)))))
 (ai (aP (zF (pv 1)))))),λds R h=>?_]
 .let(f,rfl,_):=h
  rfl
 .let(f,rfl,hw,q):=h;cases f<;>first
  | exact absurd (show (1:Nat)=0 from hw) (by decide)
  | (right;exact q)
def VA:aav:=λds R=>∃ k o:Kp,ds=[bX k,bX o]/\dH k/\dH o/\R (.int (nS k o:Nat))
theorem N2(Rf:aa1 P w K mg base bQ 1 MR)(F:Own K mg fQ)(T:Txt K mg):aa1 P w K mg base fQ 2 VA:=by
 refine F.d (nos:=1) bE (λds R h=>?_) λf a9 A outer s H E M hr=>#[_,(af (Hv (n:=1000) (DN.de (nC ["_law_part"] [] (bf (fk (vd 1) (bA ah) bD)) (λ_ _ _ _=>(gM 0 ["_law_part"])) (λ_ _ _ _=>bh)
 (λ_ _ _ _=>(DN.de (nC ["_law_one"] [] (bf (vd 0)) (λ_ _ _ _=>(gM 0 ["_law_one"])) (λ_ _ _ _=>bh)
 (λ_ _ _ _=>(cb (vd 0) ah))))))) (Ke U (aQ (gN 2 bE.nd) (aQ (gN 3 bE.nd) fE))))
 (af (bK (aF aM bx (cb (vd 1) ah) ak (ax _))
 (ai (NR (Kk (i:=2) (j:=3) U bE.nd U U (by decide) U U (DA.pa (aa (vd 3) (aa (vd 2) ae))) U)))
 aL)
 (af (sN 0 4 bE.nd (aH ae))
 (af (sF (bf (cb (vd 0) ah)) (gN 5 bE.nd)
 (ai (bC (pJ YW YX cP jF (pv 4) (aa (DN.de (nC ["_law_name","_law_term"] [] (bf (cb (vd 5) (dc (d:=.int (-1)) b6 U))) (λ_ _ _ _=>(f9 (m:=2) U (aQ (gM 0 ["_law_name","_law_term"]) (aQ (gM 1 ["_law_name","_law_term"]) fE)))) (λ_ _ _ _=>bh)
 (λ_ _ _ _=>(vd 1)))) ae)))))
 (af (sS 6 bE.nd ah)
 (af (uJ PassesOwn.never (aF mQ mE (Jh (dm ff U T.len Zj (az (pv 4) aK))) ah (ax _))
 (af (sS 7 bE.nd (EX Zx Zy qx DZ (pv 4)))
 (af (sS 6 bE.nd (bb cN jg (vd 6) (er iw qM U T.int (by decide+kernel) (aa (ND (jL (bW aM bx (cb (vd 7) ah) ak (ax _)) (i9 (bW dq okIn (cb (vd 7) ah) (vd 2) U))) (i9 (jL (bW aM bx (cb (vd 7) ah) ak (ax _)) (i9 (bW dq okIn (cb (vd 7) ah) (vd 3) U))))) ae))))
 (ai (bC (pJ YW YX cP jF (pv 4) (aa (aj hr Rf (aa (vd 7) ae)) ae)))))))
 (ai (aP (vd 6))))))))),λds R h=>?_]
 .let(k,o,rfl,_):=h
  rfl
 .let(k,(b,nm,hs,ts),rfl,ok,oo,q):=h;have hsz:=aC;let(tg,tl,tz):=ok.fF;rw[B5] at q;right;refine aB kY (λh=>.str h.nm) _ (λh hh kk hk=>by right;exact hk _ U) ?_;rw[YE];right;refine aB kK (λt=>.str t.h.nm) _ (λt ht kk hk=>by right;exact hk _ U) ?_;rw[YE];right;have e1:(hs.map λh=>D.str h.nm)=(hs.map (·.nm)).map .str:=by rw[YF];rfl
  have e2:(ts.map λt=>D.str t.h.nm)=(ts.map (·.h.nm)).map .str:=by rw[YF];rfl
  have e3:(Kp.mK #[b,nm,hs,ts] b).map (·.nm)=hs.map (·.nm):=by unfold Kp.mK;rw[if_pos U]
  have e4:(Kp.mK #[b,nm,hs,ts] !b).map (·.nm)=ts.map (·.h.nm):=by
   unfold Kp.mK;rw[if_neg (show ¬ (b=!b) by cases b<;>decide),YF]
   rfl
  refine Fq #[[.dat (bX k),.dat (bX #[b,nm,hs,ts]),.dat (.lst (((Kp.mK #[b,nm,hs,ts] false).map (·.nm)).map .str)),.dat (.lst (((Kp.mK #[b,nm,hs,ts] true).map (·.nm)).map .str)),.no,.no,.no,.no],[none]] (λhb E' kk=>?_) (λhb=>?_) ?_
  .cases b with
   | false=>exact absurd (show decide (fv (D.str (bG false))=fv (D.str "asked"))=true from hb) (by decide+kernel)
   | true =>
    right;rw[e3,show (Kp.mK #[true,nm,hs,ts] false).map (·.nm)=_ from e4,<- e1,<- e2] at kk;exact kk
  .cases b with
   | true=>exact absurd (show decide (fv (D.str (bG true))=fv (D.str "asked"))=false from hb) (by decide+kernel)
   | false =>
    rw[e3,show (Kp.mK #[false,nm,hs,ts] true).map (·.nm)=_ from e4,<- e1,<- e2]
    rfl
  generalize hms:(Kp.mK #[b,nm,hs,ts] false).map (·.nm)=ms;generalize has:(Kp.mK #[b,nm,hs,ts] true).map (·.nm)=as;have tf:∀ x,x∈ms↔(false,x)∈Kp.told #[b,nm,hs,ts]:=λx=>by rw[told_false,hms]
  have tt:∀ x,x∈as↔(true,x)∈Kp.told #[b,nm,hs,ts]:=λx=>by rw[told_true,has]
  generalize Kp.told #[b,nm,hs,ts]=us at q tf tt;right;refine cj kK (λdn s=>∃ x5:Sl,x5.pl=true/\s=#[[.dat (bX k),.dat (bX #[b,nm,hs,ts]),.dat (.lst (ms.map .str)),.dat (.lst (as.map .str)),.own 0,x5,.no,.no],[some (.lst ((dn.flatMap λt=>t.rows.map (·.2)).map toD))]]) ?_ ?_ _ #[.no,U,U]
  .rintro s ⟨x5,h5,rfl⟩;right;refine#[λm s=>∃ (l:List Tm) (n:Nat) (x7:Sl),x7.pl=true/\(∀ t∈l,t.gt)/\m=aV l/\aV l<=1150/\n+lH us l=lH us k.fF/\s=#[[.dat (bX k),.dat (bX #[b,nm,hs,ts]),.dat (.lst (ms.map .str)),.dat (.lst (as.map .str)),.own 0,x5,.dat (.int (n:Nat)),x7],[some (.lst (l.map toD))]],#[_,k.fF,0,.no,U,tg,U,tz,Nat.zero_add _,U],?_];rintro m s ⟨l,n,x7,h7,hg,rfl,hsz2,hn,rfl⟩;rcases aan l with rfl | ⟨l0,t,rfl⟩
   .right;have hn:n=lH us k.fF:=hn;rw[hn];exact q
   .let(f,ks):=t;rw[List.concat_eq_append] at hg hsz2 hn ⊢;have ht:=hg (.node f ks) (by simp);rw[g9] at hsz2 ⊢;rw[vX,show lH us [Tm.node f ks]=cnt us (.node f ks) from Nat.add_zero _,CU] at hn;have hss:aV [Tm.node f ks]=aV ks+1:=Nat.add_zero _;have hl0:=oq l0;have hks:=oq ks;rw[hss] at hsz2 ⊢;rw[Yr];have nxt:∀ h:Nat,h=hit us (.node f ks)->∃ m',m' < aV l0+(aV ks+1)/\∃ (l:List Tm) (n':Nat) (x7:Sl),x7.pl=true/\(∀ t∈l,t.gt)/\m'=aV l/\aV l<=1150/\n'+lH us l=lH us k.fF/\(#[[.dat (bX k),.dat (bX #[b,nm,hs,ts]),.dat (.lst (ms.map .str)),.dat (.lst (as.map .str)),.own 0,x5,.dat (.int ((n:Int)+(h:Int))),.dat (toD (.node f ks))],[some (.lst (l0.map toD++ks.map toD))]]:DS)=#[[.dat (bX k),.dat (bX #[b,nm,hs,ts]),.dat (.lst (ms.map .str)),.dat (.lst (as.map .str)),.own 0,x5,.dat (.int (n':Nat)),x7],[some (.lst (l.map toD))]]:=λh e=>by
     refine#[aV (l0++ks),by rw[g9];cbv,l0++ks,n+h,.dat (toD (.node f ks)),U,λt hx=>?_,U,by rw[g9];cbv,by rw[vX];cbv,by rw[Yr];rfl];rcases Yz.mp hx with hx | hx
     .exact hg t (by simp[hx])
     .exact dB ht.2 t hx
    have hlen:(l0.map toD).length+(ks.map toD).length<=sizeLine:=by
     rw[Yk,Yk];cbv
    right;refine gn (decide_eq_true (by rw[Yl];show (0:Int) < ((_+1:Nat):Int);cbv)) ?_;cases f with
    | nm x =>
     obtain rfl:ks=[]:=aaa.mp ht.1.2;right;refine#[.inr #[U,U],?_];right;exact#[hlen,nxt 0 U]
    | num i =>
     obtain rfl:ks=[]:=aaa.mp ht.1.2;right;refine#[.inr #[U,U],?_];right;exact#[hlen,nxt 0 U]
    | mk c =>
     right;refine#[#[U,tL],?_];rw[show (if false=true then !lz (fv (D.str c)) ((ms.map D.str).map fv) else lz (fv (D.str c)) ((ms.map D.str).map fv))=decide (c∈ms) from Al];by_cases hc:c∈ms
     .rw[decide_eq_true hc];right;refine#[.inl #[ht.1,U],?_];right;exact#[hlen,nxt 1 (by show 1=if (false,c)∈us then 1 else 0;rw[if_pos ((tf c).mp hc)])]
     .rw[decide_eq_false hc];right;refine#[.inl #[ht.1,U],?_];right;exact#[hlen,nxt 0 (by show 0=if (false,c)∈us then 1 else 0;rw[if_neg λz=>hc ((tf c).mpr z)])]
    | ask g =>
     obtain⟨k0,kr,rfl⟩:∃ k0 kr,ks=k0::kr:=List.exists_cons_of_ne_nil λz=>by
      have:=ht.1.2.1;rw[z] at this;exact absurd this (by decide)
     right;refine#[#[U,tL],?_];rw[show (if false=true then !lz (fv (D.str g)) ((as.map D.str).map fv) else lz (fv (D.str g)) ((as.map D.str).map fv))=decide (g∈as) from Al];by_cases hc:g∈as
     .rw[decide_eq_true hc];right;refine#[.inl #[ht.1,U],?_];right;exact#[hlen,nxt 1 (by show 1=if (true,g)∈us then 1 else 0;rw[if_pos ((tt g).mp hc)])]
     .rw[decide_eq_false hc];right;refine#[.inl #[ht.1,U],?_];right;exact#[hlen,nxt 0 (by show 0=if (true,g)∈us then 1 else 0;rw[if_neg λz=>hc ((tt g).mpr z)])]
    | _ =>
     right;refine#[.inl #[ht.1,U],?_];right;exact#[hlen,nxt 0 U]
  .rintro dn t td s E e ⟨x5,h5,rfl⟩ hN hE;have hle:(k.fF.length:Nat)<=25:=tl;have htm:k.fF=(dn.flatMap λt=>t.rows.map (·.2))++(t.rows.map (·.2)++td.flatMap λt=>t.rows.map (·.2)):=by
    unfold Kp.fF;rw[e,YL,Yt]
   have hll:=congrArg List.length htm;rw[Yl,Yl,Yk] at hll;right;refine aB eG (λr=>toD r.2) _ (λr hr kk hk=>by right;exact hk _ U) ?_;rw[YE];right;refine#[by rw[Yk,Yk];cbv,?_];refine hN _ #[.dat (kK t),U,?_];rw[YL,Yr];simp
   rfl
def ph(l:List (Kp×Kp)):List D:=((l.filter cC).map mO).map jz
theorem Dh{l:List (Kp×Kp)}{p:Kp×Kp}(h:cC p=true):ph (l++[p])=ph l++[jz (mO p)]:=by
 unfold ph;rw[Z2,List.filter_cons_of_pos h];simp
theorem Gb{l:List (Kp×Kp)}{p:Kp×Kp}(h:cC p=false):ph (l++[p])=ph l:=by
 unfold ph;rw[Z2,List.filter_cons_of_neg (by rw[h];exact Yy)];simp
theorem rD{k o:Kp}(h:(k.asked != o.asked)=true):decide ((0:Int) < ((nS k o:Nat):Int))=cC (k,o):=by
 unfold cC;rw[h,aah];exact decide_eq_decide.mpr (show (0:Int) < ((nS k o:Nat):Int)↔0 < nS k o by cbv)
theorem OH(U2:aa1 P w K mg base fQ 2 VA)(F:Own K mg cZ)(T:Txt K mg):aa0 P w K mg base cZ 3 LN:=by
 refine F.n (nos:=1) d8 (λds R h=>?_) λf a9 A outer s H E M hr=>#[_,(af (sN 0 1 d8.nd (aH ae))
 (af (sF (bf (vd 0)) (gN 2 d8.nd)
 (ai (sF (bf (vd 0)) (gN 3 d8.nd)
 (ai (bK (DW.dt (jJ (aF wW FK (cb (vd 2) ah) (cb (vd 3) ah) (ax _)) (kA (aF mQ mE (aj hr U2 (aa (vd 2) (aa (vd 3) ae))) ah (ax _)))))
 (ai (sE 1 (aa (aW (aa (cb (vd 2) ah) (aa (cb (vd 3) ah) (aa (aj hr U2 (aa (vd 2) (aa (vd 3) ae))) ae)))) ae)))
 aL)))))
 (ai (gw (pv 1))))),λds R h=>?_]
 .let(ps,rfl,_):=h
  rfl
 .let(ps,rfl,hps,q):=h;have hsz:=aC;right;refine cj bX (λdn s=>∃ x2 x3:Sl,(x2.pl=true/\x3.pl=true)/\s=#[[.dat (.tup (ps.map bX)),.own 0,x2,x3],[some (.lst (ph (dn.flatMap λk=>ps.map λo=>(k,o))))]]) ?_ ?_ _ #[.no,.no,#[U,U],U]
  .rintro s ⟨x2,x3,hp,rfl⟩;right;exact q
  .rintro dn k td s E e ⟨x2,x3,⟨h2,h3⟩,rfl⟩ hN hE;have ok:=hps.2 k (by rw[e];simp);have hd1:=congrArg List.length e;rw[Yl] at hd1;have hp5:=hps.1;right;refine cj bX (λon s=>∃ x3:Sl,x3.pl=true/\s=#[[.dat (.tup (ps.map bX)),.own 0,.dat (bX k),x3],[some (.lst (ph ((dn.flatMap λk=>ps.map λo=>(k,o))++on.map λo=>(k,o))))]]) ?_ ?_ _ #[x3,h3,by rw[Y9,YA];rfl]
   .rintro s ⟨x3,h3,rfl⟩;exact hN _ #[.dat (bX k),x3,#[U,h3],by rw[List.flatMap_append];simp]
   .rintro on o od s E2 e2 ⟨x3,h3,rfl⟩ hN2 hE2;have oo:=hps.2 o (by rw[e2];simp);have hacc:(ph ((dn.flatMap λk=>ps.map λo=>(k,o))++on.map λo=>(k,o))).length<=30:=by
     unfold ph;rw[Yk,Yk];refine Yw (ZN _ _) ?_;rw[Yl,Yk];have h4:(dn.flatMap λk=>ps.map λo=>(k,o)).length<=5 * 5:=cy (by cbv) λx _=>by rw[Yk];exact hp5
     have:=congrArg List.length e2;rw[Yl] at this;cbv
    have hno:cC (k,o)=false->E2.nx #[[.dat (.tup (ps.map bX)),.own 0,.dat (bX k),.dat (bX o)],[some (.lst (ph ((dn.flatMap λk=>ps.map λo=>(k,o))++on.map λo=>(k,o))))]]:=λh=>hN2 _ #[.dat (bX o),U,by rw[Yr,<- YI,List.map_singleton,Gb h]];have hyes:cC (k,o)=true->E2.nx #[[.dat (.tup (ps.map bX)),.own 0,.dat (bX k),.dat (bX o)],[some (.lst (ph ((dn.flatMap λk=>ps.map λo=>(k,o))++on.map λo=>(k,o))++[jz (mO (k,o))]))]]:=λh=>hN2 _ #[.dat (bX o),U,by rw[Yr,<- YI,List.map_singleton,Dh h]];let(ka,kn,kh,kt):=k;let(oa,on',oh,ot):=o;cases ka<;>cases oa
    .right;exact hno U
    .right;refine#[ok,oo,?_];right;refine cx (rD U) (λh=>?_) λh=>hno h;right;refine#[ok,oo,?_];right;exact#[by cbv,hyes h]
    .right;refine#[ok,oo,?_];right;refine cx (rD U) (λh=>?_) λh=>hno h;right;refine#[ok,oo,?_];right;exact#[by cbv,hyes h]
    .right;exact hno U
def V7:aav:=λds R=>∃ ps:List Kp,ds=[.tup (ps.map bX)]/\kU ps/\R (.lst ((qp ps).map .str))
theorem OM(QQ:aa0 P w K mg base cZ 3 LN)(XE:aa0 P w K mg base fz 14 Wj)(F:Own K mg iP)(T:Txt K mg):aa0 P w K mg base iP 15 V7:=by
 refine F.n (nos:=1) j8 (λds R h=>?_) λf a9 A outer s H E M hr=>#[_,(af (sN 0 1 j8.nd (aH ae))
 (af (sF (bf (vd 0)) (gN 2 j8.nd)
 (ai (bC (pJ YW YX cP jF (pv 1) (aa (DN.de (aU hr XE (aa (vd 2) ae))) ae)))))
 (ai (cX (ck bu br (zF (pv 1)) (DN.de (nC ["_law_one","_law_other","_law_many"] [] (bf (DN.de (aU hr QQ (aa (vd 0) ae)))) (λ_ _ _ _=>(f9 (m:=3) U (aQ (gM 0 ["_law_one","_law_other","_law_many"]) (aQ (gM 1 ["_law_one","_law_other","_law_many"]) (aQ (gM 2 ["_law_one","_law_other","_law_many"]) fE))))) (λ_ _ _ _=>bh)
 (λ_ _ _ _=>(bb aA a7 (bb aA a7 (bb aA a7 (bb aA a7 (bb aA a7 ak (vd 0)) ak) (vd 1)) ak) (er oB yR U T.str (by decide+kernel) (aa (vd 2) ae))))))))))),λds R h=>?_]
 .let(ps,rfl,_):=h
  rfl
 .let(ps,rfl,hps,q):=h;have hsz:=aC;let(h1,h2):=mW hps;let(g1,g2):=fY hps;right;refine cj bX (λdn s=>∃ x2:Sl,x2.pl=true/\s=#[[.dat (.tup (ps.map bX)),.own 0,x2],[some (.lst ((dn.flatMap λk=>k.rws.map λr=>bp (bZ r)).map .str))]]) ?_ ?_ _ #[.no,U,U]
  .rintro s ⟨x2,_,rfl⟩;right;refine#[hps,?_];right;refine aB jz (λx=>.str (jv x)) _ (λx hx k hk=>?_) ?_
   .have o:=g2 x hx;have k1:=bJ o.a;have k2:=bJ o.b;have k4:(eL (x.2.2:Nat)).length<=8:=jK (by cbv) (by have:=o.n;cbv);have e6:("cross ":Str).length=6:=rfl;have e1:(" ":Str).length=1:=rfl;have hlog:((x.2.2:Nat):Int).natAbs.log2 < 1920:=by
     have:=o.n;exact Nat.lt_of_le_of_lt (Nat.log2_le_self _) (by cbv)
    right
    iterate 4 (refine#[by (try simp only[Str.length_append]);cbv,?_];right)
    refine#[hlog,?_];right;refine#[by show (_:Str).length+(eL _).length<=_;simp only[Str.length_append];cbv,?_];exact hk _ U
   rw[YE];have e2:((ps.flatMap λk=>k.rws.map λr=>bp (bZ r)).map D.str++(dw ps).map λx=>.str (jv x))=(qp ps).map .str:=by
    unfold qp;rw[Yr,YF (l:=dw ps)]
    rfl
   have e3:=congrArg List.length e2;rw[Yl,Yk (as:=qp ps)] at e3;right;refine#[by cbv,?_];rw[e2];exact q
  .rintro dn k td s E e ⟨x2,_,rfl⟩ hN hE;have o:=hps.2 k (by rw[e];simp);have hd:=congrArg List.length e;rw[Yl] at hd;have:=hps.1;have h4:=cy (f:=λk:Kp=>k.rws.map λr=>bp (bZ r)) (l:=dn) (n:=5) (m:=6) (by cbv) λk hk=>by
    rw[Yk];exact (hps.2 k (by rw[e];simp[hk])).rws.1
   have h5:=o.rws.1;right;refine#[o,?_];right;refine#[by rw[Yk,Yk];cbv,?_];refine hN _ #[.dat (bX k),U,?_];rw[YL,Yr (l₁:=dn.flatMap _)];simp
   rfl
theorem lB{α β:Type}{P:β->Prop}:∀ {l:List α} {ys:List β},Paired (λ_ p=>P p) l ys->ys.length=l.length/\∀ p∈ys,P p
 | _,_,.nil=>#[U,λ_ h=>(nomatch h)]
 | _,_,.cons r t=>by
  let(h1,h2):=lB t;refine#[by rw[Yv,Yv,h1],λp hp=>?_];rcases Yn.mp hp with rfl | hp
  .exact r
  .exact h2 p hp
theorem HR{ws:List Str}{x:Str}(h:∀ x∈ws,Nm x)(hx:x∈ws\/x="number"):rY x:=hx.elim (λhx=>.inl (h x hx)) .inr
def Uo(fs:List (Str×Str)):Prop:=fs.length<=3/\∀ p∈fs,Nm p.1/\rY p.2
def Wt(d:Addr):aav:=λds R=>∃ ws:List Str,ds=[.fN d,.lst (ws.map .str)]/\(ws.length=20/\∀ x∈ws,Nm x)/\∀ fs,Uo fs->R (.tup (fs.map pairD))
def U8(d:Addr):aav:=λds R=>∃ (ws:List Str) (b:Bool),ds=[.fN d,.lst (ws.map .str),.bl b]/\(ws.length=20/\∀ x∈ws,Nm x)/\∀ h,et b h->R (kY h)
theorem Ov{d l:Addr}(iW:C4 P w K mg base aD cg 1 (aO K (b4 d l) (mR d)))(yw:C4 P w K mg base aD bR 2 (aO K (b4 d l) (Ly d)))(IW:C4 P w K mg base aD cT 2 (aO K (b4 d l) (Q4 d)))(F:Own K mg d9)(T:Txt K mg):C4 P w K mg base aD d9 3 (aO K (b4 d l) (Wt d)):=by
 refine F.d (nos:=0) mU (λds R h=>?_) λf a9 A outer s H E M hr=>#[_,(ai (aP (ia T.tuple (aa (DN.de (nC ["_law_k"] [0,1] (dN U T.range (aa (aG hr iW (aa (vd 0) (aa ah ae))) ae)) (λ_ _ _ _=>(gM 0 ["_law_k","_law_deal_here","_law_words_here"])) (λ_ _ _ _=>bh)
 (λ_ _ _ _=>(aW (aa (aG hr yw (aa (vd 1) (aa (vd 2) ae))) (aa (aG hr IW (aa (vd 1) (aa (vd 2) ae))) ae)))))) ae)))),λds R h=>?_]
 .let(ws,rfl,_):=h
  rfl
 .let(ws,rfl,(nk,hw),q):=h;right;refine#[#[by decide,by decide],λc c0 c1=>?_];right;refine#[#[by cbv,by cbv],?_];rw[kx];refine kB (λi:Nat=>D.int (i:Int)) pairD (λ_ p=>Nm p.1/\rY p.2) _ (λi hi k hk=>?_) λfs hfs=>?_
  .right;refine#[#[by cbv,by cbv],λx hx=>?_];right;refine#[#[by cbv,by cbv],λy hy=>?_];exact hk (x,y) _ #[hw x hx,HR hw hy] rfl
  rw[YE];let(g1,g2):=lB hfs;rw[Zk] at g1;right;exact q fs #[by cbv,g2]
theorem Pe{d l:Addr}(yw:C4 P w K mg base aD bR 2 (aO K (b4 d l) (Ly d)))(IW:C4 P w K mg base aD cT 2 (aO K (b4 d l) (Q4 d)))(XG:C4 P w K mg base aD d9 3 (aO K (b4 d l) (Wt d)))(F:Own K mg fe)(T:Txt K mg):C4 P w K mg base aD fe 4 (aO K (b4 d l) (U8 d)):=by
 refine F.d (nos:=0) iY (λds R h=>?_) λf a9 A outer s H E M hr=>#[_,(af (sS 3 iY.nd (aW (aa (aG hr yw (aa (vd 0) (aa (vd 1) ae))) (aa (aG hr XG (aa (vd 0) (aa (vd 1) ae))) ae))))
 (af (bK (b7 (vd 2))
 (ai (aP (vd 3)))
 aL)
 (ai (aP (bb kc qC (vd 3) (aW (aa (aG hr IW (aa (vd 0) (aa (vd 1) ae))) ae))))))),λds R h=>?_]
 .let(ws,b,rfl,_):=h
  rfl
 .let(ws,b,rfl,(nk,hw),q):=h;have hsz:=aC;right;refine#[#[by cbv,by cbv],λx hx=>?_];right;refine#[#[nk,hw],λfs hfs=>?_];right;cases b with
  | true =>
   right;exact q #[x,fs,none] #[hw x hx,hfs.1,hfs.2,U]
  | false =>
   right;refine#[#[by cbv,by cbv],λy hy=>?_];right;exact#[by simp,by show 3<=_;cbv,q #[x,fs,some y] #[hw x hx,hfs.1,hfs.2,y,U,HR hw hy]]
def P4(x:Sl):Prop:=x.pl=true\/x=.own 4
theorem HD{k i:Nat}{x:Sl}{r:List Sl}(h:P4 x)(hk:k≠4):noRef k (i+1) (x::r)=noRef k i r:=by
 rcases h with h | rfl
 .exact oU h
 .show ((4 != k)&&noRef k i r)=_;rw[show (4 != k)=true by simp;exact λz=>hk z.symm]
  rfl
theorem Cv{k:Nat}{d:D}{x:Sl}(h:P4 x)(hk:k≠4):P4 (iX k d x):=by
 rcases h with h | rfl
 .exact .inl (sr h)
 .refine .inr ?_;unfold iX;simp;exact λz=>absurd z.symm hk
theorem J0{k:Nat}{d:D}{x:Sl}(h:x.pl=true):iX k d x=x:=by
 cases x with
 | no=>rfl
 | dat d=>rfl
 | own k=>cases h
theorem HY{a b:D}{r:Int}(h0:0<=r)(h1:r < 2):∃ e:Bool,iz [a,b] r=some (if e then b else a):=by
 have:r=0\/r=1:=by cbv
 rcases this with rfl | rfl
 .exact#[false,U]
 .exact#[true,U]
theorem CN{ws:List Str}{r:Int}(h0:0<=r)(h1:r < ws.length):∃ x∈ws,iz (ws.map D.str) r=some (.str x):=by
 have hl:r.toNat < ws.length:=by cbv
 refine#[ws[r.toNat],List.getElem_mem hl,?_];have:=fT (xs:=ws.map D.str) (j:=r.toNat) (v:=.str ws[r.toNat]) (by rw[YS,YY hl];rfl);rw[show ((r.toNat:Nat):Int)=r by cbv] at this;exact this
def Vy(d r:Addr):List D->D->(D->D->Prop)->Prop:=λds d0 R=>∃ (ws:List Str) (m:Nat),ds=[.fN d,.lst (ws.map .str),.fN r]/\d0=.lst [.int m]/\(ws.length=20/\(∀ x∈ws,Nm x)/\m<=24)/\∀ (ps:List Kp) (m':Nat),kU ps->R (.tup (ps.map bX)) (.lst [.int m'])
theorem NB{d l r:Addr}(iW:C4 P w K mg base aD cg 1 (aO K (gR d l r) (mR d)))(yw:C4 P w K mg base aD bR 2 (aO K (gR d l r) (Ly d)))(We:C4 P w K mg base aD fe 4 (aO K (gR d l r) (U8 d)))(Bm:C4 P w K mg base aD cS 26 (A4 K d l λr=>NY d r 11))(F:Own K mg dG)(T:Txt K mg):C4 P w K mg base aD dG 27 (xX K d l r (Vy d r)):=by
 refine F.c λf fd F=>?_;refine QY (nos:=4) 2 F aI (λds d0 R h=>?_) λa9 A outer s H E M hr=>#[_,(af (sN 1 3 aI.nd (aH ae))
 (af (sS 4 aI.nd (aG hr iW (aa (vd 0) (aa ah ae))))
 (af (sS 5 aI.nd (ic (DN.de (aH (aa ah (aa ah ae)))) (er iw qM U T.int (by decide+kernel) (aa (bW aM bx (vd 4) ah (ax _)) ae))))
 (af (sF (dN U T.range (aa (vd 4) ae)) (gN 6 aI.nd)
 (af (lg (eg (i:=7) aI.nd U (Or.inr U) (DE.pe (ic (DN.de (aH (aa ak (aa ak ae)))) (aG hr iW (aa (vd 0) (aa ah ae)))))))
 (af (lg (ux (nZ (i:=8) aI.nd U U (ts:=["_law_j"]) (us:=[0,1,7]) #[U,U,U,U,U,U] rfl (dN U T.range (aa (aG hr iW (aa (vd 0) (aa (vd 5) ae))) ae)) (λ_ _ _ _=>(gM 0 ["_law_j","_law_deal_here","_law_words_here","_law_side"])) (λ_ _ _ _=>bh)
 (λ_ _ _ _=>(aG hr We (aa (vd 1) (aa (vd 2) (aa (bW aM bx (vd 3) ak (ax _)) ae))))))))
 (af (sN 2 9 aI.nd (aH ae))
 (af (sF (dN U T.range (aa (aG hr iW (aa (vd 0) (aa (vd 5) ae))) ae)) (gN 10 aI.nd)
 (af (sN 3 11 aI.nd (aH ae))
 (af (sF (dN U T.range (aa (aG hr iW (aa (vd 0) (aa (vd 5) ae))) ae)) (gN 12 aI.nd)
 (af (sN 4 13 aI.nd (aH (aa (a8 (Bi U) NI U T.min (by decide+kernel) (aa (qU (dO bO (pv 2) (DE.pe ah) (λ_ _=>rfl))) (aa ah ae))) ae)))
 (af (pR (rT (DE.pe (bb qO jg (qU (dO bO (pv 2) (DE.pe ah) (λ_ _=>rfl))) (qU (dO bO (pv 13) (DE.pe ah) (λ_ _=>rfl))))) (vn (pv 2) (DE.pe ah) set_list)))
 (af (sE 11 (aa (aW (aa (aG hr yw (aa (vd 0) (aa (vd 1) ae))) (aa (EJ hr Bm (vd 0) (vd 1) (pv 13) ah) ae))) ae))
 (ai (pR (rT (DE.pe (bb cN jg (qU (dO bO (pv 2) (DE.pe ah) (λ_ _=>rfl))) (qU (dO bO (pv 13) (DE.pe ah) (λ_ _=>rfl))))) (vn (pv 2) (DE.pe ah) set_list))))))))
 (ai (sE 9 (aa (bb kc qC (aG hr We (aa (vd 0) (aa (vd 1) (aa (bW aM bx (vd 7) ak (ax _)) ae)))) (aW (aa (ia T.tuple (aa (zF (pv 11)) ae)) ae))) ae))))))
 (af (sS 14 aI.nd (ic (vd 1) (aG hr iW (aa (vd 0) (aa (ic (DN.de (aH (aa ah (aa (fO T.len (aa (vd 1) ae)) ae)))) (aG hr iW (aa (vd 0) (aa ah ae)))) ae)))))
 (ai (sE 3 (aa (aW (aa (vd 7) (aa (vd 14) (aa (ia T.tuple (aa (vd 8) ae)) (aa (ia T.tuple (aa (zF (pv 9)) ae)) ae))))) ae)))))))))
 (ai (fZ (ia T.tuple (aa (zF (pv 3)) ae)))))))),λds d0 R h=>?_]
 .let(ws,m,rfl,_):=h;exact#[U,U]
 .let(ws,m,rfl,rfl,(nk,hw,hm),q):=h;have hsz:=aC;right;refine#[#[by decide,by decide],λc c0 c1=>?_];obtain⟨mo,emo,mo0,mo1⟩:∃ mo:Int,iz [D.int 4,D.int 6] (if decide (fv (D.int c)=fv (D.int 1))=true then 1 else 0)=some (.int mo)/\4<=mo/\mo<=6:=by
   by_cases hc:decide (fv (D.int c)=fv (D.int 1))=true
   .exact#[6,by rw[if_pos hc];rfl,by decide,by decide]
   .exact#[4,by rw[if_neg hc];rfl,by decide,by decide]
  right;refine#[emo,?_];right;refine#[#[by cbv,by cbv],?_];rw[kx];refine cj (λi:Nat=>D.int (i:Int)) (λdn s=>∃ (ps:List Kp) (m:Nat) (x6 x7 x8 x9 BS BQ tX ua GU:Sl) (o2 o3 o4:Option D),(x6.pl=true/\x7.pl=true/\x8.pl=true/\x9.pl=true/\BS.pl=true/\BQ.pl=true/\tX.pl=true/\P4 ua/\GU.pl=true)/\m<=24/\ps.length=dn.length/\(∀ k∈ps,dH k)/\s=#[[.dat (.fN d),.dat (.lst (ws.map .str)),.own 0,.own 1,.dat (.int c),.dat (.int mo),x6,x7,x8,x9,BS,BQ,tX,ua,GU],[some (.lst [.int (m:Nat)]),some (.lst (ps.map bX)),o2,o3,o4]]) ?_ ?_ _ #[[],m,.no,.no,.no,.no,.no,.no,.no,.no,.no,none,none,none,#[U,U,U,U,U,U,U,.inl U,U],hm,U,λ_ h=>(nomatch h),U]
  .rintro s ⟨ps,m,x6,x7,x8,x9,BS,BQ,tX,ua,GU,o2,o3,o4,_,hm,fC,aN,rfl⟩;rw[Zk] at fC;right;exact q ps m #[by cbv,aN]
  .rintro dn k0 td s E e ⟨ps,m,x6,x7,x8,x9,BS,BQ,tX,ua,GU,o2,o3,o4,⟨h6,h7,h8,h9,h10,h11,h12,h13,h14⟩,hm,fC,aN,rfl⟩ hN hE;have hdl:dn.length < 6:=by
    have:=congrArg List.length e;rw[Zk,Yl,Yv] at this;cbv
   right;refine#[#[by decide,by decide],λr1 r10 r11=>?_];let(b,eb):=HY (a:=D.str "made") (b:=D.str "asked") r10 r11;have eb:iz [D.str "made",D.str "asked"] r1=some (.str (bG b)):=by rw[eb];cases b<;>rfl
   right;refine#[eb,?_];right;refine#[#[by cbv,by cbv],λc2 c20 c21=>?_];right;refine#[#[by cbv,by cbv],?_];rw[kx];refine kB (λi:Nat=>D.int (i:Int)) kY (λ_ h=>et (!b) h) _ (λi hi k hk=>?_) λhs hhs=>?_
   .right;exact#[#[nk,hw],λh hh=>hk h _ (by rw[show decide (fv (D.str (bG b))=fv (D.str "made"))=!b by cases b<;>decide+kernel] at hh;exact hh) U]
   let(hs1,BJ):=lB hhs;rw[Zk] at hs1;rw[YE];right;refine#[#[U,show noRef 2 6 [BS,BQ,tX,ua,GU]=true by rw[oU h10,oU h11,oU h12,HD h13 (by decide),oU h14];rfl],?_];right;refine#[#[by cbv,by cbv],λc3 c30 c31=>?_];right;refine#[#[by cbv,by cbv],?_];rw[kx];refine cj (λi:Nat=>D.int (i:Int)) (λtn s=>∃ (ts:List Tb) (m:Nat) (BS BQ tX ua:Sl) (o3 o4:Option D),(BS.pl=true/\BQ.pl=true/\tX.pl=true/\P4 ua)/\m<=24/\ts.length=tn.length/\(∀ t∈ts,nN b t)/\s=#[[.dat (.fN d),.dat (.lst (ws.map .str)),.own 0,.own 1,.dat (.int c),.dat (.int mo),.dat (.int (k0:Nat)),.dat (.str (bG b)),.dat (.lst (hs.map kY)),.own 2,BS,BQ,tX,ua,GU],[some (.lst [.int (m:Nat)]),some (.lst (ps.map bX)),some (.lst (ts.map kK)),o3,o4]]) ?_ ?_ _ #[[],m,BS,BQ,tX,ua,o3,o4,#[h10,h11,h12,h13],hm,U,λ_ h=>(nomatch h),U]
   .rintro s ⟨ts,m,BS,BQ,tX,ua,o3,o4,⟨h10,h11,h12,h13⟩,hm,htl,JQ,rfl⟩;rw[Zk] at htl;right;refine#[#[by decide,by decide],λr4 r40 r41=>?_];obtain⟨n4,en4,n40,n41⟩:∃ n4:Int,iz [D.int 4,D.int ((ws.map D.str).length:Nat)] r4=some (.int n4)/\4<=n4/\n4<=20:=by
     let(z,ez):=HY (a:=D.int 4) (b:=D.int ((ws.map D.str).length:Nat)) r40 r41;cases z with
     | false=>exact#[4,ez,by decide,by decide]
     | true=>exact#[_,ez,by rw[Yk,nk];decide,by rw[Yk,nk];decide]
    right;refine#[en4,?_];right;refine#[#[by cbv,by cbv],λr5 r50 r51=>?_];let(x,hx,ex):=CN (ws:=ws) r50 (by cbv);right;refine#[ex,?_];right;refine#[by rw[Yk];cbv,?_];have hok2:∀ k∈ps++[#[b,x,hs,ts]],dH k:=λk hk=>by
     rcases Yz.mp hk with hk | hk
     .exact aN k hk
     .rw[Yx.mp hk];have hsl:hs.length<=5:=by cbv
      have tsl:ts.length<=5:=by cbv
      exact#[hw x hx,hsl,BJ,tsl,JQ]
    refine hN _ #[ps++[#[b,x,hs,ts]],m,_,_,_,_,iX 2 _ BS,iX 2 _ BQ,iX 2 _ tX,iX 2 _ ua,_,none,o3,o4,#[?_,?_,?_,?_,sr h10,sr h11,sr h12,Cv h13 (by decide),?_],hm,by rw[Yl,Yl,fC];rfl,hok2,by rw[Yr];rfl]
    all_goals rfl
   .rintro tn j0 tnd s E2 e2 ⟨ts,m,BS,BQ,tX,ua,o3,o4,⟨h10,h11,h12,h13⟩,hm,htl,JQ,rfl⟩ hN2 hE2;have htd:tn.length < 6:=by
     have:=congrArg List.length e2;rw[Zk,Yl,Yv] at this;cbv
    right;refine#[#[U,show noRef 3 4 [tX,ua,GU]=true by rw[oU h12,HD h13 (by decide),oU h14];rfl],?_];right;refine#[#[by cbv,by cbv],λc4 c40 c41=>?_];right;refine#[#[by cbv,by cbv],?_];rw[kx];refine cj (λi:Nat=>D.int (i:Int)) (λan s=>∃ (rs:List (Str×Tm)) (m:Nat) (tX ua:Sl) (o4:Option D),(tX.pl=true/\P4 ua)/\m<=24/\rs.length=an.length/\(∀ r∈rs,Nm r.1/\vE r.2)/\s=#[[.dat (.fN d),.dat (.lst (ws.map .str)),.own 0,.own 1,.dat (.int c),.dat (.int mo),.dat (.int (k0:Nat)),.dat (.str (bG b)),.dat (.lst (hs.map kY)),.own 2,.dat (.int (j0:Nat)),.own 3,tX,ua,GU],[some (.lst [.int (m:Nat)]),some (.lst (ps.map bX)),some (.lst (ts.map kK)),some (.lst (rs.map eG)),o4]]) ?_ ?_ _ #[[],m,tX,ua,o4,#[h12,h13],hm,U,λ_ h=>(nomatch h),U]
    .rintro s ⟨rs,m,tX,ua,o4,⟨h12,h13⟩,hm,hrl,hro,rfl⟩;rw[Zk] at hrl;right;refine#[#[nk,hw],λh hh=>?_];have hh:et b h:=by
      rw[show decide (fv (D.str (bG b))=fv (D.str "asked"))=b by cases b<;>decide+kernel] at hh;exact hh
     have hcl:h.cells.length<=3:=by
      unfold Hd.cells Hd.tl;cases h.res<;>simp
     right;refine#[(by intro z;cases z),(by show h.cells.length+1<=sizeLine;cbv),?_];right;refine#[by rw[Yk];cbv,?_];have rsl:rs.length<=5:=by cbv
     have hto2:∀ t∈ts++[#[h,rs]],nN b t:=λt ht=>by
      rcases Yz.mp ht with ht | ht
      .exact JQ t ht
      .rw[Yx.mp ht];exact#[hh,rsl,hro]
     refine hN2 _ #[ts++[#[h,rs]],m,.dat (.int (j0:Nat)),.dat (.lst (rs.map eG)),iX 3 (.lst (rs.map eG)) tX,iX 3 (.lst (rs.map eG)) ua,none,o4,#[U,U,sr h12,Cv h13 (by decide)],hm,by rw[Yl,Yl,htl];rfl,hto2,?_];rw[Yr]
     conv=>rhs;rw[<- J0 (k:=3) (d:=.lst (rs.map eG)) h14]
     rfl
    .rintro an a0 ad s E3 e3 ⟨rs,m,tX,ua,o4,⟨h12,h13⟩,hm,hrl,hro,rfl⟩ hN3 hE3;have had:an.length < 6:=by
      have:=congrArg List.length e3;rw[Zk,Yl,Yv] at this;cbv
     obtain⟨n9,en9,n91,n92⟩:∃ n9:Nat,(if (9:Int) < (m:Nat) then (9:Int) else (m:Nat))=(n9:Nat)/\n9<=m/\n9<=9:=by
      by_cases h9:(9:Int) < (m:Nat)
      .exact#[9,by rw[if_pos h9];rfl,by cbv,by cbv]
      .exact#[m,by rw[if_neg h9],by cbv,by cbv]
     right;rw[en9];refine#[#[U,show noRef 4 2 [GU]=true by rw[oU h14];rfl],?_];right;refine#[#[by cbv,by cbv],λx hx=>?_];right;intro r';refine#[ws,0,n9,U,U,#[nk,hw,#[by decide,by decide,by decide],n92],λt m2 hg hdp hin=>?_];right;refine#[by rw[Yk];cbv,?_];right;have hro2:∀ r∈rs++[(x,t)],Nm r.1/\vE r.2:=λy hy=>by
      rcases Yz.mp hy with hy | hy
      .exact hro y hy
      .rw[Yx.mp hy];have hi9:t.g7<=9:=by cbv
       exact#[hw x hx,hg,hdp,hi9]
     have em:(m:Int) - (n9:Int)+(m2:Int)=((m - n9+m2:Nat):Int):=by cbv
     refine hN3 _ #[rs++[(x,t)],m - n9+m2,.dat (.int (a0:Nat)),.own 4,some (.lst [.int (m2:Nat)]),#[U,.inr U],by cbv,by rw[Yl,Yl,hrl];rfl,hro2,?_];rw[Yr,<- em]
     rfl
def tW(ps:List Kp):List Str:=ps.flatMap λk=>k.rws.map λr=>bp (bZ r)
def SD:aav:=λds R=>∃ ps:List Kp,ds=[.lst ((tW ps).map .str)]/\kU ps/\R (.tup (ps.map bX))
def WG:aav:=λds R=>∃ ps:List Kp,ds=[.str (Txt.join "\n" (qp ps))]/\kU ps/\R (.tup (ps.map bX))
theorem Od(XQ:aa1 P w K mg base dF 2 Um)(Xl:aa1 P w K mg base gh 12 SD)(RN:aa0 P w K mg base fj 6 QT)(XT:aa1 P w K mg base gY 1 Tw)(F:Own K mg vN)(T:Txt K mg):aa1 P w K mg base vN 13 WG:=by
 refine F.d (nos:=0) pX (λds R h=>?_) λf a9 A outer s H E M hr=>#[_,(af (sS 1 pX.nd (vt (Fl (vd 0)) (DN.de (As (vd 0) (aa ak ae))) (DN.de (aH ae))))
 (af (sS 2 pX.nd (aj hr XQ (aa (vd 1) ae)))
 (af (sS 3 pX.nd (aj hr Xl (aa (DN.de (cm (vd 1) bD (bA (vd 2)))) ae)))
 (af (bC (aj hr XT (aa (DN.de (cm (vd 1) (bA (vd 2)) bD)) (aa (DN.de (aU hr RN (aa (vd 3) ae))) (aa (vd 2) ae)))))
 (ai (aP (vd 3))))))),λds R h=>?_]
 .let(ps,rfl,_):=h
  rfl
 .let(ps,rfl,hps,q):=h;have hsz:=aC;let(h1,h2):=mW hps;have hjl:=Du h1 h2;have epr:qp ps=tW ps++(dw ps).map jv:=rfl;have hx:∀ x∈tW ps,∃ w0:Str,w0≠"cross"/\qj w0 x:=λx hx=>by
   let(k,hk,hx):=YN.mp hx;let(r,hr,rfl):=YB.mp hx;exact Ld (hps.2 k hk) r hr
  have hy:∀ x∈(dw ps).map jv,qj "cross" x:=λx hx=>by
   let(y,hy,rfl):=YB.mp hx;exact Qh ((fY hps).2 y hy)
  right;refine#[by cbv,?_];have hgo:∀ E:jb,E.rt=R->zC (vY 2 (eY Um (f7 (AI 1) lb))) (zC (vY 3 (eY SD (f7 (Gf (AI 1) JT (yk (AI 2)) Us) lb))) (zC (u7 (eY Tw (f7 (Gf (AI 1) (yk (AI 2)) JT Us) (f7 (eY QT (f7 (AI 3) lb)) (f7 (AI 2) lb))))) (Cm (AI 3)))) E #[[.dat (.str (Txt.join "\n" (qp ps))),.dat (.lst ((qp ps).map .str)),.no,.no],[]]:=λE hE=>by
   rw[epr];right;refine#[#[hx,hy,by rw[<- epr];cbv],?_];right;rw[OP];right;refine#[hps,?_];right;rw[Mj];right;refine#[hps,?_];rw[show ((dw ps).map λx=>D.str (jv x))=((dw ps).map jv).map .str by rw[YF];rfl];right;refine#[by rw[Yk];have:=(fY hps).1;cbv,?_];right;rw[hE];exact q
  cases hp:qp ps with
  | nil =>
   have hgo:=hgo { nx:=λ_=>R .cw,rt:=R } rfl;rw[hp] at hgo;exact cq (by decide+kernel) hgo
  | cons a l =>
   have hpos:=BY (l:=l) (Hl a (by rw[hp];exact Ym));have BG:=AW hps (by rw[hp];exact ZQ _ _);rw[<- hp] at hpos ⊢;refine gn (by simp;cbv) ?_;right;refine#[by cbv,by rw[BG];cbv,?_];rw[BG];exact hgo _ U
theorem ow:∀ (hs:List (Str×List Str)) (ds:List D),eF ds=true->eF (aY hs ds)=true
 | [],ds,_=>by cases ds<;>rfl
 | _::_,[],_=>rfl
 | h::hs,d::ds,e=>by
  have e:(sv d&&eF ds)=true:=e;rw[YG] at e;have hm:∀ l:List Str,eF (l.map D.str)=true:=λl=>by
   induction l with
   | nil=>rfl
   | cons a l ih=>exact ih
  show ((eF (h.2.map D.str)&&(sv d&&true))&&eF (aY hs ds))=true;rw[hm,e.1,ow hs ds e.2]
  rfl
mutual
theorem BV:∀ t:Tm,t.gt->sv (toD t)=true
 | .node f ks,h=>by
  have ih:=zS ks h.2;cases f with
  | nm x=>rfl
  | num x=>rfl
  | op x=>exact ih
  | iR=>exact ih
  | lt x=>exact ih
  | mk x =>
   show (eF (toDs ks)&&true)=true;rw[ih]
   rfl
  | ask x =>
   let(a,r,rfl):=Fe h.1.2.1;have ih:(sv (toD a)&&eF (toDs r))=true:=ih;rw[YG] at ih;show (sv (toD a)&&(eF (toDs r)&&true))=true;rw[ih.1,ih.2]
   rfl
  | g8 r hs =>
   let(a,l,rfl):=Fe (l:=ks) (by rw[h.1.2.2];cbv);have ih:(sv (toD a)&&eF (toDs l))=true:=ih;rw[YG] at ih;show (sv (toD a)&&(eF (aY hs (toDs l))&&true))=true;rw[ih.1,ow hs _ ih.2]
   rfl
  | new k hs =>
   show (eF (aY hs (toDs ks))&&true)=true;rw[ow hs _ ih]
   rfl
theorem zS:∀ ks:List Tm,kI ks->eF (toDs ks)=true
 | [],_=>rfl
 | t::r,h=>by
  show (sv (toD t)&&eF (toDs r))=true;rw[BV t h.1,zS r h.2]
  rfl
end
theorem gF{α:Type}{f:α->D}:∀ {l:List α},(∀ x∈l,sv (f x)=true)->eF (l.map f)=true
 | [],_=>rfl
 | a::l,h=>by
  show (sv (f a)&&eF (l.map f))=true;rw[h a Ym,gF λx hx=>h x (Yo _ hx)]
  rfl
theorem vW(p:Str×Str):sv (pairD p)=true/\dI (pairD p)<=1:=by
 refine#[U,?_];unfold pairD;rw[ba,aw,aw,bg,bg,bF];cbv
theorem zX(r:Str×Tm)(h:vE r.2):sv (eG r)=true/\dI (eG r)<=45:=by
 have hd:=CL r.2 (zG r.2 h.1).1;have h2:=h.2.1;refine#[?_,?_]
 .show (sv (toD r.2)&&true)=true;rw[BV r.2 h.1]
  rfl
 .unfold eG;rw[ba,aw,aw,bg,bF];cbv
theorem zR:∀ {a b:List D},eF a=true->eF b=true->eF (a++b)=true
 | [],_,_,h=>h
 | a::l,b,h,h2=>by
  have h:(sv a&&eF l)=true:=h;rw[YG] at h;show (sv a&&eF (l++b))=true;rw[h.1,zR h.2 h2]
  rfl
theorem wo{n:Nat}:∀ {a b:List D},eU a<=n->eU b<=n->eU (a++b)<=n
 | [],_,_,h=>h
 | a::l,b,h,h2=>by
  rw[aw] at h;have:=wo (a:=l) (b:=b) (n:=n) (by cbv) h2;rw[YT,aw];cbv
theorem nG(h:Hd):eF h.cells=true/\eU h.cells<=2:=by
 have h1:=gu (l:=h.fs) (f:=pairD) (n:=1) λp _=>(vW p).2;have h2:=gF (l:=h.fs) (f:=pairD) λp _=>(vW p).1;have h3:eF h.tl=true/\eU h.tl<=0:=by
  unfold Hd.tl;cases h.res with
  | none=>exact#[U,by rw[bF];cbv]
  | some r=>exact#[U,by show eU [.str r]<=0;rw[aw,bg,bF];cbv]
 refine#[?_,?_]
 .show (eF (h.fs.map pairD)&&eF h.tl)=true;rw[h2,h3.1]
  rfl
 .unfold Hd.cells;rw[aw,aw,bg,ba];cbv
theorem Eg{a:Bool}(t:Tb)(h:nN a t):sv (kK t)=true/\dI (kK t)<=47:=by
 have h1:=gu (l:=t.rows) (f:=eG) (n:=45) λr hr=>(zX r (h.rs r hr).2).2;have h2:=gF (l:=t.rows) (f:=eG) λr hr=>(zX r (h.rs r hr).2).1;let(h3,h4):=nG t.h;unfold kK;refine#[zR h3 ?_,?_]
 .show (eF (t.rows.map eG)&&true)=true;rw[h2]
  rfl
 .rw[ba];have:=wo (n:=46) (a:=t.h.cells) (b:=[.tup (t.rows.map eG)]) (by cbv) (by rw[aw,ba,bF];cbv);cbv
theorem D0(k:Kp)(h:dH k):sv (bX k)=true/\dI (bX k)<=49:=by
 have h1:=gu (l:=k.heads) (f:=kY) (n:=3) λr hr=>by unfold kY;rw[ba];have:=(nG r).2;cbv
 have h2:=gF (l:=k.heads) (f:=kY) λr hr=>(nG r).1;have h3:=gu (l:=k.tabs) (f:=kK) λr hr=>(Eg r (h.ts r hr)).2;have h4:=gF (l:=k.tabs) (f:=kK) λr hr=>(Eg r (h.ts r hr)).1;refine#[?_,?_]
 .show (eF (k.heads.map kY)&&(eF (k.tabs.map kK)&&true))=true;rw[h2,h4]
  rfl
 .unfold bX;rw[ba,aw,aw,aw,aw,bg,bg,ba,ba,bF];cbv
theorem Jy(ps:List Kp)(h:kU ps):sv (.tup (ps.map bX))=true/\dI (.tup (ps.map bX))<=50:=by
 refine#[gF λk hk=>(D0 k (h.2 k hk)).1,?_];rw[ba];have:=gu (l:=ps) λk hk=>(D0 k (h.2 k hk)).2;cbv
theorem FN(x:Str×Str×Nat):dI (jz x)<=1:=by
 unfold jz;rw[ba,aw,aw,aw,bg,bg,Az,bF];cbv
def WT:aav:=λds R=>∃ ps:List Kp,ds=[.tup (ps.map bX)]/\kU ps/\R (.bl true)
theorem Ox(XD:aa0 P w K mg base iP 15 V7)(XY:aa1 P w K mg base qb 7 Ve)(X5:aa1 P w K mg base vN 13 WG)(Qu:aa1 P w K mg base gT 52 (WO 51))(Qo:aa0 P w K mg base fV 5 LN)(QQ:aa0 P w K mg base cZ 3 LN)(F:Own K mg gI)(T:Txt K mg):aa1 P w K mg base gI 53 WT:=by
 refine F.d (nos:=1) gk (λds R h=>?_) λf a9 A outer s H E M hr=>#[_,(af (sS 1 gk.nd (eh ak (aa (DN.de (aU hr XD (aa (vd 0) ae))) ae)))
 (af (sS 2 gk.nd (aj hr XY (aa (vd 0) ae)))
 (af (bK (DW.dt (ji (lF (b7 (a8 bo eA U T.sx PyProof.Rows.boot_isinstance (aa (vd 2) (aa (dc (d:=.ty "str") (bM (v:=.ty "str") U T.str (by decide+kernel) U) U) ae))))) (ji (aF wW FK (vd 2) (vd 1) (ax _)) (nY (lF (b7 (aj hr Qu (aa (aj hr X5 (aa (vd 1) ae)) (aa (vd 0) ae)))))))))
 (ai (aP C6))
 aL)
 (af (sN 0 3 gk.nd (aU hr Qo (aa (vd 0) ae)))
 (af (bK (DW.dt (ji (lF (b7 (Kh (dm bo U T.sx PyProof.Rows.boot_isinstance (az (pv 3) (az (bM (v:=.ty "list") U T.list (by decide+kernel) U) aK)))))) (nY (lF (b7 (aj hr Qu (aa (J8 (nH la U T.tuple (by decide+kernel) (az (pv 3) aK))) (aa (ia T.tuple (aa (DN.de (aU hr QQ (aa (vd 0) ae))) ae)) ae))))))))
 (ai (aP C6))
 aL)
 (af (sE 3 (aa (aW (aa ak (aa ak (aa ah ae)))) ae))
 (ai (aP (bW (Ej (Ia hr)) PL (DN.de (aU hr Qo (aa (vd 0) ae))) (DN.de (aU hr QQ (aa (vd 0) ae))) (ax _)))))))))),λds R h=>?_]
 .let(ps,rfl,_):=h
  rfl
 .let(ps,rfl,hps,q):=h;have hsz:=aC;let(h1,h2):=mW hps;have hm:=gu (l:=dw ps) λx _=>FN x;have hc:dI (.tup ((dw ps).map jz))<=50:=by rw[ba];cbv
  have hl:dI (.lst ((dw ps).map jz))<=150:=by rw[Fo];cbv
  have hp:k6 (.lst ((dw ps).map jz))=true:=w8 (f:=jz) λx hx=>by
   have h:=(fY hps).2 x hx;show (PyData.strOk x.1&&(PyData.strOk x.2.1&&true))=true;rw[h.a.ok,h.b.ok]
   rfl
  right;refine#[hps,?_];right;refine#[gq h1 (by decide) h2 (by decide),?_];right;refine#[hps,?_];right;refine cq (by rw[decide_eq_true U];rfl) ?_;right;refine#[hps,?_];right;refine#[Jy ps hps,?_];right;refine#[hps,?_];right;refine#[hps,?_];right;refine#[#[gF λ_ _=>rfl,hc],?_];right;refine#[by rw[Yk];have:=(fY hps).1;cbv,?_];right;refine#[hps,?_];right;refine#[hps,?_];refine#[#[hp,hp,.inl hl],?_];rw[Ds];exact q
end
section
variable{P:Program}{w:World}{K:Frag}{mg:Str->Option Value}{base:Heap}
theorem uQ:ao ["_law_deal_here","_law_many","_law_number","_law_one","_law_other"] ["_law_deal_here","_law_many"] (ag qd):=dA
theorem Kl(F:Own K mg cg)(T:Txt K mg):C4 P w K mg base aD cg 1 cV.yS:=by
 refine F.c λf fd F=>?_;refine cV.Hk F uQ λa9 A outer s H E hu=>?_;exact aJ (xj PassesOwn.never (PW.pt (pw_and (iU aM (iI hu (pv 0) b8 (λ_ _=>rfl)) aR (ax _)) (pw_and1 (iU mQ (dm ff U T.len Zj (az (iI hu (pv 0) b8 (λ_ _=>rfl)) aK)) aR (ax _)))))
   (aX (kF hu (pv 0) b8 (yh YR Zx Zy qx (iI hu (pv 0) b8 (λ_ _=>rfl))) U)))
  (aJ (eg (i:=2) uQ.nd U (Or.inl U) (iI hu (pv 0) b8 (λ_ _=>rfl)))
  (aJ (k9 (iU mQ (pv 2) aR (ax _)) (aJ (kF hu (pv 0) b8 (dj vV (pv 2) (pv 1)) U) (aX (eP (dj gr (pv 2) (pv 1))))) lR)
  (aJ (eg (i:=3) uQ.nd U (Or.inl U) (dj gr (dj cN (dj lC (iI hu (pv 0) b8 (λ_ _=>rfl)) aR) aR) aR))
  (aJ (kF hu (pv 0) b8 (dj gr (dj cN (dj lC (pv 3) aR) aR) aR) U)
  (aJ (eg (i:=4) uQ.nd U (Or.inl U) (dj gr (dj lC (iI hu (pv 0) b8 (λ_ _=>rfl)) (iI hu (pv 0) b8 (λ_ _=>rfl))) aR))
  (aX (eP (dj gr (dj cN (dj lC (dj gr (dj lC (pv 3) (pv 3)) aR) aR) (pv 4)) (pv 1)))))))))
theorem qf:ao ["_law_script","_law_base","_law_some","_law_number","_law_one"] ["_law_script","_law_base"] (ag rS):=dA
theorem Wz:(["_law_one"]:List Str).Nodup:=by decide+kernel
theorem Jv(F:Own K mg iQ)(T:Txt K mg):C4 P w K mg base aD iQ 1 (cV.yt K):=by
 refine F.c λf fd F=>?_;refine cV.Ge F qf λa9 A outer s H E=>?_;exact aJ (Ad (ts:=["_law_one"]) (us:=[]) (i:=2) qf.nd U U #[U,U,U,U,U,U] rfl (lS (iy vj (pv 0) (mB (pv 1)) (mB aR))) (λ_ _ _ _=>fb (i:=0) Wz U (Or.inl U)) (λ_ _ _ _=>uW)
   (λ_ _ _ _=>dm (uu U) U T.max PyProof.Rows.boot_max (az (pv 0) (az (dj qO aR (pv 0)) aK))))
  (aJ (eg (i:=3) qf.nd U (Or.inl U) (dj cN aR (pv 1)))
  (aJ (nX PassesOwn.never U (lS (pv 2)) (fb (i:=4) qf.nd U (Or.inl U)) (aX (eg (i:=3) qf.nd U (Or.inl U) (dj gr (dj cN (dj lC (pv 3) aR) (dj gr (pv 4) aR)) aR))))
  (aX (eP (Hs (qB b8 (pv 3) (qB b8 aR (qB b8 (yz U U T.list U T.rev
   (vh (ts:=["_law_one"]) (us:=[]) #[U,U,U,U,U,U] rfl (lS (pv 2)) (λ_ _ _ _=>fb (i:=0) Wz U (Or.inl U)) (λ_ _ _ _=>GF (iU so (pv 0) (dj JD aR aR) (ax _))) (λ_ _ _ _=>pv 0))) Fn))) U U (by simp) (by decide))))))
theorem Ll(Xj:∀ d l,C4 P w K mg base aD gO 2 (aO K (b4 d l) (D9 d)))(Wh:∀ d l,C4 P w K mg base aD dG 27 (A4 K d l λr=>Vy d r))(XS:aa1 P w K mg base gI 53 WT)(GL:C4 P w K mg base aD iQ 1 (cV.yt K)){f:Addr}{fd:FuncData}(F:vk K "law" "law" ni f fd)(T:Txt K mg):bV P w K mg base aD 62 f fd ["_law_script"] (z6 K):=by
 let(fL,HE,GL,FL,mL,bL):=GL;refine F.ok rq (λvs H Q E h=>?_) (λa9 A outer s H vs Q E hr h=>?_)
 .let(a,ns,rfl,_):=h
  rfl
 .let(a,ns,rfl,hS,hlen,k):=h;have hrL:cU 1 _:=hr.mono (by decide);refine#[_,(aJ (eg (i:=1) rq.nd U (Or.inl U) (cK GL hrL U mL FL.kp bL .nil fW (az (pv 0) (az aR aK)))) (FU λd l M0 H0=>(af (sS 2 rq.nd (aG hr (Xj d l) (aa (vd 1) (aa ah ae))))
 (af (sS 3 rq.nd (wX hr (Wh d l) (vd 1) (vd 2) (aH (aa ah ae))))
 (af (sS 4 rq.nd (wX hr (Wh d l) (vd 1) (DN.de (Dz (vd 2) b6)) (aH (aa ah ae))))
 (ai (aP (a8 (gB U) Iy U T.all PyProof.Rows.boot_all (aa (DN.de (nC ["_law_program"] [] (bf (aW (aa (vd 3) (aa (vd 4) (aa (vd 3) ae))))) (λ_ _ _ _=>(gM 0 ["_law_program"])) (λ_ _ _ _=>bh)
 (λ_ _ _ _=>(aj hr XS (aa (vd 0) ae))))) ae))))))))),?_]
  refine#[_,U,a,ns,0,U,hS,hlen,by decide,by decide,λd l H1 hd hl D1 s1=>?_];refine Lh (n:=3) (nos:=0) D1 U U ?_ k;refine#[_,U,20,U,#[by decide,by decide],λws nk _ OB=>?_];refine#[_,U,_,U,λr=>?_];refine#[ws,24,U,U,#[nk,OB,by decide],λp1 m1 g1=>?_];refine#[_,U,_,U,_,U,λr=>?_];rw[<- aai];refine#[ws.reverse,8,U,U,#[by rw[List.length_reverse];exact nk,λx hx=>OB x (List.mem_reverse.mp hx),by decide],λp2 m2 g2=>?_];refine#[_,U,_,U,_,U,_,.inr U,?_];refine aB (λps:List Kp=>D.tup (ps.map bX)) (λ_=>D.bl true) [p1,p2,p1] (λt ht kk hkk=>#[_,U,t,U,?_,hkk _ U]) #[[true,true,true],U,U];have h:t=p1\/t=p2:=by
   simp only[List.mem_cons,List.not_mem_nil,or_false] at ht;rcases ht with h | h | h
   .exact .inl h
   .exact .inr h
   .exact .inl h
  rcases h with rfl | rfl
  .exact g1
  .exact g2
theorem AB:∀ (gs:List (List D)) (s:List (List D)×List D),(∀ g∈gs,∀ x∈g,eqB x=false)->(let r:=(gs.flatMap λg=>D.str "|"::g).foldl dC s;r.1++[r.2])=s.1++[s.2]++gs
 | [],s,_=>by simp
 | p::ps,s,h=>by
  rw[Yt,ZJ,aas];have e1:dC s (.str "|")=(s.1++[s.2],[]):=by
   unfold dC;rw[if_pos (by rw[d4];exact decide_eq_true U)]
  rw[e1,mD _ _ (h p Ym),AB ps _ λq hq=>h q (Yo _ hq)];simp
theorem zV{l:List D}{gs:List (List D)}(hl:∀ x∈l,eqB x=false)(hg:∀ g∈gs,∀ x∈g,eqB x=false):kW (l++gs.flatMap λg=>.str "|"::g)=l::gs:=by
 unfold kW;rw[ZJ,mD l _ hl];have:=AB gs ([],[]++l) hg;simpa using this
def Fv(x:D):Prop:=eqB x=false/\k6 x=true
theorem rm{x:Str}(h:Nm x):Fv (.str x):=#[oE h,gv h]
theorem zD{x:Str}(h:rY x):Fv (.str x):=by
 rcases h with h | rfl
 .exact rm h
 .exact#[by rw[d4];decide+kernel,by decide+kernel]
theorem Kd{t:Tm}(h:t.gt):Fv (lN t):=#[yV h,yH h]
theorem Ct{b:Bool}{h:Hd}(o:et b h):∀ x∈(h.ws++h.to).map D.str,Fv x:=λx hx=>by
 let(z,hz,rfl):=YB.mp hx;rcases Yz.mp hz with hz | hz
 .rcases Yn.mp hz with rfl | hz
  .exact rm o.nm
  .let(p,hp,hz):=YN.mp hz;have h1:=o.fs p hp;have hz:z=p.1\/z=p.2:=by simpa using hz
   rcases hz with rfl | rfl
   .exact rm h1.1
   .exact zD h1.2
 .have h1:=o.res;unfold Hd.to at hz;cases b with
  | true =>
   rw[if_pos U] at h1;rw[h1] at hz;exact nomatch hz
  | false =>
   rw[if_neg (by decide)] at h1;let(r,h1,h2):=h1;rw[h1] at hz;have hz:z="to"\/z=r:=by simpa using hz
   rcases hz with rfl | rfl
   .exact#[by rw[d4];decide+kernel,by decide+kernel]
   .exact zD h2
theorem II{b:Bool}{h:Hd}(o:et b h):(h.ws++h.to).length<=9:=by
 have h1:=o.fl;have h2:h.to.length<=2:=by unfold Hd.to;cases h.res<;>simp
 have h3:∀ l:List (Str×Str),(l.flatMap λp=>[p.1,p.2]).length=2 * l.length:=λl=>by
  induction l with
  | nil=>rfl
  | cons a l ih=>rw[List.flatMap_cons,List.length_append,ih,List.length_cons];simp only[List.length_cons,List.length_nil];cbv
 rw[Yl];show (_::_).length+_<=9;rw[Yv,h3];cbv
def rP(h:Hd):List D:=(h.ws++h.to).map .str
theorem E9(h:Hd):h.c6.map El.it=rP h:=by
 unfold Hd.c6 rP;rw[YF]
 rfl
theorem Nv(k:Kp):k.c6.map El.it=[.str (bG k.asked),.str k.nm]++(k.heads.map rP).flatMap λg=>.str "|"::g:=by
 unfold Kp.c6;rw[Yp,Yp,aak,ZD];simp only[List.map_cons,E9]
 rfl
def wQ(r:Str×Tm):List D:=[.str r.1,.str ":",lN r.2]
theorem Nz(a:Bool)(t:Tb):(t.c6 a).map El.it=(.str (tabS a)::rP t.h)++(t.rows.map wQ).flatMap λg=>.str "|"::g:=by
 unfold Tb.c6;rw[Yp,Yr,aak,ZD,E9]
 rfl
theorem yA:∀ {gs:List (List D)} {n:Nat},(∀ g∈gs,g.length<=n)->(gs.flatMap λg=>D.str "|"::g).length<=(n+1) * gs.length
 | [],n,_=>by simp
 | g::gs,n,h=>by
  have h1:=yA λx hx=>h x (Yo _ hx);have h2:=h g Ym;rw[Yt,Yl,Yv,Yv,Nat.mul_succ];cbv
theorem Ep{gs:List (List D)}{x:D}(hx:x∈gs.flatMap λg=>D.str "|"::g)(h:∀ g∈gs,∀ y∈g,Fv y):k6 x=true:=by
 let(g,hg,hx):=YN.mp hx;rcases Yn.mp hx with rfl | hx
 .decide+kernel
 .exact (h g hg x hx).2
theorem Ar{k:Kp}(o:dH k):(k.c6.map El.it).length<=1000/\(∀ x∈k.c6.map El.it,k6 x=true)/\kW (k.c6.map El.it)=[.str (bG k.asked),.str k.nm]::k.heads.map rP:=by
 rw[Nv];have hh:∀ g∈k.heads.map rP,∀ y∈g,Fv y:=λg hg y hy=>by
  let(h,hh,rfl):=YB.mp hg;exact Ct (o.hs h hh) y hy
 have hs:∀ x∈([.str (bG k.asked),.str k.nm]:List D),Fv x:=λx hx=>by
  have hx:x=.str (bG k.asked)\/x=.str k.nm:=by simpa using hx
  rcases hx with rfl | rfl
  .cases k.asked<;>exact#[by rw[d4];decide+kernel,by decide+kernel]
  .exact rm o.nm
 refine#[?_,λx hx=>?_,zV (λx hx=>(hs x hx).1) λg hg x hx=>(hh g hg x hx).1]
 .have h1:=yA (gs:=k.heads.map rP) (n:=9) λg hg=>by
   let(h,hh,rfl):=YB.mp hg;unfold rP;rw[Yk];exact II (o.hs h hh)
  have h2:=o.hl;rw[Yk] at h1;rw[Yl,Yv,Yv,ZX];cbv
 .rcases Yz.mp hx with hx | hx
  .exact (hs x hx).2
  .exact Ep hx hh
theorem AL{a:Bool}{t:Tb}(o:nN a t):((t.c6 a).map El.it).length<=1000/\(∀ x∈(t.c6 a).map El.it,k6 x=true)/\kW ((t.c6 a).map El.it)=(.str (tabS a)::rP t.h)::t.rows.map wQ:=by
 rw[Nz];have hh:∀ g∈t.rows.map wQ,∀ y∈g,Fv y:=λg hg y hy=>by
  let(r,hr,rfl):=YB.mp hg;have h1:=o.rs r hr;have hy:y=.str r.1\/y=.str ":"\/y=lN r.2:=by simpa [wQ] using hy
  rcases hy with rfl | rfl | rfl
  .exact rm h1.1
  .exact#[by rw[d4];decide+kernel,by decide+kernel]
  .exact Kd h1.2.1
 have hs:∀ x∈(.str (tabS a)::rP t.h:List D),Fv x:=λx hx=>by
  rcases Yn.mp hx with rfl | hx
  .cases a<;>exact#[by rw[d4];decide+kernel,by decide+kernel]
  .exact Ct o.h x hx
 refine#[?_,λx hx=>?_,zV (λx hx=>(hs x hx).1) λg hg x hx=>(hh g hg x hx).1]
 .have h1:=yA (gs:=t.rows.map wQ) (n:=3) λg hg=>by
   let(r,hr,rfl):=YB.mp hg;exact Ys _
  have h2:=o.rl;have h3:=II o.h;rw[Yk] at h1;rw[Yl,Yv];unfold rP;rw[Yk];cbv
 .rcases Yz.mp hx with hx | hx
  .exact (hs x hx).2
  .exact Ep hx hh
structure Tc(M:Addr->Prop)(H:Hp)(a:Addr)(cs:List (Addr×Addr))(M':Addr->Prop)(H':Hp)(xV:List (Addr×Addr)):Prop where
 m0:∀ b,M b->M' b
 kp:∀ b o,H b=some o->b∉a::adr cs->H' b=some o
 new:∀ b∈adr xV,b∈adr cs\/H b=none
 mn:∀ b,M' b->M b\/Nu H b
 md:∀ b,M' b->∃ o,H' b=some o
def VI(K:Frag)(t:List KD->List D->List KD->Prop):Sp:=λvs H Q _=>∃ M a cs ks its v Bz,vs=[.ref a,v]/\Base #[.no,M,H] M H/\sy K M H a cs ks/\Rep K H M (.lst its) v/\t ks its Bz/\∀ M' H' xV,Tc M H a cs M' H' xV->sy K M' H' a xV Bz->Q .cw H'
def SK(ks:List KD)(its:List D)(Bz:List KD):Prop:=ks.length<=1000/\((∃ k:Kp,dH k/\its=k.c6.map El.it/\Bz=ks++[#[bG k.asked,k.nm,.tup (k.heads.map kY),[]]]) \/
 ∃ (k0:List KD) (kd:KD) (a:Bool) (t:Tb),ks=k0++[kd]/\kd.sd=bG a/\kd.ts.length<=1000/\nN a t/\its=(t.c6 a).map El.it/\Bz=k0++[#[kd.sd,kd.nm,kd.hs,kd.ts++[kK t]]])
theorem sW(x:D)(l:List D):cutD (x::l) (some 1) none=l:=by
 unfold cutD;rw[show (1:Int)=((1:Nat):Int) from U,HT.p6,HT.mj,Nat.min_eq_left (by simp),List.take_of_length_le (by simp)]
 rfl
theorem Iw{h:Hd}(o:et true h):rP h=h.ws.map .str/\h.cells=[.str h.nm,.tup (h.fs.map pairD)]:=by
 have h1:=o.res;rw[if_pos U] at h1;unfold rP Hd.to Hd.cells Hd.tl;rw[h1];exact#[by rw[YA],U]
theorem HC{h:Hd}(o:et false h):∃ r,rY r/\rP h=(h.ws++(["to",r]:List Str)).map .str/\h.cells=[.str h.nm,.tup (h.fs.map pairD),.str r]:=by
 have h1:=o.res;rw[if_neg (by decide)] at h1;let(r,h1,h2):=h1;refine#[r,h2,?_];unfold rP Hd.to Hd.cells Hd.tl;rw[h1];exact#[U,U]
theorem zT(rs:List (Str×Tm)):(rs.map wQ).map D.lst=rs.map Gj:=by
 rw[YF]
 rfl
theorem FH{M:Addr->Prop}{H:Hp}{a:Addr}{cs:List (Addr×Addr)}{ks:List KD}(I:sy K M H a cs ks){s:DS}(hs:s.sl[0]?=some (.dat (.fN a))):∃ d,(∀ Q:D->DS->Prop,Q d s->HU H 0 s Q)/\∀ k0 k,ks=k0++[k]->d=.str k.sd:=by
 have hl:=I.ll;rcases aan ks with rfl | ⟨k0,k,rfl⟩
 .cases cs with
  | cons c cs=>exact hl.elim
  | nil=>exact#[.cw,λQ q=>#[a,hs,.inl #[I.out,q]],λk0 k e=>by cases k0<;>cases e]
 .rw[List.concat_eq_append] at hl ⊢;let(yg,c,rfl,_,hv,us,e1,_):=hl.last;refine#[.str k.sd,λQ q=>#[a,hs,.inr #[yg.map λc=>V.ref c.1,c.1,_,k.sd,by rw[I.out,Yr];rfl,e1,q]],λk1 k2 e=>?_];let(_,e):=List.append_inj' e U;cases e
  rfl
section
variable{M M1:Addr->Prop}{H H1:Hp}{a:Addr}{cs:List (Addr×Addr)}{ks:List KD}{s1:DS}{as:List Addr}{O:L2.St}{E:Ends}{te:bH}
theorem CD{sd nm:Str}{hs:D}{i:Nat}(I:sy K M H a cs ks)(hk:ks.length<=1000)(L:aE K #[.no,M,H] M1 s1 as O H1)(h0:s1.sl[0]?=some (.dat (.fN a)))(h4:s1.sl[4]?=some (.dat (.str sd)))(hi:s1.sl[i]?=some (.dat hs))(hn:te s1 λd s'=>d=.str nm/\s'=s1)(kk:∀ M' H' xV,Tc M H a cs M' H' xV->sy K M' H' a xV (ks++[#[sd,nm,hs,[]]])->E.nx O H'):CF (Qx K "list" pW (bz 0) (gH (Jc (gH (bz 4) (gH (tE K #[.no,M,H] te) (gH (bz i) (gH (Jc sI) sI))))) sI)) E O H1:=by
 have hsz:=aC;let(v0,e0,r0):=L.dat 0 _ h0;cases (show v0=.ref a from r0);let(v4,e4,r4):=L.dat 4 _ h4;cases (show v4=.str sd from r4);refine#[_,e0,.inl #[U,_,cn.of (L.base.fr a _ I.out λz=>z)],_,e4,V8 L hn λM2 H2 v L2 rv=>?_];cases (show v=.str nm from rv);let(hv,ei,ri):=L2.dat i _ hi;have I2:sy K M2 H2 a cs ks:=I.call L2.base.m0 (λb o e=>L2.base.fr b o e λz=>z) L2.base.mn;have hM:∀ {b:Addr},H2 b=none->¬ M2 b:=λ{b} e m=>by
  let(o,e'):=L2.base.md b m;rw[e] at e';cases e'
 have hN:∀ {b:Addr},H2 b=none->H b=none:=λ{b} e=>by
  cases e':H b with
  | none=>rfl
  | some o =>
   have:=L2.base.fr b o e' λz=>z;rw[e] at this;cases this
 refine#[_,ei,(by decide:(0:Nat)<=sizeLine),λp hp=>#[(by show (4:Nat)<=sizeLine;cbv),λq hq=>#[a,cs.map λc=>V.ref c.1,.ref q,U,U,?_,?_,?_]]]
 .have e1:upd H2 p (.lst []) a=some (.lst (cs.map λc=>V.ref c.1)):=by
   rw[aq (av I2.out hp)];exact I2.out
  rw[aq (av e1 hq)];exact e1
 .rw[Yk,I2.ll.len];cbv
 .have npq:q≠p:=Ne.symm (av au hq);have hq0:H2 q=none:=by rw[aq npq] at hq;exact hq
  have kp:∀ b o,H2 b=some o->b≠a->upd (upd (upd H2 p (.lst [])) q (.lst [.str sd,.str nm,hv,.ref p])) a (.lst ((cs.map λc=>V.ref c.1)++[.ref q])) b=some o:=λb o e n=>by
   rw[aq n,aq (av e hq0),aq (av e hp)];exact e
  refine kk M2 _ (cs++[(q,p)]) #[L2.base.m0,λb o e nb=>kp b o (L2.base.fr b o e λz=>z) λz=>nb (z▸Ym),λb hb=>?_,L2.base.mn,λb m=>?_] (I2.push hp hq ri (hM hp) (hM hq0))
  .rw[mY] at hb;rcases Yz.mp hb with hb | hb
   .exact .inl hb
   .have hb:b=q\/b=p:=by simpa [adr] using hb
    rcases hb with rfl | rfl
    .exact .inr (hN hq0)
    .exact .inr (hN hp)
  .let(o,e):=L2.base.md b m;exact#[o,kp b o e λz=>I2.nm a Ym (z▸m)]
theorem Di{k0:List KD}{kd:KD}{d:D}(I:sy K M H a cs (k0++[kd]))(hk:kd.ts.length<=1000)(L:aE K #[.no,M,H] M1 s1 as O H1)(h0:s1.sl[0]?=some (.dat (.fN a)))(hn:te s1 λd' s'=>d'=d/\s'=s1)(kk:∀ M' H' xV,Tc M H a cs M' H' xV->sy K M' H' a xV (k0++[#[kd.sd,kd.nm,kd.hs,kd.ts++[d]]])->E.nx O H'):CF (Qx K "list" pW (jh (AR K) (jh (AR K) (bz 0) (tC (.int (-1)))) (tC (.int 3))) (gH (tE K #[.no,M,H] te) sI)) E O H1:=by
 have hsz:=aC;let(v0,e0,r0):=L.dat 0 _ h0;cases (show v0=.ref a from r0);let(yg,c,rfl,l0,hv,us,e1,r1,e2,r2):=I.ll.last;have up:∀ b o,H b=some o->H1 b=some o:=λb o e=>L.base.fr b o e λz=>z;refine#[_,e0,a,_,-1,.ref c.1,U,U,cn.of (up _ _ I.out),by rw[Yr];exact ft _ _,c.1,_,3,.ref c.2,U,U,cn.of (up _ _ e1),U,.inl #[U,_,cn.of (up _ _ e2)],V8 L hn λM2 H2 v L2 rv=>?_];have up2:∀ b o,H b=some o->H2 b=some o:=λb o e=>L2.base.fr b o e λz=>z;have I2:sy K M2 H2 a (yg++[c]) (k0++[kd]):=I.call L2.base.m0 up2 L2.base.mn;have hm0:∀ b o,M b->H b=some o->H2 b=some o:=λb o _ e=>up2 b o e;have hul:us.length=kd.ts.length:=r2.length;have hc2:c.2∈a::adr (yg++[c]):=by rw[mY];simp[adr]
 refine#[c.2,us,v,U,U,up2 _ _ e2,by cbv,kk M2 _ (yg++[c]) #[L2.base.m0,λb o e nb=>?_,λb hb=>.inl hb,L2.base.mn,λb m=>?_] (I2.add (l0.mono L2.base.m0 hm0 λb _ o e=>up2 b o e) (up2 _ _ e1) (Rep.mono L2.base.m0 hm0 _ _ r1) (up2 _ _ e2) (ay.mono L2.base.m0 hm0 _ _ r2) rv)]
 .have n:b≠c.2:=λz=>nb (z▸hc2);rw[aq n];exact up2 b o e
 .let(o,e):=L2.base.md b m;have n:b≠c.2:=λz=>I2.nm c.2 hc2 (z▸m);exact#[o,by rw[aq n];exact e]
end
theorem O4{xS:Addr}{qm:FuncData}{qz:Tok}(Nc:bV P w K mg base aD 1 xS qm ["items","sign"] (aO K .no QO))(DK:uG K "parted" "parted" eu xS qm "|" qz)(Gx:mg "parted"=some (.ref xS))(Hq:Binds K qm ["items","sign"] [.str "|" qz])(kq:aa1 P w K mg base cR 1 vT)(Q9:aa1 P w K mg base gD 5 Sy)(PK:aa1 P w K mg base iM 6 Mo)(Vr:aa1 P w K mg base iJ 6 Vh)(V3:aa1 P w K mg base fA 4 Wq)(F:Own K mg iA)(T:Txt K mg):C4 P w K mg base aD iA 10 (VI K SK):=by
 refine F.c λf fd F=>?_;refine F.ok dP (λvs H Q E h=>?_) (λa9 A outer s H vs Q E hr h=>?_)
 .let(M,a,cs,ks,its,v,Bz,rfl,_):=h
  rfl
 .let(M,a,cs,ks,its,v,Bz,rfl,B,I,r,ht,kk):=h;refine#[_,(aJ (lZ.ps (c:=#[.no,M,H]) (sS 2 dP.nd (qW (hr.mono (by ac_rfl)) U Gx DK.kp Hq #[qz,U] (aa (vd 1) ae) Nc)))
 (aJ (lZ.ps (c:=#[.no,M,H]) (sS 3 dP.nd (ic (vd 2) ah)))
 (aJ (lZ.ps (c:=#[.no,M,H]) (sS 4 dP.nd (vt (Jb (vd 3)) (ic (vd 3) ah) Fb)))
 (aJ (lZ.ps (c:=#[.no,M,H]) (sS 5 dP.nd (Lm (pv 0) (pv 0) b6 aR Cc)))
 (aX (k9 (DT.pt (c:=#[.no,M,H]) (aF aM bx (vd 4) ak (ax _))) (aJ (lZ.ps (c:=#[.no,M,H]) (sS 6 dP.nd (ia T.tuple (aa (DN.de (nC ["group"] [] (bf (DN.de (cm (vd 2) (bA ah) bD))) (λ_ _ _ _=>(gM 0 ["group"])) (λ_ _ _ _=>bh)
 (λ_ _ _ _=>(aj hr Q9 (aa (vd 0) ae))))) ae)))) (aX (dE (gx YR YZ Y0 cM (pv 0) (az (f6 (az (pv 4) (az (DE.pe (c:=#[.no,M,H]) (aj hr V3 (aa (vd 3) ae))) (az (pv 6) (az (f6 aK) aK))))) aK))))) (aX (k9 (DT.pt (c:=#[.no,M,H]) (aF aM bx (vd 4) ak (ax _))) (aJ (lZ.ps (c:=#[.no,M,H]) (sS 7 dP.nd (ia T.tuple (aa (DN.de (nC ["group"] [] (bf (DN.de (cm (vd 2) (bA ah) bD))) (λ_ _ _ _=>(gM 0 ["group"])) (λ_ _ _ _=>bh)
 (λ_ _ _ _=>(aj hr PK (aa (vd 0) ae))))) ae)))) (aX (dE (gx YR YZ Y0 cM (pv 0) (az (f6 (az (pv 4) (az (DE.pe (c:=#[.no,M,H]) (aj hr V3 (aa (vd 3) ae))) (az (pv 7) (az (f6 aK) aK))))) aK))))) (aX (k9 (DT.pt (c:=#[.no,M,H]) (aF aM bx (vd 4) ak (ax _))) (aJ (lZ.ps (c:=#[.no,M,H]) (bC (aj hr kq (aa (bW aM bx (vd 5) ak (ax _)) ae)))) (aX (dE (gx YR YZ Y0 cM (dO bO (dO bO (pv 0) b6 (λ_ _=>rfl)) aR (λ_ _=>rfl)) (az (DE.pe (c:=#[.no,M,H]) (bb kc qC (aj hr PK (aa (DN.de (cm (vd 3) (bA ah) bD)) ae)) (aW (aa (aj hr Vr (aa (DN.de (cm (vd 2) (bA ah) bD)) ae)) ae)))) aK))))) (aX (k9 (DT.pt (c:=#[.no,M,H]) (aF aM bx (vd 4) ak (ax _))) (aJ (lZ.ps (c:=#[.no,M,H]) (bC (aj hr kq (aa (bW aM bx (vd 5) ak (ax _)) ae)))) (aX (dE (gx YR YZ Y0 cM (dO bO (dO bO (pv 0) b6 (λ_ _=>rfl)) aR (λ_ _=>rfl)) (az (DE.pe (c:=#[.no,M,H]) (bb kc qC (aj hr Q9 (aa (DN.de (cm (vd 3) (bA ah) bD)) ae)) (aW (aa (aj hr Vr (aa (DN.de (cm (vd 2) (bA ah) bD)) ae)) ae)))) aK))))) ub)))))))))))),?_]
  have L0:aE K #[.no,M,H] M (fM 8 0 [.fN a,.lst its]) _ _ H:=lL (N:=["kinds","items","groups","head","word","side","makers","askers"]) (nos:=0) B #[.ref a,_,U,U,v,_,U,r,U] rfl;have hsz:=aC;let(hk,ht):=ht;have hpr:∃ (w0:Str) (hd:List D) (gs:List (List D)),its.length<=1000/\(∀ x∈its,k6 x=true)/\kW its=(.str w0::hd)::gs:=by
   rcases ht with ⟨k,o,rfl,_⟩ | ⟨k0,kd,b,t,_,_,_,o,rfl,_⟩
   .let(h1,h2,h3):=Ar o;exact#[_,_,_,h1,h2,h3]
   .let(h1,h2,h3):=AL o;exact#[_,_,_,h1,h2,h3]
  let(w0,hd,gs,hlen,hpo,hpart):=hpr;refine IH L0 #[_,U,its,U,#[hlen,hpo],U] λM1 as1 O1 H1 L1=>?_;rw[hpart] at L1;refine IH L1 #[_,U,_,_,_,U,U,bU,U] λM1 as1 O1 H1 L1=>?_;refine IH L1 #[_,U,_,.inl U,gn U #[_,U,_,_,_,U,U,bU,U]] λM1 as1 O1 H1 L1=>?_;let(sd,LA,hsk):=FH I (s:=#[[.dat (.fN a),.dat (.lst its),.dat (.lst (((.str w0::hd)::gs).map .lst)),.dat (.lst (.str w0::hd)),.dat (.str w0),.no,.no,.no],[]]) U;refine IH L1 (LA _ U) λM1 as1 O1 H1 L1=>?_
  replace L1:aE K #[.no,M,H] M1 #[[.dat (.fN a),.dat (.lst its),.dat (.lst (.lst (.str w0::hd)::gs.map .lst)),.dat (.lst (.str w0::hd)),.dat (.str w0),.dat sd,.no,.no],[]] as1 O1 H1:=L1
  clear L0 hlen hpo;rcases ht with ⟨k,o,rfl,rfl⟩ | ⟨k0,kd,b,t,rfl,hsd2,hkt,o,rfl,rfl⟩
  .have h3:=(Ar o).2.2;rw[hpart] at h3;injection h3 with h3 h4;injection h3 with h3 h5;injection h3 with h3;subst h3 h4 h5;have hw:=o.hs;cases hb:k.asked with
   | false =>
    rw[hb] at L1 hw;refine GN L1 ?_ λM1 H1 L1=>?_
    .right
     rfl
    .refine IH L1 (s1:=#[[.dat (.fN a),.dat (.lst (k.c6.map El.it)),.dat (.lst (.lst [.str (bG false),.str k.nm]::(k.heads.map rP).map .lst)),.dat (.lst [.str (bG false),.str k.nm]),.dat (.str (bG false)),.dat sd,.dat (.tup (k.heads.map kY)),.no],[]]) ?_ λM1 as1 O1 H1 L1=>?_
     .right;rw[sW,YF];refine aB (λh:Hd=>D.lst (rP h)) kY k.heads (λh hh kk hkk=>?_) ?_
      .have o1:=hw h hh;let(e1,e2):=Iw o1;rw[show kY h=_ from congrArg D.tup e2] at hkk;exact#[_,U,h,by rw[e1],#[o1.nm,o1.fl,o1.fs],hkk _ U]
      .right
       rfl
     .refine CD I hk L1 U U U ?_ λM' H' xV fr I'=>kk M' H' xV fr (by rw[hb];exact I');right;exact#[o.nm,U,U]
   | true =>
    rw[hb] at L1 hw;refine A3 L1 ?_ λM1 H1 L1=>?_
    .right
     rfl
    refine GN L1 ?_ λM1 H1 L1=>?_
    .right
     rfl
    .refine IH L1 (s1:=#[[.dat (.fN a),.dat (.lst (k.c6.map El.it)),.dat (.lst (.lst [.str (bG true),.str k.nm]::(k.heads.map rP).map .lst)),.dat (.lst [.str (bG true),.str k.nm]),.dat (.str (bG true)),.dat sd,.no,.dat (.tup (k.heads.map kY))],[]]) ?_ λM1 as1 O1 H1 L1=>?_
     .right;rw[sW,YF];refine aB (λh:Hd=>D.lst (rP h)) kY k.heads (λh hh kk hkk=>?_) ?_
      .have o1:=hw h hh;let(r,e0,e1,e2):=HC o1;rw[show kY h=_ from congrArg D.tup e2] at hkk;exact#[_,U,h,r,by rw[e1],#[o1.nm,o1.fl,o1.fs],e0,hkk _ U]
      .right
       rfl
     .refine CD I hk L1 U U U ?_ λM' H' xV fr I'=>kk M' H' xV fr (by rw[hb];exact I');right;exact#[o.nm,U,U]
  .have h3:=(AL o).2.2;rw[hpart] at h3;injection h3 with h3 h4;injection h3 with h3 h5;injection h3 with h3;subst h3 h4 h5;have e:=hsk k0 kd U;rw[hsd2] at e;subst e;cases b with
   | false =>
    have L1:=L1;refine A3 L1 ?_ λM1 H1 L1=>?_
    .right
     rfl
    refine A3 L1 ?_ λM1 H1 L1=>?_
    .right
     rfl
    refine GN L1 ?_ λM1 H1 L1=>?_
    .right
     rfl
    refine IH L1 (s1:=#[[.dat (.fN a),.dat (.lst ((t.c6 false).map El.it)),.dat (.lst (.lst (.str (tabS false)::rP t.h)::(t.rows.map wQ).map .lst)),.dat (.lst (.str (tabS false)::rP t.h)),.dat (.str (tabS false)),.dat (.str (bG false)),.no,.no],[]]) ?_ λM1 as1 O1 H1 L1=>?_
    .right
     rfl
    refine Di I hkt L1 U ?_ kk;right;rw[sW];let(r,e0,e1,e2):=HC o.h;refine#[t.h,r,by rw[e1],#[o.h.nm,o.h.fl,o.h.fs],e0,?_];right;rw[sW,zT];refine#[t.rows,U,λx hx=>#[(o.rs x hx).1,(o.rs x hx).2.1],?_];refine#[_,_,U,U,ZQ _ _,?_,?_,U]
    .show (4:Nat)<=sizeLine;cbv
    .unfold kK;rw[e2]
   | true =>
    have L1:=L1;refine A3 L1 ?_ λM1 H1 L1=>?_
    .right
     rfl
    refine A3 L1 ?_ λM1 H1 L1=>?_
    .right
     rfl
    refine A3 L1 ?_ λM1 H1 L1=>?_
    .right
     rfl
    refine GN L1 ?_ λM1 H1 L1=>?_
    .right
     rfl
    refine IH L1 (s1:=#[[.dat (.fN a),.dat (.lst ((t.c6 true).map El.it)),.dat (.lst (.lst (.str (tabS true)::rP t.h)::(t.rows.map wQ).map .lst)),.dat (.lst (.str (tabS true)::rP t.h)),.dat (.str (tabS true)),.dat (.str (bG true)),.no,.no],[]]) ?_ λM1 as1 O1 H1 L1=>?_
    .right
     rfl
    refine Di I hkt L1 U ?_ kk;right;rw[sW];let(e1,e2):=Iw o.h;refine#[t.h,by rw[e1],#[o.h.nm,o.h.fl,o.h.fs],?_];right;rw[sW,zT];refine#[t.rows,U,λx hx=>#[(o.rs x hx).1,(o.rs x hx).2.1],?_];refine#[_,_,U,U,ZQ _ _,?_,?_,U]
    .show (3:Nat)<=sizeLine;cbv
    .unfold kK;rw[e2]
end
section
variable{P:Program}{w:World}{K:Frag}{mg:Str->Option Value}{base:Heap}
inductive K4:List KD->List (List El)->List KD->Prop
 | nil {ks:List KD}:K4 ks [] ks
 | cons {ks Bz kf:List KD} {es:List El} {rest:List (List El)} (h1:es≠[]/\(∀ e∈es,Fh e)/\(bZ es).length<=100000) (h2:SK ks (es.map El.it) Bz) (h3:K4 Bz rest kf):K4 ks (es::rest) kf
def kdOf(k:Kp):KD:=#[bG k.asked,k.nm,.tup (k.heads.map kY),k.tabs.map kK]
def JA(es:List El):Prop:=es≠[]/\(∀ e∈es,Fh e)/\(bZ es).length<=100000
theorem wN{k0:List KD}{sd nm:Str}{hs:D}{a:Bool}{rest:List (List El)}{kf:List KD}(h0:k0.length<=900)(LA:sd=bG a):∀ (todo done:List Tb),done.length+todo.length<=900->(∀ t∈todo,nN a t/\JA (t.c6 a))->K4 (k0++[#[sd,nm,hs,(done++todo).map kK]]) rest kf->K4 (k0++[#[sd,nm,hs,done.map kK]]) (todo.map (Tb.c6 a)++rest) kf
 | [],done,_,_,h=>by rw[YA] at h;exact h
 | t::todo,done,hl,ht,h=>by
  let(h1,h2):=ht t Ym;rw[Yv] at hl;refine .cons h2 #[by rw[Yl,ZL];cbv,.inr #[k0,_,a,t,U,LA,by show (done.map kK).length<=1000;rw[Yk];cbv,h1,U,U]] ?_;have:=wN h0 LA todo (done++[t]) (by rw[Yl,ZL];cbv) (λx hx=>ht x (Yo _ hx)) (by rw[YI];exact h);rw[Yr] at this;exact this
theorem wY{kf:List KD}:∀ (ps:List Kp) (k0:List KD),k0.length+ps.length<=900->(∀ k∈ps,dH k/\∀ r∈k.rws,JA r)->kf=k0++ps.map kdOf->K4 k0 (ps.flatMap Kp.rws) kf
 | [],k0,_,_,h=>by
  rw[Y9,YA] at h;subst h;exact .nil
 | k::ps,k0,hl,hk,h=>by
  let(o,h1):=hk k Ym;rw[Yv] at hl;have ih:=wY (kf:=kf) ps (k0++[kdOf k]) (by rw[Yl,ZL];cbv) (λx hx=>hk x (Yo _ hx)) (by rw[h,Yp,YI];rfl);rw[Yt];refine .cons (h1 _ Ym) #[by cbv,.inl #[k,o,U,U]] ?_;have hl5:=o.tl;exact wN (by cbv) U k.tabs [] (by rw[ZX];cbv) (λt ht=>#[o.ts t ht,h1 _ (Yo _ (List.mem_map_of_mem ht))]) ih
theorem Kb{ps:List Kp}(h:kU ps):∀ k∈ps,dH k/\∀ r∈k.rws,JA r:=λk hk=>by
 refine#[h.2 k hk,λr hr=>?_];let(h1,h2):=(h.2 k hk).good r hr;refine#[h1,h2,?_];have:=(mW h).2 (bp (bZ r)) (Zd _ (YN.mpr #[k,hk,List.mem_map_of_mem hr]));rw[bB] at this;exact this
theorem xp(ps:List Kp):tW ps=(ps.flatMap Kp.rws).map λr=>bp (bZ r):=by
 unfold tW;rw[aak]
def RK(k:KD):D:=.lst [.str k.sd,.str k.nm,k.hs,.lst k.ts]
def W9(k:KD):D:=.tup [.str k.sd,.str k.nm,k.hs,.tup k.ts]
theorem KL.lK{M M':Addr->Prop}{H:Hp}(hM:∀ b,M b->M' b):∀ {cs:List (Addr×Addr)} {ks:List KD},(∀ b∈adr cs,M' b)->KL K H M cs ks->ay K H M' (ks.map RK) (cs.map λc=>V.ref c.1)
 | [],[],_,_=>rfl
 | c::cs,k::ks,h,t=>by
  let((hv,us,e1,r1,e2,r2),t):=t;exact#[_,_,U,#[c.1,_,U,#[h _ (by simp[adr]),e1],#[_,_,U,U,_,_,U,U,_,_,U,Rep.mono hM (λ_ _ _ e=>e) _ _ r1,_,_,U,#[c.2,us,U,#[h _ (by simp[adr]),e2],ay.mono hM (λ_ _ _ e=>e) _ _ r2],U]],KL.lK hM (λb hb=>h b (by simp[adr] at hb ⊢;exact .inr (.inr hb))) t]
 | [],_::_,_,h=>h.elim
 | _::_,[],_,h=>h.elim
theorem gm{M:Addr->Prop}{H:Hp}:∀ {l:List Str} {vs:List V},ay K H M (l.map .str) vs->vs=l.map V.str
 | [],vs,h=>h
 | a::l,vs,h=>by
  let(x,r,rfl,h1,h2):=h;cases (show x=.str a from h1);rw[gm h2]
  rfl
theorem vM{H H':Hp}{c:Addr}(hk:∀ o,H c=some o->H' c=some o)(h:Nu H' c):Nu H c:=by
 cases e:H c with
 | none=>exact .inl e
 | some o =>
  have e':=hk o e;rcases h with h | ⟨xs,h⟩
  .rw[e'] at h;cases h
  .rw[e'] at h;cases h;exact .inr #[xs,e]
theorem A6{H H':Hp}{c:Addr}(hk:∀ o,H c=some o->H' c=some o)(h:H' c=none):H c=none:=by
 cases e:H c with
 | none=>rfl
 | some o =>
  rw[hk o e] at h;cases h
theorem NK(Xd:aa1 P w K mg base iE 9 WK)(Xr:C4 P w K mg base aD iA 10 (VI K SK))(F:Own K mg gh)(T:Txt K mg):aa1 P w K mg base gh 12 SD:=by
 let(fIS,fdIS,JIS,QW,mIS,bIS):=id Xd;let(fTR,fdTR,JTR,QX,mTR,bTR):=id Xr;refine F.c λf fd F=>?_;refine F.ok fR (λvs H Q E h=>?_) (λa9 A outer s H vs Q E hr h=>?_)
 .let(M,ds,R,B,r,(ps,rfl,_),_):=h;rw[r.length]
  rfl
 .let(M,ds,R,B,r,(ps,rfl,hps,q),kk):=h;let(v1,rfl,r1):=cH r;let(ra,xs,rfl,(mra,hra),rx):=id r1;have ex:=gm rx;have hr1:cU 9 _:=hr.mono (by decide);have hr2:cU 10 _:=hr.mono (by decide);refine#[_,(aJ (eg (i:=1) fR.nd U (Or.inl U) (f6 aK))
   (aJ (nX PassesOwn.never U (Aw U T.enumerate (az (pv 0) aK)) (CK (n:=2) U (rJ (fb (i:=2) fR.nd U (Or.inl U)) (rJ (fb (i:=3) fR.nd U (Or.inl U)) zQ)))
    (aX (Gn (aX (dE (cK JTR hr2 U mTR QX.kp bTR .nil fW (az (pv 1) (az (cK JIS hr1 U mIS QW.kp bIS .nil fW (az (pv 3) aK)) aK))))))))
   (aX (lZ.ps (c:=#[.no,M,H]) (aP (ia T.tuple (aa (DN.de (nC ["side","name","heads","tables"] [] (bf (vd 1)) (λ_ _ _ _=>(Ja U (aQ (gM 0 ["side","name","heads","tables"]) (aQ (gM 1 ["side","name","heads","tables"]) (aQ (gM 2 ["side","name","heads","tables"]) (aQ (gM 3 ["side","name","heads","tables"]) fE)))))) (λ_ _ _ _=>bh)
    (λ_ _ _ _=>(aW (aa (vd 0) (aa (vd 1) (aa (vd 2) (aa (ia T.tuple (aa (vd 3) ae)) ae)))))))) ae))))))),?_]
  have hsz:=aC;refine#[(by decide:(0:Nat)<=sizeLine),λa ha=>?_];have up0:∀ b o,H b=some o->upd H a (.lst []) b=some o:=λb o e=>by
   rw[aq (av e ha)];exact e
  have ma:¬ M a:=λm=>by
   let(o,e):=B.md a m;rw[ha] at e;cases e
  have B0:Base #[.no,M,H] M (upd H a (.lst [])):=#[trivial,λb o e _=>up0 b o e,λb m=>by
   let(o,e):=B.md b m;exact#[o,up0 b o e],λ_ _ h=>h,λ_ m=>m,λ_ m=>.inl m]
  have I0:sy K M (upd H a (.lst [])) a [] []:=#[au,trivial,by simp[adr],λb hb=>by
   rw[Yx.mp hb];exact ma]
  have hrd:=wY (kf:=ps.map kdOf) ps [] (by have:=hps.1;rw[ZX];cbv) (Kb hps) U;refine#[_,U,ra,false,xs,U,cn.of (up0 _ _ hra),λ_=>CO (xs:=xs) (λi O H'=>∃ M' cs ks v2 v3,O=[some (.ref ra),some (.ref a),v2,v3]/\Base #[.no,M,H] M' H'/\sy K M' H' a cs ks/\(∀ b∈a::adr cs,H b=none)/\K4 ks ((ps.flatMap Kp.rws).drop i) (ps.map kdOf)) #[M,[],[],none,none,U,B0,I0,λb hb=>by rw[Yx.mp hb];exact ha,hrd] (λi O H' _ #[M',cs,ks,v2,v3,_,B',_]=>cn.of (B'.fr ra _ hra λz=>z)) ?_ ?_]
  .rintro i x O H' b hx hb ⟨M',cs,ks,v2,v3,rfl,B',I,hn,hrd⟩;rw[ex,xp,YS,YS] at hx;let(z,hz,rfl):=YK.mp hx;let(es,hes,rfl):=YK.mp hz;have hdr:(ps.flatMap Kp.rws).drop i=es::(ps.flatMap Kp.rws).drop (i+1):=by
    rw[ZY (Yu.mp hes).1];exact congrArg (·::_) (Yu.mp hes).2
   rw[hdr] at hrd;cases hrd with
   | cons h1 h2 h3 =>
    rename_i Bz
    refine#[b,[.int i,.str _],U,gZ.of au,U,_,_,U,_,_,U,U,?_];have upb:∀ c o,H' c=some o->upd H' b (.tup [.int i,.str (bp (bZ es))]) c=some o:=λc o e=>by
     rw[aq (av e hb)];exact e
    have Bb:Base #[.no,M',upd H' b (.tup [.int i,.str (bp (bZ es))])] M' (upd H' b (.tup [.int i,.str (bp (bZ es))])):=#[trivial,λ_ _ e _=>e,λc m=>by
     let(o,e):=B'.md c m;exact#[o,upb c o e],λ_ _ h=>h,λ_ m=>m,λ_ m=>.inl m]
    let(t1,t2,t3):=zI h1.1 h1.2.1;refine#[_,U,_,U,M',[.str (bp (bZ es))],(·=.lst (es.map El.it)),Bb,ay.one (d:=.str _) U,#[es.flatMap El.ws,es.map El.it,by rw[t2],#[t1,t3,by rw[t2];exact h1.2.2,FQ h1.1 h1.2.1],U],λd hd M1 H1 v B1 rv=>?_];subst hd;have up1:∀ c o,H' c=some o->H1 c=some o:=λc o e=>B1.fr c o (upb c o e) λz=>z;have mn1:∀ c,M1 c->M' c\/Nu H' c:=λc m=>(B1.mn c m).elim .inl λn=>.inr (vM (λo e=>upb c o e) n);have upA:∀ c o,H c=some o->H1 c=some o:=λc o e=>up1 c o (B'.fr c o e λz=>z);refine#[M1,a,cs,ks,es.map El.it,v,Bz,U,gp B1,I.call B1.m0 up1 mn1,rv,h2,λM2 H2 xV fr I2=>?_];refine#[M2,xV,Bz,_,_,U,#[trivial,λc o e _=>fr.kp c o (upA c o e) λhc=>?_,fr.md,λ_ _ h=>h,λc m=>fr.m0 c (B1.m0 c (B'.m0 c m)),λc m=>?_],I2,λc hc=>?_,h3]
    .have e:H c=some o:=e;rw[hn c hc] at e;cases e
    .rcases fr.mn c m with m | n
     .rcases mn1 c m with m | n
      .exact B'.mn c m
      .exact .inr (vM (λo e=>B'.fr c o e λz=>z) n)
     .exact .inr (vM (λo e=>upA c o e) n)
    .rcases Yn.mp hc with rfl | hc
     .exact hn _ Ym
     .rcases fr.new c hc with h | h
      .exact hn c (Yo _ h)
      .exact A6 (λo e=>upA c o e) h
  .rintro O H' ⟨M',cs,ks,v2,v3,rfl,B',I,hn,hrd⟩;have hd0:(ps.flatMap Kp.rws).drop xs.length=[]:=by
    rw[ex,xp,Yk,Yk];exact aaj
   rw[hd0] at hrd;generalize ekf:ps.map kdOf=kf at hrd;cases hrd;subst ekf;have hm:∀ b,M' b->M' b\/b∈a::adr cs:=λ_ m=>.inl m;have L:aE K #[.no,M,H] (λb=>M' b\/b∈a::adr cs) #[[.dat (.lst ((tW ps).map .str)),.dat (.lst ((ps.map kdOf).map RK)),.no,.no],[]] [] [some (.ref ra),some (.ref a),v2,v3] H':=by
    refine#[#[trivial,B'.fr,λb m=>?_,λ_ _ h=>h,λb m=>.inl (B'.m0 b m),λb m=>?_],U,U,λi d e=>?_,λi k e=>?_,λk d a e=>(by cases e),λk l d e a h=>(by cases h),λk a e=>(by cases e)]
    .rcases m with m | m
     .exact B'.md b m
     .let(us,e):=I.there b m;exact#[_,e]
    .rcases m with m | m
     .exact B'.mn b m
     .exact .inr (.inl (hn b m))
    .match i,e with
     | 0,e =>
      cases e;exact#[_,U,ra,xs,U,#[.inl (B'.m0 _ mra),B'.fr ra _ hra λz=>z],ay.mono (λb m=>.inl (B'.m0 b m)) (λb o _ e=>B'.fr b o e λz=>z) _ _ rx]
     | 1,e =>
      cases e;exact#[_,U,a,_,U,#[.inr Ym,I.out],KL.lK hm (λb hb=>.inr (Yo _ hb)) I.ll]
     | 2,e=>cases e
     | 3,e=>cases e
     | n+4,e=>cases e
    .match i,e with
     | 0,e=>cases e
     | 1,e=>cases e
     | 2,e=>cases e
     | 3,e=>cases e
     | n+4,e=>cases e
   refine#[_,_,_,{ nx:=λ_=>False,rt:=R },L,?_,#[λ_ _ _ _ _ h=>False.elim h,λ_ _ _ _ _ h=>False.elim h,λ_ _ _ _ _ h=>False.elim h,λd M' H' v hd B r=>kk d hd M' H' v B r,λ_ _ _ _ _ h=>False.elim h,λ_ _ _ _ _ _ _ h=>False.elim h]];right;refine aB RK W9 (ps.map kdOf) (λk hk kk hkk=>?_) ?_
   .refine#[_,_,_,_,U,?_];right;exact hkk _ U
   rw[YE,YF];right;exact q
end
inductive ou(w:World):List DictEntry->List (Str×Value)->Prop
 | nil:ou w [] []
 | cons {e:DictEntry} {k:Str} {v:Value} {es:List DictEntry} {kvs:List (Str×Value)}:(∃ t,e.key=.str k t)->e.hash=hashStr w k->e.val=v->ou w es kvs->ou w (e::es) ((k,v)::kvs)
theorem ou.dict{P:Program}{w:World}{es:Array DictEntry}{ep:Nat}{kvs:List (Str×Value)}(h:ou w es.toList kvs)(nd:(kvs.map (·.1)).Nodup):Obj.IsDictOf (strKind P w) #[.type "dict",none,.dict es ep,#v[]] kvs:=by
 refine#[es,ep,#[U,U,U],U,λe he=>?_,?_,nd]
 .have he:e∈es.toList:=Array.mem_toList_iff.mpr he;clear nd
  revert he
  generalize es.toList=l at h
  induction h with
  | nil=>exact λz=>nomatch z
  | cons hk hh hv _ ih =>
   intro he;rcases Yn.mp he with rfl | he
   .let(t,ht):=hk;exact#[_,by rw[ht];exact PySem.strKind_is P w _ t,hh]
   .exact ih he
 .clear nd;generalize es.toList=l at h
  induction h with
  | nil=>exact .nil
  | cons hk hh hv _ ih =>
   let(t,ht):=hk;exact .cons (by rw[ht];exact PySem.strKind_is P w _ t) hv ih
theorem two2{P:List Value->Prop}(h:∀ a b,P [a,b])(us:List Value)(hl:us.length=2):P us:=by
 cases us with
 | nil=>cases hl
 | cons a us =>
  cases us with
  | nil=>cases hl
  | cons b us =>
   cases us with
   | nil=>exact h a b
   | cons c us=>cases hl
theorem all_mk{l:PySem.W.OpenLaw}{w:World}{K:Frag}{h:Heap}{mg:Str->Option Value}{fa at_ Rb Th Md MA ML MZ Ml PF OQ xS Tx:Addr}(X:K.In h)(G:h.Ns mainGlobals mg)(X3:mg "law"=some (.ref fa)){Up TQ UG TL SO SF RF Tu TR RW RL TB Sa So NC Qd Tv MC XN Xc:Option Addr}{RX SS TZ TU Ti R1 Sf Nn UQ Se Xh:Array (Option Value)}{Ud SU UD Ux Mx Uz T8 Tj SQ SR MW Ub UO TF Sg Rn Qa SG Sd Ru Sk Ue MD SY S6 SE RM Uy Qe To RZ R8 SN RT L9 RA Sb UC R7 Ug Mh T5 Oy M8 Ph MV JW Qj UA OV PX NX IX O3 Xa:Value}{BI:Array Value}{nT nP Xb:Nat}{U5:Array DictEntry}{T3 WY WJ:Tok}(Vp:Own K mg qG)(V5:Own K mg ky)(WL:Own K mg kz)(Wr:Own K mg j3)(JC:Own K mg cR)(VN:Own K mg cQ)(VY:Own K mg fJ)(VZ:Own K mg eS)(VW:Own K mg dX)(VX:Own K mg eX)(WS:Own K mg dg)(QZ:Own K mg gc)(QW:Own K mg iE)(VQ:Own K mg dZ)(VB:Own K mg dD)(Vi:Own K mg gS)(Vu:Own K mg gX)(VL:Own K mg gU)(WM:Own K mg gK)(VE:Own K mg fc)(Vg:Own K mg pS)(Vt:Own K mg eE)(VD:Own K mg fo)(Vb:Own K mg fi)(VU:Own K mg e9)(Wm:Own K mg gP)(VR:Own K mg gf)(WU:Own K mg lQ)(Vo:Own K mg kg)(WH:Own K mg kJ)(V4:Own K mg fg)(Wu:Own K mg fV)(WV:Own K mg fj)(Wi:Own K mg fu)(VO:Own K mg qb)(Wl:Own K mg gD)(Pn:Own K mg iM)(Wg:Own K mg kE)(WE:Own K mg iJ)(Wc:Own K mg fA)(QX:Own K mg iA)(WQ:Own K mg eW)(V0:Own K mg dF)(W3:Own K mg gh)(Wy:Own K mg gY)(VC:Own K mg vN)(Ws:Own K mg iQ)(Vj:Own K mg cg)(Wv:Own K mg gO)(WA:Own K mg bR)(Wo:Own K mg cT)(LI:Own K mg cY)(LM:Own K mg dR)(LH:Own K mg cS)(Wx:Own K mg d9)(V6:Own K mg fe)(Vn:Own K mg dG)(Qp:Own K mg bQ)(LX:Own K mg eI)(Vc:Own K mg eJ)(Vs:Own K mg fz)(WX:Own K mg fQ)(W0:Own K mg cZ)(WN:Own K mg iP)(LD:Own K mg gT)(U6:Own K mg gI)(Q5:nsIn K mainGlobals "op_in"=some (some (.ref Md)))(Ua:K.lookup Md=some #[Ud,Up,.func (fnOf "op_in" "op_in" (cD mJ) (aS mJ) (ag mJ) .none SU UD Ux TQ Mx Uz),RX])(Sj:codeIn K Mx "op_in"=true)(RD:keepIn K (.ref Md)=true)(Q3:nsIn K mainGlobals "zero_in"=some (some (.ref MA)))(RY:K.lookup MA=some #[T8,UG,.func (fnOf "zero_in" "zero_in" (cD ij) (aS ij) (ag ij) .none Tj SQ SR TL MW Ub),SS])(U0:codeIn K MW "zero_in"=true)(Tr:keepIn K (.ref MA)=true)(QR:nsIn K mainGlobals "let_in"=some (some (.ref ML)))(Rw:K.lookup ML=some #[UO,SO,.func (fnOf "let_in" "let_in" (cD jA) (aS jA) (ag jA) .none TF Sg Rn SF Qa SG),TZ])(UN:codeIn K Qa "let_in"=true)(UY:keepIn K (.ref ML)=true)(QC:nsIn K mainGlobals "make_in"=some (some (.ref MZ)))(Su:K.lookup MZ=some #[Sd,RF,.func (fnOf "make_in" "make_in" (cD ib) (aS ib) (ag ib) .none Ru Sk Ue Tu MD SY),TU])(UI:codeIn K MD "make_in"=true)(Tt:keepIn K (.ref MZ)=true)(QU:nsIn K mainGlobals "ask_in"=some (some (.ref Ml)))(UL:K.lookup Ml=some #[S6,TR,.func (fnOf "ask_in" "ask_in" (cD jl) (aS jl) (ag jl) .none SE RM Uy RW Qe To),Ti])(T9:codeIn K Qe "ask_in"=true)(Sz:keepIn K (.ref Ml)=true)(Qt:nsIn K mainGlobals "case_in"=some (some (.ref PF)))(SM:K.lookup PF=some #[RZ,RL,.func (fnOf "case_in" "case_in" (cD hV) (aS hV) (ag hV) .none R8 SN RT TB L9 RA),R1])(Uk:codeIn K L9 "case_in"=true)(Sv:keepIn K (.ref PF)=true)(Ra:nsIn K mainGlobals "new_in"=some (some (.ref OQ)))(TV:K.lookup OQ=some #[Sb,Sa,.func (fnOf "new_in" "new_in" (cD jC) (aS jC) (ag jC) .none UC R7 Ug So Mh T5),Sf])(SI:codeIn K Mh "new_in"=true)(Ro:keepIn K (.ref OQ)=true)(TX:nsIn K mainGlobals "parted"=some (some (.ref xS)))(Rk:K.lookup xS=some #[Oy,NC,.func (fnOf "parted" "parted" (cD eu) (aS eu) (ag eu) (.ref Th) M8 Ph MV Qd JW Qj),Nn])(TH:codeIn K JW "parted"=true)(Ta:keepIn K (.ref xS)=true)(T7:nsIn K mainGlobals "law"=some (some (.ref Tx)))(Tq:K.lookup Tx=some #[UA,Tv,.func (fnOf "law" "law" (cD ni) (aS ni) (ag ni) .none OV PX NX MC IX O3),UQ])(Rg:codeIn K IX "law"=true)(Uw:keepIn K (.ref Tx)=true)(EH:nsIn K mainGlobals "all"=some none)(zk:nsIn K mainGlobals "bool"=some none)(j7:nsIn K mainGlobals "enumerate"=some none)(Cj:nsIn K mainGlobals "int"=some none)(iO:nsIn K mainGlobals "isinstance"=some none)(CZ:nsIn K mainGlobals "len"=some none)(yq:nsIn K mainGlobals "list"=some none)(BX:nsIn K mainGlobals "max"=some none)(Dc:nsIn K mainGlobals "min"=some none)(u9:nsIn K mainGlobals "range"=some none)(lM:nsIn K mainGlobals "reversed"=some none)(DR:nsIn K mainGlobals "str"=some none)(DU:nsIn K mainGlobals "sum"=some none)(vq:nsIn K mainGlobals "tuple"=some none)(Cf:nsIn K mainGlobals "zip"=some none)(R3:nsIn K mainGlobals "TAKEN_WORDS"=some (some (.ref at_)))(Rr:K.lookup at_=some #[.type "tuple",XN,.seq BI nT,Se])(Ur:nsIn K mainGlobals "LONGEST_NAME"=some (some (.int 8 T3)))(SX:nsIn K mainGlobals "MOST_FIGURES"=some (some (.int 6 WY)))(Uj:nsIn K mainGlobals "BRACKETS"=some (some (.ref Rb)))(RH:K.lookup Rb=some #[.type "dict",none,.dict U5 Xb,#v[]])(Sn:K.lookup Th=some #[Xa,Xc,.seq #v[.str "|" WJ] nP,Xh])(RB:(Rb == sysModules)=false)(SA:ou w U5.toList (brk Md MA ML MZ Ml PF OQ))(Q1:Vals (taken.map V.str) BI.toList) :
  ∃ fd:FuncData,(∀ (s:Shared) (v:Value),BindsTo s fd #[[v],[]] [("_law_script",v)])/\∀ base:Heap,K.In base->base.Ns mainGlobals mg->bV l.prog w K mg base aD 62 fa fd ["_law_script"] (z6 K):=by
 have e:=X3.symm.trans (Y6 X G T7);cases e;have hsz:BI.size<=sizeLine:=by
  have q:=Q1.length;have q2:BI.toList.length=BI.size:=by simp
  have q3:(taken.map V.str).length=13:=rfl;have q4:(13:Nat)<=sizeLine:=by decide
  cbv
 have T:Txt K mg:=#[YV X G EH,YV X G zk,YV X G j7,YV X G Cj,YV X G iO,YV X G CZ,YV X G yq,YV X G BX,YV X G Dc,YV X G u9,YV X G lM,YV X G DR,YV X G DU,YV X G vq,YV X G Cf];have J:TK K mg at_:=#[#[_,Y6 X G Ur],#[_,Y6 X G SX],Y6 X G R3,λH=>.inr #[_,BI,nT,Rr,U,U,hsz,Q1]];have D:LR l.prog w K Rb (brk Md MA ML MZ Ml PF OQ):=#[#[_,RH,SA.dict (by show List.Nodup (["+","-","*","zero","let","make","ask","case","new"]:List Str);decide+kernel)],RB];have QH:=Y6 X G Uj;have DK:uG K "parted" "parted" eu xS _ "|" WJ:=#[#[Oy,NC,M8,Ph,MV,Qd,JW,Qj,Nn,Th,_,nP,U,Rk,TH,Sn,U],Ta];have Hq:=DK.binds;have Gx:=Y6 X G TX;have mOP:=Y6 X G Q5;have FOP:Own K mg uL:=jM X G Q5 Ua Sj RD λ_ _ _ _ _ _=>two2 λ_ _=>rfl;have mZE:=Y6 X G Q3;have FZE:Own K mg og:=jM X G Q3 RY U0 Tr λ_ _ _ _ _ _=>two2 λ_ _=>rfl;have mLE:=Y6 X G QR;have FLE:Own K mg qr:=jM X G QR Rw UN UY λ_ _ _ _ _ _=>two2 λ_ _=>rfl;have mMA:=Y6 X G QC;have FMA:Own K mg om:=jM X G QC Su UI Tt λ_ _ _ _ _ _=>two2 λ_ _=>rfl;have mAS:=Y6 X G QU;have FAS:Own K mg qJ:=jM X G QU UL T9 Sz λ_ _ _ _ _ _=>two2 λ_ _=>rfl;have mCA:=Y6 X G Qt;have FCA:Own K mg oG:=jM X G Qt SM Uk Sv λ_ _ _ _ _ _=>two2 λ_ _=>rfl;have mNW:=Y6 X G Ra;have FNW:Own K mg rX:=jM X G Ra TV SI Ro λ_ _ _ _ _ _=>two2 λ_ _=>rfl;have FLa:=yJ (st:=ni) Tq Rg Uw;let(fLI,fdLI,FL0,mLI,bLI):=id Vp;refine#[fnOf "law" "law" (cD ni) (aS ni) (ag ni) .none OV PX NX MC IX O3,λs v=>.of_eq U,λbase _ _=>?_];have gIN:C4 l.prog w K mg base aD ky 2 (aO K .no (LJ BO)):=V5.c λ_ _ F=>HQ (Hn (P:=l.prog) (w:=w) (base:=base) F T J FL0 mLI bLI);have gNU:C4 l.prog w K mg base aD j3 2 (aO K .no (LJ isNum)):=Wr.c λ_ _ F=>HQ (Bt (P:=l.prog) (w:=w) (base:=base) F T J FL0 mLI bLI);have gNE:=MP (P:=l.prog) (w:=w) (base:=base) JC T;have gNI:=Qi (P:=l.prog) (w:=w) (base:=base) gNE gIN VN T;have gIK:=OX (P:=l.prog) (w:=w) (base:=base) gIN WL T;have gKI:=PD (P:=l.prog) (w:=w) (base:=base) gNE gIK VY T;have gTI:=O0 (P:=l.prog) (w:=w) (base:=base) gNU gNI VZ T;have gTS:=MT (P:=l.prog) (w:=w) (base:=base) gTI VW T;have gIR:=Pj (P:=l.prog) (w:=w) (base:=base) gNE gNI gTI VX T;have gRS:=MB (P:=l.prog) (w:=w) (base:=base) gIR WS T;have gOP:=PC (P:=l.prog) (w:=w) (base:=base) gNE gTS FOP T;have gZE:=Mn (P:=l.prog) (w:=w) (base:=base) gNE gTS FZE T;have gLE:=Pp (P:=l.prog) (w:=w) (base:=base) gNE gNI gTS FLE T;have gMA:=Qg (P:=l.prog) (w:=w) (base:=base) gNE gNI gTS FMA T;have gAS:=OA (P:=l.prog) (w:=w) (base:=base) gNE gNI gTI gTS FAS T;have gPD:=NL (P:=l.prog) (w:=w) (base:=base) DK T;have gCA:=MO (P:=l.prog) (w:=w) (base:=base) gPD DK Gx Hq gNE gTI gKI gRS FCA T;have gNW:=OC (P:=l.prog) (w:=w) (base:=base) gPD DK Gx Hq gNE gKI gRS FNW T;have gBI:=Ow gNE (gOP.KG mOP (by decide)) (gZE.KG mZE (by decide)) (gLE.KG mLE (by decide)) (gMA.KG mMA (by decide)) (gAS.KG mAS (by decide)) (gCA.KG mCA (by decide)) (gNW.KG mNW (by decide)) D QH QZ;have gIS:=Mr (P:=l.prog) (w:=w) (base:=base) gNE gBI QW T;have gPT:=Mw (P:=l.prog) (w:=w) (base:=base) VB T;have gPR:=OG (P:=l.prog) (w:=w) (base:=base) VQ T;have gPC:=OW (P:=l.prog) (w:=w) (base:=base) gPT gPR Vi T;have gSH:=Oe (P:=l.prog) (w:=w) (base:=base) gPC Vu T;have gLW:=Kx (Iz (P:=l.prog) (w:=w) (base:=base) Qp T) (Lv (P:=l.prog) (w:=w) (base:=base) Qp T);have gLV:=Iz (P:=l.prog) (w:=w) (base:=base) Qp T;have gTW:=P7 (P:=l.prog) (w:=w) (base:=base) VE T;have gPA:=Pu (P:=l.prog) (w:=w) (base:=base) Vg T gTW;have gSF:=N7 (P:=l.prog) (w:=w) (base:=base) Vt T;have gSM:=Nj (P:=l.prog) (w:=w) (base:=base) gSF VD T;have gSA:=O5 (P:=l.prog) (w:=w) (base:=base) gSF Vb T;have gSC:=O6 (P:=l.prog) (w:=w) (base:=base) gSH VU T;have gMR:=OJ (P:=l.prog) (w:=w) (base:=base) gSM gSA gSC Wm T;have gAQ:=Mg (P:=l.prog) (w:=w) (base:=base) gSM gSA gSC VR T;have gRK:=PB (P:=l.prog) (w:=w) (base:=base) gMR gAQ Wi T;have gUO:=MJ (P:=l.prog) (w:=w) (base:=base) WU T;have gUI:=Mm (P:=l.prog) (w:=w) (base:=base) gPA gUO Vo T;have gMI:=OT (P:=l.prog) (w:=w) (base:=base) VL T;have gAI:=MG (P:=l.prog) (w:=w) (base:=base) WM T;have gTD:=OF (P:=l.prog) (w:=w) (base:=base) gMI gAI WH T;have gUB:=NT (P:=l.prog) (w:=w) (base:=base) gTD gUI V4 T;have gCR:=PM (P:=l.prog) (w:=w) (base:=base) gUB Wu T;have gXR:=Nx (P:=l.prog) (w:=w) (base:=base) gCR WV T;have gSW:=Pt (P:=l.prog) (w:=w) (base:=base) gXR gRK VO T;have gMK:=Mu (P:=l.prog) (w:=w) (base:=base) gNE gNI gKI Wl T;have gAK2:=JE (P:=l.prog) (w:=w) (base:=base) gNE gMK gKI Pn T;have gCE:=PZ (P:=l.prog) (w:=w) (base:=base) gNE gNI gTI Wg T;have gCS:=Mz (P:=l.prog) (w:=w) (base:=base) gCE WE T;have gNK:=Pr (P:=l.prog) (w:=w) (base:=base) gNE gNI Wc T;have gIX:=N1 (P:=l.prog) (w:=w) (base:=base) WQ T;have gFX:=Mc (P:=l.prog) (w:=w) (base:=base) gIX V0 T;have gNR:=Mk (P:=l.prog) (w:=w) (base:=base) Wy T;have gHT:=PR (P:=l.prog) (w:=w) (base:=base) Vc T;have gTX:=Hx gLV LX T 11;have gOR:=L7 (P:=l.prog) (w:=w) (base:=base) gHT gTX Vs T;have gXD:=N2 (P:=l.prog) (w:=w) (base:=base) gLW WX T;have gLX:=OH (P:=l.prog) (w:=w) (base:=base) gXD W0 T;have gLR:=OM (P:=l.prog) (w:=w) (base:=base) gLX gOR WN T;have gTR:=O4 (P:=l.prog) (w:=w) (base:=base) gPD DK Gx Hq gNE gMK gAK2 gCS gNK QX T;have gKS:=NK (P:=l.prog) (w:=w) (base:=base) gIS gTR W3 T;have gRD:=Od (P:=l.prog) (w:=w) (base:=base) gFX gKS gXR gNR VC T;have gAL:=Ht (P:=l.prog) (w:=w) (base:=base) LD T 51;have gRI:=Ox (P:=l.prog) (w:=w) (base:=base) gLR gSW gRD gAL gCR gLX U6 T;have gDr:=λd l'=>(Kl (P:=l.prog) (w:=w) (base:=base) Vj T).imp λ_ _=>Hb (d:=d) (l:=l');have gWo:=λd l'=>Dp (gDr d l') Wv T;have gAN:=λd l'=>O2 (gDr d l') WA T;have gAK:=λd l'=>Na (gDr d l') Wo T;have gAF:=λd l'=>Ov (gDr d l') (gAN d l') (gAK d l') Wx T;have gAH:=λd l'=>Pe (gAN d l') (gAK d l') (gAF d l') V6 T;have gTe:=λd l'=>(C4.ra λr=>Il (r:=r) ((gDr d l').imp λ_ _=>kb) ((gAN d l').imp λ_ _=>kb) ((gAK d l').imp λ_ _=>kb) LI LM LH T 11).up (m:=26) (by decide);have gAP:=λd l'=>C4.ra λr=>NB (r:=r) ((gDr d l').imp λ_ _=>kb) ((gAN d l').imp λ_ _=>kb) ((gAH d l').imp λ_ _=>kb) (gTe d l') Vn T;exact Ll gWo gAP gRI (Jv (P:=l.prog) (w:=w) (base:=base) Ws T) FLa T
theorem walk{l:PySem.W.OpenLaw}{q:Program}{loose:List Str}{XP:(Str->Option Value)->Heap->Prop}{YP:World->Heap->Prop}{d:DefRec}{K:Params->Frag}(hn:l.most=some 63)(NO:d.params.defaults=[])(hY:∀ (w:World) (h:Heap),YP w h->(K w.params).In h)(F:∀ (w:World) (mg:Str->Option Value) (fa:Addr) (h:Heap),(K w.params).In h->h.Ns mainGlobals mg->mg d.name=some (.ref fa) ->
   ∃ fd:FuncData,(∀ (s:Shared) (u:Value),BindsTo s fd #[[u],[]] [("_law_script",u)])/\∀ base:Heap,(K w.params).In base->base.Ns mainGlobals mg->bV l.prog w (K w.params) mg base aD 62 fa fd ["_law_script"] (z6 (K w.params))) :
  PySem.W.WalkO q loose XP YP l.row.toRowW d [] (λf vs=>PySem.call f vs) :=
 L2.FY (n:=63) (k:=62) (x:="_law_script") (CX:=λ_=>aD) (sp:=λw=>z6 (K w.params)) hn (by decide) NO #[U,by decide,by decide] hY F (λ_ _ a ns hl _ hS=>#[a,ns,U,hS,hl,λ_=>rfl]) λ_ _ _ _ _ z=>z
end QD
end
end
end
section
local macro_rules
 | `(#check [$n,*])=>do return Lean.mkNullNode (<-n.getElems.mapM fun x=>`(command|theorem $(Lean.mkIdent (.mkSimple s!"tw{x.raw.isNatLit?.get!}")):ident :True:=trivial))
namespace PySem.W.Fast
#check [8617270568104459957,11609809888441715796,3782303674885454041,15810196171952244115,6784961596604025713,255274915035219710,10509227654815799360,4548350029179267355,54148761916023596,1346280178036003555,8978503562279267464,12708607079869723833,6052790553499437175,16404203876958438038,11593230238933070554,11479145459318551299,8077419260288394510,13873776986073872034,4743431933613162512,4858905144019479289,14595352730893126519,5752672006974914260,8122866572554092265,15678076109391062202,11786767825049182500,7748004943165188528,1734962689404232918,2069863696481569466,16115644606587987882,6894161916594640553,11399141697344324084,8364293529688604932,13502600910452847,11980862469293306389,11686985022024667548,7571388400393822065,11477851469450090950,1419780224350531968,17629915649653838116,14854545700657072890,1766741512852939194,2648212669225472528,14129682654320697025,9076764970016383339,4674643245305037705,17925186099888702986,16908048673719369890,1759815998572803856,12453177835457414372,5065521151524502049,2080834263740701269,13236582606546619455,7987344706479289222,6309020477500053510,11447544716937811443,27819191554568660,11579055328517632476,2841314245057014777,15410277130758127687,1643702351660210304,1727549545546196173,1260147705465663131,6366447383048723583,5150321602930244553,12064995111303503566,12888255329210984344,8351572017901311450,15963041639111744179,1093523301026221300,12283974969745328045,14811335810735702429,18359882185839607022,8625021486495467934,15950378274377674704,737385510002272284,4113239749803216173,10117680020184643124,5617808511986051279,10706848131086972009,14693457179783228169,4851897800187398986,2807440831440619514,15272136799337600575,4527188400678406249,8489021501269522901,13920038406630086576,17687064267146922212,287943849431828266,282339177273797861,18268641375138085093,710247827361647079,6127590965421383472,4772108484712245093,11083706630352784706,3759852055101745881,10956193827330386238,10638972930930686447,14491034228107399438,1708178091471546639,6660774324843233122,2460345669302911996,3158658544214336501,8187294397841460923,17457627691493690574,6743456144230417207,10117196170082831519,14940700738364332628,13991982612970005728,11338512598367624176,1789150181312877163,9105750134011416680,11518765760709498639,8673044119827899241,15892531249140845997,6034593612411155720,5971188491918771262,4199379370818062432,11470921549192470698,2402836325290578673,2283257531568830119,9875734648179674869,601122494644672846,16479127589714478755,164922927736938138,13844371616035386225,15831784015006843535,12436246552160059943,10859137943706059124,7775477428407372477,12041365641596398249,1203520025926909650,8919084388820044761,7835402722334005968,7103423929928194066,14046794050324254104,15850932734005433181,11008746355157178389,7532551539528291694,7352047650160938217,15435781677314330544,11260886704154751313,15605390795291604332,4860358233775056746,1626918809450646325,4469140277111997496,12916234813978910020,7693093149890061574,3266153219790363542,3633418708112105380,1889497332891562518,10896987545164842298,5832494730946801600,17499074407122220303,12223110249065694816,9404984917678448769,2577894926164737732,6623459270665880437,6809810385406584970,7576437422770229444,2866860023625798971,3055183849499970920,8095587163818116306,4781571300483396943,5518306502763818188,2045728114869141180,7425896789642827312,17404645881494632659,3447896965641228273,2544656064806885075,16585323228185646689,11025365374526934375,3906921085107488143,14380253446155329215,16236532641649507540,12024404283912300274,12627738054585348720,14669666679751734626,13967159457637940276,4496458944317962299,5647614977143242377,9950568453272781137,16383733443916468096,16417814631002966111,16107713712527060663,8540002953507829206,1475571578445537120,9513307525104410425,11613805051169828826,7871309137219477247,7490299843335253553,621871028717864227,8627597747560302474,9703115349528974066,4452897861612529813,7473469411510505295,2564983803236999680,10001809525309478066,7956812608344579738,15297864129670826389,4822597641997346128,3903432905929878542,5346816556556330233,14340644332269160235,8928492847859931877,16321755933407715661,10984110977542303618,6433789534229175072,8032902132644176150,11403498003411799742,13307646665474969855,11249199934369997331,8470957745060279810,8013989369197028916,7443321433992098033,5551738524796809018,3311782262149966542,5422031401489466056,14511722364508018273,16051040469278174333,14922018768034927908,14954988108782632960,7627136679607731709,1847650169400659815,17593176253187632009,5610693872648870687,6108704745526669703,4351911007718103584,9077259903377131333,1048322429578104721,17711446858474335724,6660653308548743127,2517808342000133063,3672819728171425417,7804452936361305101,648905550110124740,12471857680043225758,2156753405445656076,8992191373930652235,9487235572620296582,11306711420328036161,18276514845798567702,15032675630363203981,6298971754357197590,14035106714281455593,11439967090340163276,2551129771810219755,17621714521025166010,1757744014531457553,12584954379464466878,3087176255019039943,1140383320293297280,10981761817096750881,18216814633613579803,152497689338778346,5680572546678087464,2932733996529929294,12425400035570184161,12324072896113660662,620402755593856592,15084759876799121763,17824143345729499345,7086830828621759278,10188744163678676768,8760792566679390581,10304524518517558424,14756706689887432604,3230532539073140856,8451411712262044830,12639817431735241209,1178242591961379135,10830005020479985766,10158339349770803210,14810982074965519976,10866120970516702644,16674550452387413894,1871822662344019773,14832601092510539702,10247991284673760656,5736076834442357803,8631409559484456153,8619549512767731257,15264065550335225899,6072568931532799012,15834946895043832347,7254924082279696399,12910420774076641377,15944793294273667416,8149173030419055629,11034665758940039473,11379547436528075032,12282092231069741452,8074222311086552946,6377799812850520876,9973766598325320887,15075451914382442863,13450404934080539830,14099869805678793695,8282643390689063841,5957149829447163494,11447979251494726029,15042964377570004244,5469534543667767074,10196214762668109797,3694889989161861423,15766685724941796948,797306254665965022,10804049857854756146,15526200861160805707,9131705551729768399,11700652146300786948,2636936470159487123,2291374324278651324,17175595182567401564,1083342390433854870,7078875754442456207,15051084221660093153,14377655811482460315,13911502609274198854,9899996461192144401,2619745647698415890,11243066259496417336,15819880637971400141,16924246239838554793,7310885770010509816,13351715274592732018,4435065123223959993,5898007620047823954,3700680919719510757,4535411178267671182,1857549654706319772,15461829761400065376,16351235392894178748,15782342517367849990,9131489258954006686,14609023825770593704,2301690663693506452,4781955022064869051,5980043427004429460,16756586152278355280,14112563213857947612,13185460686405259734,16238932375955278626,16926321041514838681,1753719037261793924,5230547641839197067,8568715324365978247,17718043715718413015,18368572615691208321,7813926207095903812,14337801869743799404,18407870635963850336,2237068228592753621,15099700014734663881,15026150799219654538,5618688611905120024,5546836694992647240,4176871244325444654,14332409213849238480,3241033092770239915,15016135229049303359,506138856497713239,4903101018820505540,13008061613501093272,15625446526708874857,17791696300615801547,16210873138785300773,12311114101835055297,2190523715389463917,5604327339057510564,3604871445738887898,2753473048969165688,17981909015352660152,1794976072547803071,14462833842100951320,92022036422043744,7826465493390310401,4226665943249100482,10547514262975976837,18151044325963361448,12019253605961793137,6380666466000089032,16574070342395463636,4858327624893443905,4890278224608020315,16070935858304914645,16531521596225932471,3886955804462217193,11209260163638574539,17293368159100856917,12436565867251331976,14621243922549016476,7673251877762824601,13576187661480164547,8159956540731131928,762917119602273426,11720223609152067017,8898049107950464708,3472149609981420134,14552626214031514841,490650014894222933,17333491864376513610,7114106350092945217,14656239192277219681,1754509731153654355,7662012262827954410,684205353771731983,3137443478175737116,13294049603076035891,8794139713020074856,3225960777065035441,6025284386642160848,17615168118412444399,14079937408270911987,12379314345253197954,14852475304789922807,13555950590366445937,14191826315379755896,14299408927490390589,18377987120859250997,3481727901725236533,17914543498827893698,12224851848428264185,3115011535700093193,1275297459075645263,9355567267838566239,8333741610999467971,15260560067590413034,17649617128002139639,17503031562175513268,3577965254790172947,16083155861027677482,10789348477903020084,12989897826393187290,7947233655441556486,12186455337653297128,9343951580727786817,7892248407269999895,8326400501678296302,15961587654942221666,11059838386564269836,2610254070533071585,14725669847886862805,4337494276080662485,6624506163008283754,1071555893694775310,4740019920523704588,6741654564356080748,5180689495854472153,2384100729613565484,3658303153271590836,17896956636669650570,1575433584159938876,6384724880987275983,1870554465201096011,11611883665629298104,1736840109568490269,1720215017289081064,2051310057830131790,9544567890598483843,1233664960183172116]
end PySem.W.Fast
end
open PySem PySem.W PyProof.Rows
set_option maxRecDepth 100000 in
set_option maxHeartbeats 0 in
theorem PySem.Challenge.cw_sideturn_k03_whole_programs_written_and_holds : PySem.Challenge.rw_sideturn_k03_whole_programs_written_and.Holds := by
 w_on;o_law;k_head;(case hw=>w_witness2)
 k_fill
 refine QD.walk (l:=PySem.Challenge.rw_sideturn_k03_whole_programs_written_and) U U (λw h Y=>PySem.W.kIn_of Y) ?F
 case F =>
  intro w mg fa h KX G hmg
  refine' QD.all_mk KX G hmg ?Vp ?V5 ?WL ?Wr ?JC ?VN ?VY ?VZ ?VW ?VX ?WS ?QZ ?QW ?VQ ?VB ?Vi ?Vu ?VL ?WM ?VE ?Vg ?Vt ?VD ?Vb ?VU ?Wm ?VR ?WU ?Vo ?WH ?V4 ?Wu ?WV ?Wi ?VO ?Wl ?Pn ?Wg ?WE ?Wc ?QX ?WQ ?V0 ?W3 ?Wy ?VC ?Ws ?Vj ?Wv ?WA ?Wo ?LI ?LM ?LH ?Wx ?V6 ?Vn ?Qp ?LX ?Vc ?Vs ?WX ?W0 ?WN ?LD ?U6 ?Q5 ?Ua ?Sj ?RD ?Q3 ?RY ?U0 ?Tr ?QR ?Rw ?UN ?UY ?QC ?Su ?UI ?Tt ?QU ?UL ?T9 ?Sz ?Qt ?SM ?Uk ?Sv ?Ra ?TV ?SI ?Ro ?TX ?Rk ?TH ?Ta ?T7 ?Tq ?Rg ?Uw ?EH ?zk ?j7 ?Cj ?iO ?CZ ?yq ?BX ?Dc ?u9 ?lM ?DR ?DU ?vq ?Cf ?R3 ?Rr ?Ur ?SX ?Uj ?RH ?Sn ?RB ?SA ?Q1
  all_goals try (refine' DL.jM KX G ?a ?l ?c ?k ?b;(case a=>k_is);(case l=>k_is);(case c=>k_is);(case k=>k_is);(case b=>intro _ _ _ _ _ _ us hl;rcases us with _ | ⟨_,_ | ⟨_,_ | ⟨_,_ | ⟨_,_ | ⟨_,_ | ⟨_,_⟩⟩⟩⟩⟩⟩<;>first | rfl | cases hl))
  (case Q5=>k_is)
  (case Ua=>k_is)
  (case Sj=>k_is)
  (case RD=>k_is)
  (case Q3=>k_is)
  (case RY=>k_is)
  (case U0=>k_is)
  (case Tr=>k_is)
  (case QR=>k_is)
  (case Rw=>k_is)
  (case UN=>k_is)
  (case UY=>k_is)
  (case QC=>k_is)
  (case Su=>k_is)
  (case UI=>k_is)
  (case Tt=>k_is)
  (case QU=>k_is)
  (case UL=>k_is)
  (case T9=>k_is)
  (case Sz=>k_is)
  (case Qt=>k_is)
  (case SM=>k_is)
  (case Uk=>k_is)
  (case Sv=>k_is)
  (case Ra=>k_is)
  (case TV=>k_is)
  (case SI=>k_is)
  (case Ro=>k_is)
  (case TX=>k_is)
  (case Rk=>k_is)
  (case TH=>k_is)
  (case Ta=>k_is)
  (case T7=>k_is)
  (case Tq=>k_is)
  (case Rg=>k_is)
  (case Uw=>k_is)
  (case EH=>k_is)
  (case zk=>k_is)
  (case j7=>k_is)
  (case Cj=>k_is)
  (case iO=>k_is)
  (case CZ=>k_is)
  (case yq=>k_is)
  (case BX=>k_is)
  (case Dc=>k_is)
  (case u9=>k_is)
  (case lM=>k_is)
  (case DR=>k_is)
  (case DU=>k_is)
  (case vq=>k_is)
  (case Cf=>k_is)
  (case R3=>k_is)
  (case Rr=>k_is)
  (case Ur=>k_is)
  (case SX=>k_is)
  (case Uj=>k_is)
  (case RH=>k_is)
  (case Sn=>k_is)
  (case RB=>rfl)
  (case SA=>(repeat (first | exact .nil | refine .cons ⟨_,U⟩ rfl U ?_)))
  (case Q1=>(repeat (first | exact .nil | refine .cons ⟨_,U⟩ ?_)))
