import PyProof.Rows.All
import Wide.All
import OpenK.AllK
import Wide.FinOn
import Lean
import PyProof.EqAt
import PyProof.EqKinds
import PyProof.TupleCall
import PyProof.ZipIter
import PyProof.NeData
import PyProof.Draws
import PyProof.EnumMake
import PyProof.IsiHeapPairs
import PyProof.IsiNone
import PyProof.ConsumeWalk
import PyProof.TupleOfStr
import PyProof.DictWalks
import KE.KDictSum
import KE.KDictOf
import PyProof.IsiH_list
import PySem.Challenge.RW_sideturn_k15_inner_tables_and_places
set_option genSizeOf false
set_option genInjectivity false
set_option Elab.async false
set_option linter.all false
set_option maxRecDepth 100000
set_option maxHeartbeats 8000000
open Lean in
def cv:Nat->Term->MacroM (TSyntax `rcasesPat)
 |0,_=>Macro.throwUnsupported
 |n+1,t=>do match t with
  |`(($a,$b,*))=>let p<-(#[a]++b.getElems).mapM (cv n);`(rcasesPat|⟨$[$p:rcasesPat],*⟩)
  |`($x:ident)=>`(rcasesPat|$x:ident)
  |`(_)=>`(rcasesPat|_)
  |`(())=>`(rcasesPat|⟨⟩)
  |_=>Macro.throwUnsupported
section
local macro_rules
 | `(tactic|let ($a,$b,*):=$e)=>do `(tactic|obtain $(<-cv 9 (<-`(($a,$b,*)))):rcasesPat:=$e)
local macro_rules
 | `(#[$a,*])=>`(⟨$a,*⟩)
local macro_rules
 | `(#v[$a,*])=>`(List.toArray [$a,*])
local macro_rules
 | `(↑$s)=>`(($s).heap.objs.size)
local macro_rules
 | `(tactic|cbv)=>`(tactic|first|with_reducible assumption|with_reducible exact Nat.le_refl _|with_reducible exact Nat.lt_succ_self _|lia|omega)
local macro_rules
 | `(tactic|ac_nf)=>`(tactic|first|exact .inl rfl|exact .inr rfl|assumption)
local macro_rules
 | `(tactic|ac_rfl)=>`(tactic|first|decide|cbv)
local macro_rules
 | `(command|def $i:declId $s:optDeclSig $v:declVal)=>`(command|noncomputable def $i:declId $s:optDeclSig $v:declVal)
local macro_rules
 | `(command|abbrev $i:declId $s:optDeclSig $v:declVal)=>`(command|noncomputable abbrev $i:declId $s:optDeclSig $v:declVal)
local macro_rules
 | `(!$x)=>`(List $x)
local macro_rules
 | `(tactic|show $t)=>`(tactic|refine $t)
open PySem renaming Value→AC,Addr→AT,wpAny_bind→BT,Expr→Ch,Shared→Cl,wpAny→Da,Heap→Db,wpAny_pure→EQ,sizeLine→Ev,World→FB,Builtin→FM,PyData→FS,Stmt→Fa,Program→Fk,Around→Fr,starEach→GE,mainGlobals→GM,SetTable→GT,NameKind→Gc,backTo→Go,IsPair→IN,rawInt→IR,FuncData→Ix,compareOp→KB,wpAny_field→KF,wpAny_holding→KK,wpAny_mono→KM,Keyword→NE,binaryOp→Os,wpAny_seqItems→PP,wpAny_call_entry→Ps,sysModules→P3,wpAny_newObj_type→Re,backToKw→Rs,keywordEach→SL,Params→SZ,DictEntry→Sc
local macro_rules
 | `(())=>`(by decide)
theorem TW(h:True:=by rfl):True:=h
theorem Tk(h:True:=by decide):True:=h
local macro_rules
 | `($x⁻¹)=>`(autoParam $x TW._auto_1)
local macro_rules
 | `(~~~$x)=>`(autoParam $x Tk._auto_1)
open PySem.W (Frag nsIn findIn keepIn typeIn kitOne fnOf kitAny codeIn InstAt Looks specialIn)
section
open PySem
def Vv:=@List.length_map
def Vw:=@List.length_append
def Vx:=@List.mem_cons_self
def Vy:=@List.mem_cons_of_mem
def Vz:=@Db.get?_push_of_some
def VA:=@List.map_append
def VB:=@Nat.le_refl
def VC:=@List.getElem?_eq_some_iff
def VD:=@List.length_cons
def VE:=@List.map_cons
def VF:=@Nat.le_trans
def VG:=@List.mem_cons
def VH:=@List.mem_singleton
def VI:=@List.mem_map
def VJ:=@List.append_nil
def VL:=@Db.lt_size
def VM:=@List.mem_append
def VN:=@Bool.false_ne_true
def VO:=@List.getElem?_eq_getElem
def VP:=@Db.get?_push_size
def VQ:=@List.size_toArray
def VR:=@List.append_assoc
def VS:=@List.flatMap_cons
def VT:=@Nat.zero_le
def VU:=@List.flatMap_append
def VW:=@Nat.ne_of_lt
def VX:=@List.mem_map_of_mem
def VY:=@List.nil_append
def VZ:=@Nat.lt_of_lt_of_le
def V0:=@List.getElem?_map
def V1:=@Bool.and_eq_true
def V2:=@List.map_map
def V3:=@List.mem_flatMap
def V4:=@List.getElem?_set_ne
def V5:=@Option.some.inj
def V6:=@List.mem_append_right
def V7:=@PySem.W.mg_none_of
def V8:=@List.mem_of_getElem?
def V9:=@List.length_filter_le
def Wa:=@List.mem_append_left
def Wb:=@Option.map_eq_some_iff
def Wc:=@List.mem_of_mem_take
def Wd:=@Array.length_toList
def We:=@List.sum_cons
def Wf:=@List.eq_nil_of_length_eq_zero
def Wg:=@Array.getElem?_toList
def Wh:=@List.getElem_of_mem
def Wi:=@List.nodup_append
def Wj:=@List.map_nil
def Wk:=@List.filter_append
def Wl:=@Db.size_push
def Wm:=@List.getElem?_set_self
def Wn:=@List.length_zipIdx
def Wo:=@List.mem_filter
def Wq:=@Db.get?_update_other
def Wr:=@List.all_eq_true
def Ws:=@List.take_sublist
def Wt:=@Db.get?_update_self
def Wu:=@PySem.F.slot_list_extend
def Wv:=@PySem.F.type_list_extend
def Ww:=@List.of_mem_zip
def Wx:=@List.sum_append
def Wy:=@List.length_take
def Wz:=@Nat.le_add_right
def WA:=@List.mem_of_mem_drop
def WB:=@List.flatMap_nil
def WC:=@List.mem_range
def WD:=@PySem.mem_of_lookup
def WE:=@List.length_set
def WG:=@List.pairwise_iff_getElem
def WH:=@List.getElem?_eq_none
def WI:=@PySem.F.slot_list_pop
def WJ:=@PySem.F.type_list_pop
def WK:=@Nat.succ_le_succ
def WL:=@Nat.lt_irrefl
def WM:=@List.any_cons
def WN:=@List.length_range
def WO:=@List.nodup_cons
def WQ:=@List.map_congr_left
def WR:=@Db.SameBut.update
def WS:=@List.getD_eq_getElem?_getD
def WT:=@List.exists_cons_of_ne_nil
def WU:=@List.length_drop
def WV:=@List.length_singleton
def WW:=@Int.emod_lt_of_pos
def WX:=@List.take_append_drop
def WY:=@PySem.boot_len
def WZ:=@Option.isSome_iff_exists
def W0:=@Int.emod_nonneg
def W2:=@Nat.mul_le_mul_right
def W3:=@Array.mem_toList_iff
def W4:=@Int.toNat_natCast
def W5:=@List.filter_cons_of_neg
def W6:=@List.lookup_cons
def W7:=@Nat.ne_of_gt
def W8:=@PySem.StrLaws.glued_eq_join
def W9:=@List.getElem?_drop
def Xa:=@List.filter_nil
def Xb:=@List.reverse_cons
def Xc:=@List.ext_getElem?
def Xd:=@List.Sublist.refl
def Xe:=@List.pairwise_map
def Xf:=@List.drop_eq_getElem_cons
def Xg:=@Array.getElem?_eq_getElem
def Xh:=@List.getElem_mem
def Xi:=@List.filterMap_cons
def Xj:=@List.length_reverse
def Xk:=@List.filter_cons_of_pos
def Xl:=@Int.eq_ofNat_of_zero_le
def Xm:=@Bool.eq_iff_iff
def Xn:=@PySem.F.slot_str_split
def Xo:=@Nat.lt_succ_of_lt
def Xp:=@List.drop_zero
def Xq:=@Nat.le_of_eq
def Xr:=@Nat.succ_mul
def Xs:=@Nat.pow_succ
def Xt:=@Array.getD_eq_getD_getElem?
def Xu:=@Nat.le_of_not_lt
def Xv:=@List.cons_append
def Xw:=@Array.toList_extract
def Xx:=@List.filter_cons
def Xy:=@List.nodup_iff_pairwise_ne
def Xz:=@Array.toList_append
def XA:=@List.Sublist.append
def XB:=@List.getElem?_range
def XC:=@List.length_pos_iff
def XD:=@List.length_zip
def XE:=@Nat.not_lt_zero
def XF:=@PySem.F.args_tuple_add_2
def XG:=@List.length_filterMap_le
def XH:=@PySem.F.args_str_split_2
def XI:=@List.zip_cons_cons
def XJ:=@List.length_erase_of_mem
def XM:=@PySem.F.entry_tuple_add
def XN:=@PySem.F.plainAttrs_list
def XO:=@List.append_cancel_left
def XQ:=@PySem.F.entry_str_split
def XR:=@List.length_eq_zero_iff
def XS:=@List.take_add_one
def XT:=@Str.length_append
def XU:=@Nat.le_succ_of_le
def XW:=@PySem.F.slot_tuple_add
def XX:=@PySem.F.plainAttrs_str
def XY:=@List.length_pos_of_mem
def XZ:=@List.cons.inj
def X0:=@List.getElem_inj
def X1:=@List.map_reverse
def X2:=@List.range'_succ
def X3:=@PySem.F.slot_dict_get
def X4:=@List.getElem?_zipWith
def X5:=@Array.mem_of_getElem?
def X6:=@Int.ediv_nonneg
def X7:=@Nat.sub_zero
def X8:=@Bool.or_eq_false_iff
def X9:=@List.mem_erase_of_ne
def Ya:=@Nat.succ_pos
end
open PySem in
abbrev Yb:=AC->Cl->Prop
open PySem in
abbrev Yc:=!(AT×Obj)
open PySem in abbrev Ye (N:Env)(e:Ch)(r:!Ch):Prop:=GE (e::r) N=(false,eval e N)::GE r N
open PySem in abbrev Yf (N:Env)(p:Pos)(r:!Ch):Prop:=(Go p (GE r N)).any (·.1)=false
open PySem in abbrev Yg (x:Str):Prop:=(x == ("__debug__":Str))=false
theorem U.{u}{α:Sort u}{a:α}:a=a:=rfl
namespace L2
open PySem PySem.Spec PyProof.Rows
abbrev Key:=Sum Int Str
def r9:Key->AC->Bool
 | .inl k,v=>AC.isInt k v
 | .inr x,v=>AC.isStrOf x v
def QR(w:FB):Key->Int
 | .inl k=>hashInt k
 | .inr x=>hashStr w x
theorem ck:∀ {k:Key} {v:AC},r9 k v=true->(∃ i t,k=Sum.inl i/\v=AC.int i t)\/(∃ x t,k=Sum.inr x/\v=AC.str x t)
 | .inl i,v,h=>by
  let(t,e):=AC.isInt_shape (k:=i) (v:=v) h;exact .inl #[i,t,U,e]
 | .inr x,v,h=>by
  let(t,e):=AC.isStrOf_shape (x:=x) (v:=v) h;exact .inr #[x,t,U,e]
theorem AN(i:Int)(t:Tok):r9 (.inl i) (.int i t)=true:=by simp[r9,AC.isInt]
theorem Bq(x:Str)(t:Tok):r9 (.inr x) (.str x t)=true:=by simp[r9,AC.isStrOf]
theorem JM(a b:Int):decide ((Sum.inl a:Key)=Sum.inl b)=(a == b):=by
 by_cases e:a=b
 .subst e;simp
 .have h:¬ (Sum.inl a:Key)=Sum.inl b:=λq=>e (Sum.inl.inj q);rw[decide_eq_false h];exact (beq_eq_false_iff_ne.mpr e).symm
theorem KP(a b:Str):decide ((Sum.inr a:Key)=Sum.inr b)=decide (a=b):=by
 by_cases e:a=b
 .subst e;simp
 .have h:¬ (Sum.inr a:Key)=Sum.inr b:=λq=>e (Sum.inr.inj q);rw[decide_eq_false h,decide_eq_false e]
theorem LJ(a:Int)(b:Str):decide ((Sum.inl a:Key)=Sum.inr b)=false:=decide_eq_false (λq=>nomatch q)
theorem Lh(a:Str)(b:Int):decide ((Sum.inr a:Key)=Sum.inl b)=false:=decide_eq_false (λq=>nomatch q)
def b9(prog:Fk)(w:FB):PySem.KeyKind prog w Key where
 is:=r9
 hash:=QR w
 inj:=λv a b ha hb=>by
  rcases ck ha with ⟨i,t,rfl,rfl⟩ | ⟨x,t,rfl,rfl⟩
  .rcases ck hb with ⟨j,u,rfl,e⟩ | ⟨y,u,rfl,e⟩
   .injection e with e1 _;rw[e1]
   .exact nomatch e
  .rcases ck hb with ⟨j,u,rfl,e⟩ | ⟨y,u,rfl,e⟩
   .exact nomatch e
   .injection e with e1 _;rw[e1]
 byValue:=λk v h=>by
  rcases ck h with ⟨i,t,rfl,rfl⟩ | ⟨x,t,rfl,rfl⟩<;>rfl
 pyHash:=λhv h=>by
  rcases ck hv with ⟨i,t,rfl,rfl⟩ | ⟨x,t,rfl,rfl⟩
  .exact wpAny_pyHash_int h
  .exact wpAny_pyHash_str h
 eqBool:=λhu hv h=>by
  rcases ck hu with ⟨i,t,rfl,rfl⟩ | ⟨x,t,rfl,rfl⟩
  .rcases ck hv with ⟨j,u,rfl,rfl⟩ | ⟨y,u,rfl,rfl⟩
   .rw[JM] at h;exact wpAny_eqBool_int h
   .rw[LJ] at h;exact SeqAt.EqAt.int_str i t y u _ _ _ _ h
  .rcases ck hv with ⟨j,u,rfl,rfl⟩ | ⟨y,u,rfl,rfl⟩
   .rw[Lh] at h;exact SeqAt.EqAt.str_int x t j u _ _ _ _ h
   .rw[KP] at h;exact wpAny_eqBool_str h
 «strs»:=λk x t v h=>by
  rcases ck h with ⟨i,u,rfl,e⟩ | ⟨y,u,rfl,e⟩
  .exact nomatch e
  .injection e with e1 _;subst e1;cases v<;>rfl
theorem vU(prog:Fk)(w:FB)(i:Int)(t:Tok):(b9 prog w).is (.inl i) (.int i t)=true:=AN i t
theorem wX(prog:Fk)(w:FB)(x:Str)(t:Tok):(b9 prog w).is (.inr x) (.str x t)=true:=Bq x t
set_option genInjectivity true in inductive V where
 | cA | bl (b:Bool) | int (i:Int) | str (x:Str) | AA (b:Array UInt8) | Rm (b:UInt64) | ref (a:AT) | ty (n:String)
 deriving DecidableEq
def RelV:V->AC->Prop
 | .cA,u=>u=AC.none
 | .bl b,u=>u=AC.bool b
 | .int i,u=>∃ t,u=AC.int i t
 | .str x,u=>∃ t,u=AC.str x t
 | .AA b,u=>∃ t,u=AC.bytes b t
 | .Rm b,u=>∃ t,u=AC.float b t
 | .ref a,u=>u=AC.ref a
 | .ty n,u=>u=AC.type n
abbrev Vals:!V->!AC->Prop:=Paired RelV
theorem Vals.length{xs:!V}{us:!AC}(r:Vals xs us):xs.length=us.length:=Paired.length r
theorem Vals.get:∀ {xs:!V} {us:!AC} {i:Nat} {x:V},Vals xs us->xs[i]?=some x->∃ u,us[i]?=some u/\RelV x u
 | _,_,_,_,.nil,e=>by simp at e
 | _,_,0,_,.cons r _,e=>by simp at e;subst e;exact#[_,rfl,r]
 | _,_,i+1,x,.cons _ t,e=>by
  let(u,h1,h2):=Vals.get (i:=i) (x:=x) t (by simpa using e);exact#[u,by simpa using h1,h2]
theorem Vals.set{x:V}{u:AC}(r:RelV x u):∀ {xs:!V} {us:!AC} (i:Nat),Vals xs us->Vals (xs.set i x) (us.set i u)
 | _,_,_,.nil=>.nil
 | _,_,0,.cons _ t=>.cons r t
 | _,_,i+1,.cons q t=>.cons q (Vals.set r i t)
theorem Vals.append:∀ {xs ys:!V} {us ws:!AC},Vals xs us->Vals ys ws->Vals (xs++ys) (us++ws)
 | _,_,_,_,.nil,s=>s
 | _,_,_,_,.cons r t,s=>.cons r (Vals.append t s)
theorem Vals.take:∀ {xs:!V} {us:!AC} (n:Nat),Vals xs us->Vals (xs.take n) (us.take n)
 | _,_,0,_=>.nil
 | _,_,_+1,.nil=>.nil
 | _,_,n+1,.cons r t=>.cons r (Vals.take n t)
theorem Vals.drop:∀ {xs:!V} {us:!AC} (n:Nat),Vals xs us->Vals (xs.drop n) (us.drop n)
 | _,_,0,r=>r
 | _,_,_+1,.nil=>.nil
 | _,_,n+1,.cons _ t=>Vals.drop n t
def oA:Option V->Option AC->Prop
 | some v,some u=>RelV v u
 | none,none=>True
 | _,_=>False
def KV{κ:Type}:!(κ×V)->!(κ×AC)->Prop:=Paired λ(p:κ×V) (q:κ×AC)=>p.1=q.1/\RelV p.2 q.2
def kV:Key->V
 | .inl i=>.int i
 | .inr x=>.str x
inductive HO where
  | lst (xs:!V)
  | tup (xs:!V)
  | dK (kvs:!(Key×V)) | dT (kvs:!(!Key×V))
  | set (S:Int->Bool) (n:Nat)
  | ins (C dx:AT) (fs:!(Str×V))
  | own (x:AT)
  | xd (fs:!(Str×V))
  | met (f x:AT)
  | RT (lo hi:Int)
  | fB (o:Obj) (u:HO)
  | JJ (ps:Array AC)
  | ext (φ:Db->Prop)
abbrev Hp:=AT->Option HO
def upd(H:Hp)(a:AT)(o:HO):Hp:=λb=>if b=a then some o else H b
theorem aA{H:Hp}{a:AT}{o:HO}:upd H a o a=some o:=by unfold upd;rw[if_pos U]
theorem aw{H:Hp}{a b:AT}{o:HO}(h:b≠a):upd H a o b=H b:=by unfold upd;rw[if_neg h]
theorem Hw{H:Hp}{a:AT}{o u:HO}:upd (upd H a o) a u=upd H a u:=by
 funext b;unfold upd;split<;>rfl
theorem HY{H:Hp}{a b:AT}{o u:HO}(h:H a=some o)(h':H b=some u)(d:o≠u):a≠b:=by
 intro e;subst e;rw[h] at h';exact d (V5 h')
theorem aF{H:Hp}{a b:AT}{o:HO}(h:H a=some o)(h':H b=none):a≠b:=by
 intro e;subst e;rw[h] at h';cases h'
section
variable(P:Fk)(w:FB)
def b6(H:Hp)(h:Db)(a:AT):HO->Prop
 | .lst xs=>xs.length<=Ev/\∃ (its:!AC) (n:Nat),Vals xs its/\h.get? a=some { cls:=.type "list",data:=.seq its.toArray n }
 | .tup xs=>xs.length<=Ev/\∃ its:!AC,Vals xs its/\IsTup h a its.toArray
 | .dK kvs=>kvs.length<=Ev/\(a == P3)=false/\∃ vs,KV kvs vs/\h.DictOf (b9 P w) a vs
 | .dT kvs=>kvs.length<=Ev/\(a == P3)=false/\∃ xs:!(!Key×AT×AC),
   Paired (λ(p:!Key×V) (q:!Key×AT×AC)=>p.1=q.1/\H q.2.1=some (.tup (p.1.map kV))/\RelV p.2 q.2.2) kvs xs /\
   ∃ o es ep,h.get? a=some o/\o.ExactDict/\o.data=.dict es ep/\es.toList=xs.map (entryOfKey (tupleKind (b9 P w)))/\(xs.map (·.1)).Nodup
 | .set S n=>h.SetOf (intKind P w) a S n
 | .ins C dx fs=>H dx=some (.own a)/\fs.length<=1000/\dx≠a/\h.get? a=some (PySem.W.instObj C dx) /\
   ∃ mA,h.Ns1 dx mA/\(∀ f,oA (fs.lookup f) (mA f))/\PySem.Within mA (fs.map (·.1))
 | .own _=>∃ o,h.get? a=some o
 | .xd fs=>∃ mA,h.Ns1 a mA/\∀ f,oA (fs.lookup f) (mA f)
 | .RT lo hi=>∃ t u v,h.get? a=some { cls:=.type "range",data:=.fields #v[.int lo t,.int hi u,.int 1 v] }
 | .fB o u=>h.get? a=some o/\b6 H h a u
 | .JJ ps=>h.get? a=some { cls:=.none,data:=.fields ps }
 | .met f x=>h.get? a=some (PySem.W.methodObj (.ref f) (.ref x))
 | .ext φ=>φ h/\(∃ o,h.get? a=some o)/\∀ h1 h2:Db,φ h1->(∀ o,h1.get? a=some o->h2.get? a=some o)->φ h2
def mj(H:Hp)(h:Db):Prop:=∀ a o,H a=some o->b6 P w H h a o
end
section
variable{P:Fk}{w:FB}{H H':Hp}{h h':Db}{a:AT}{o:HO}
theorem b6.lt(x:b6 P w H h a o):a < h.objs.size:=by
 cases o with
 | lst xs=>let(_,_,_,_,e):=x;exact VL e
 | tup xs=>let(_,_,_,p):=x;exact p.lt
 | dK kvs=>let(_,_,_,_,o,_,_,e,_):=x;exact VL e
 | dT kvs=>let(_,_,_,_,o,_,_,e,_):=x;exact VL e
 | set S n=>let(o,_,_,_,e,_):=x;exact VL e
 | ins C dx fs=>let(_,_,_,e,_):=x;exact VL e
 | own y=>let(_,e):=x;exact VL e
 | xd fs=>let(_,(_,_,_,e,_),_):=x;exact VL e
 | RT lo hi=>let(_,_,_,e):=x;exact VL e
 | fB ob u=>let(e,_):=x;exact VL e
 | JJ ps=>exact VL (show h.get? a=some _ from x)
 | met f y=>exact VL (show h.get? a=some _ from x)
 | ext φ=>let(_,(_,e),_):=x;exact VL e
theorem Paired.D6{α β:Type}{F G:α->β->Prop}:∀ {l₁:!α} {l₂:!β},Paired F l₁ l₂->(∀ a b,F a b->G a b)->Paired G l₁ l₂
 | _,_,.nil,_=>.nil
 | _,_,.cons r t,f=>.cons (f _ _ r) (Paired.D6 t f)
theorem b6.wC(x:b6 P w H h a o)(k:∀ b u,(b=a\/H b=some (.own a))->h.get? b=some u->h'.get? b=some u)(ho:∀ b,H b=some (.own a)->H' b=some (.own a))(ht:∀ b xs,H b=some (.tup xs)->H' b=some (.tup xs)):b6 P w H' h' a o:=by
 induction o with
 | lst xs=>let(z,its,n,r,e):=x;exact#[z,its,n,r,k _ _ (.inl U) e]
 | tup xs=>let(z,its,r,ob,e,c):=x;exact#[z,its,r,ob,k _ _ (.inl U) e,c]
 | dK kvs=>let(z,y,vs,r,ob,es,ep,e,c):=x;exact#[z,y,vs,r,ob,es,ep,k _ _ (.inl U) e,c]
 | dT kvs =>
  let(z,y,xs,r,ob,es,ep,e,c):=x;exact#[z,y,xs,Paired.D6 r λp q z=>#[z.1,ht _ _ z.2.1,z.2.2],ob,es,ep,k _ _ (.inl U) e,c]
 | set S n=>let(ob,es,ep,t,e,c):=x;exact#[ob,es,ep,t,k _ _ (.inl U) e,c]
 | ins C dx fs =>
  let(d,z,ne,e,mA,(od,es,ep,e2,c),r):=x;exact#[ho _ d,z,ne,k _ _ (.inl U) e,mA,#[od,es,ep,k _ _ (.inr d) e2,c],r]
 | own y=>let(ob,e):=x;exact#[ob,k _ _ (.inl U) e]
 | xd fs=>let(mA,(od,es,ep,e,c),r):=x;exact#[mA,#[od,es,ep,k _ _ (.inl U) e,c],r]
 | RT lo hi=>let(t,u,v,e):=x;exact#[t,u,v,k _ _ (.inl U) e]
 | fB ob u ih=>let(e,q):=x;exact#[k _ _ (.inl U) e,ih q]
 | JJ ps =>
  have e:h.get? a=some { cls:=.none,data:=.fields ps }:=x;change h'.get? a=some { cls:=.none,data:=.fields ps };exact k a _ (.inl U) e
 | met f y =>
  have e:h.get? a=some (PySem.W.methodObj (.ref f) (.ref y)):=x;change h'.get? a=some (PySem.W.methodObj (.ref f) (.ref y));exact k a _ (.inl U) e
 | ext φ=>let(p,(o,e),st):=x;exact#[st _ _ p λo q=>k _ _ (.inl U) q,#[o,k _ _ (.inl U) e],st]
theorem mj.lt(x:mj P w H h)(e:H a=some o):a < h.objs.size:=(x a o e).lt
theorem mj.fresh(x:mj P w H h)(e:h.objs.size<=a):H a=none:=by
 cases q:H a with
 | none=>rfl
 | some u=>exact absurd (VZ (x.lt q) e) (WL _)
theorem mj.kept(x:mj P w H h)(k:∀ b u,h.get? b=some u->h'.get? b=some u):mj P w H h':=λa o e =>
 (x a o e).wC (λb u _ q=>k b u q) (λ_ q=>q) λ_ _ q=>q
theorem mj.laid(x:mj P w H h)(k:∀ b u,h.get? b=some u->h'.get? b=some u)(hp:h.objs.size<=a)(new:b6 P w (upd H a o) h' a o):mj P w (upd H a o) h':=λb u e=>by
 have hn:=x.fresh hp;by_cases hb:b=a
 .subst hb;rw[aA] at e;cases e;exact new
 .rw[aw hb] at e;exact (x b u e).wC (λc v _ q=>k c v q) (λc q=>by rw[aw (aF q hn)];exact q) λc xs q=>by rw[aw (aF q hn)];exact q
end
def Rd(H:Hp)(a:AT)(u:HO):Prop:=H a=some u\/∃ o,H a=some (.fB o u)
theorem Rd.ok{P:Fk}{w:FB}{H:Hp}{h:Db}{a:AT}{u:HO}(r:Rd H a u)(x:mj P w H h):b6 P w H h a u:=by
 rcases r with r | ⟨o,r⟩
 .exact x a u r
 .let(_,q):=x a _ r;exact q
def Mk:Option HO->Prop
 | some (.lst _)=>True
 | some (.dK _)=>True
 | some (.dT _)=>True
 | some (.set _ _)=>True
 | some (.ins _ _ _)=>True
 | some (.ext _)=>True
 | _=>False
section
variable{P:Fk}{w:FB}{H:Hp}{h h':Db}{x e:AT}{o':HO}
theorem mj.write(ok:mj P w H h)(mu:Mk (H x))(he:e=x\/H e=some (.own x))(k:∀ b u,b≠e->h.get? b=some u->h'.get? b=some u)(Me:∃ u,h'.get? e=some u)(new:b6 P w (upd H x o') h' x o'):mj P w (upd H x o') h':=λb u q=>by
 have nown:∀ c y,H c=some (.own y)->c≠x:=λc y r z=>by subst z;rw[r] at mu;exact mu
 have Az:∀ c xs,H c=some (.tup xs)->c≠x:=λc xs r z=>by subst z;rw[r] at mu;exact mu
 by_cases hb:b=x
 .subst hb;rw[aA] at q;cases q;exact new
 .rw[aw hb] at q;by_cases hbe:b=e
  .have q':H b=some (.own x):=by
    rcases he with z | z
    .exact absurd (hbe.trans z) hb
    .rw[hbe];exact z
   rw[q] at q';cases q';let(v,hv):=Me;exact#[v,by rw[hbe];exact hv]
  .refine (ok b u q).wC (λc v hc r=>k c v ?_ r) (λc r=>by rw[aw (nown c b r)];exact r) λc xs r=>by rw[aw (Az c xs r)];exact r
   rcases hc with rfl | hc
   .exact hbe
   .rintro rfl;rcases he with z | z
    .exact nown c b hc z
    .rw[hc] at z;cases z;exact hb U
end
structure Un(fs ex:!AT)(H H':Hp)(h h':Db):Prop where
 keep:∀ b o,h.get? b=some o->H b=none->b∉fs->b∉ex->h'.get? b=some o
 slot:∀ b o,h.get? b=some o->H b=none->b∈fs->b∉ex->∃ sl,h'.get? b=some { o with slots:=sl }
 free:∀ b o,h.get? b=some o->H b=none->b∉ex->H' b=none
 there:∀ b o,h.get? b=some o->b∉ex->∃ o',h'.get? b=some o'
 wB:∀ b xs,H b=some (.tup xs)->H' b=some (.tup xs)
 vn:∀ b o u,H b=some (.fB o u)->H' b=some (.fB o u)
 wQ:∀ b ps,H b=some (.JJ ps)->∃ more,H' b=some (.JJ (ps++more))
section
variable{fs UZ ex Vo:!AT}{H H1 H2:Hp}{h h1 h2 h':Db}{a x e:AT}{o:HO}
theorem Un.any(u:Un fs ex H H1 h h1){b:AT}{ob:Obj}(q:h.get? b=some ob)(n:H b=none)(hx:b∉ex):∃ sl,h1.get? b=some { ob with slots:=sl }:=by
 by_cases hb:b∈fs
 .exact u.slot b ob q n hb hx
 .exact#[ob.slots,u.keep b ob q n hb hx]
theorem Un.kept(k:∀ b u,h.get? b=some u->h'.get? b=some u):Un fs ex H H h h' :=
 #[λb ob q _ _ _=>k b ob q,λb ob q _ _ _=>#[ob.slots,k b ob q],λ_ _ _ n _=>n,λb ob q _=>#[ob,k b ob q],λ_ _ q=>q,λ_ _ _ q=>q,λ_ ps q=>#[#v[],by rw[q];simp]]
theorem Un.refl:Un fs ex H H h h:=Un.kept λ_ _ q=>q
theorem Un.laid(k:∀ b u,h.get? b=some u->h'.get? b=some u)(hp:h.objs.size<=a)(hn:H a=none):Un fs ex H (upd H a o) h h' where
 keep:=λb u q _ _ _=>k b u q
 slot:=λb u q _ _ _=>#[u.slots,k b u q]
 free:=λb u q n _=>by rw[aw (VW (VZ (VL q) hp))];exact n
 there:=λb u q _=>#[u,k b u q]
 wB:=λb xs q=>by rw[aw (aF q hn)];exact q
 vn:=λb u xs q=>by rw[aw (aF q hn)];exact q
 wQ:=λb ps q=>#[#v[],by rw[aw (aF q hn),q];simp]
theorem Un.write(mu:Mk (H x))(he:e=x\/H e=some (.own x))(k:∀ b u,b≠e->h.get? b=some u->h'.get? b=some u)(Me:∃ u,h'.get? e=some u):Un fs ex H (upd H x o) h h':=by
 have hx:∀ b,H b=none->b≠x:=λb n z=>by subst z;rw[n] at mu;exact mu
 have hb:∀ b,H b=none->b≠e:=λb n z=>by
  subst z;rcases he with r | r
  .exact hx b n r
  .rw[n] at r;cases r
 have hm:∀ b u,H b=some u->¬ Mk (some u)->b≠x:=λb u q nm z=>by subst z;rw[q] at mu;exact nm mu
 show#[λb u q n _ _=>k b u (hb b n) q,λb u q n _ _=>#[u.slots,k b u (hb b n) q],λb u q n _=>by rw[aw (hx b n)];exact n,λb u q _=>?_,
  λb xs q=>by rw[aw (hm b _ q λz=>z)];exact q,λb u xs q=>by rw[aw (hm b _ q λz=>z)];exact q,λb ps q=>#[#v[],by rw[aw (hm b _ q λz=>z),q];simp]]
 by_cases hbe:b=e
 .subst hbe;exact Me
 .exact#[u,k b u hbe q]
end
def Qb(h:Db)(H:Hp):!AT:=(List.range h.objs.size).filter λa=>(H a).isSome
def uO(h:Db)(H:Hp):Db:=PySem.W.hideAll h (Qb h H)
theorem A8(h:Db)(H:Hp):(uO h H).objs.size=h.objs.size:=PySem.W.hideAll_size _ _
theorem EI{h:Db}{H:Hp}{b:AT}{o:Obj}(e:h.get? b=some o)(n:H b=none):(uO h H).get? b=some o :=
 PySem.W.hideAll_get _ e λhm=>by
  have q:(H b).isSome=true:=(Wo.mp hm).2;rw[n] at q;simp at q
theorem GI{h:Db}{H:Hp}{b:AT}{o:Obj}(e:(uO h H).get? b=some o):h.get? b=some o/\H b=none:=by
 have e':h.get? b=some o:=PySem.W.of_hideAll (Qb h H) e;show#[e',?_];cases q:H b with
 | none=>rfl
 | some x =>
  have hm:b∈Qb h H:=List.mem_filter.mpr #[List.mem_range.mpr (Db.lt_size e'),by simp[q]];have z:(uO h H).get? b=none:=PySem.W.hideAll_none (Qb h H) hm;rw[z] at e;cases e
structure Mod(K:Frag)(mg:Str->Option AC)(base:Db):Prop where
 QU:K.In base
 glob:base.Ns GM mg
 blt:∃ mb,base.Ns builtinsNs mb/\∀ x:Str,x≠"__name__"->mb x=bootBuiltins x
 nolimit:base.NoLimit
structure Cx where
 prog:Fk
 w:FB
 K:Frag
 mg:Str->Option AC
 base:Db
 A:Fr
 N:!Str
 s₀:Cl
 H₀:Hp
 env:Env
 outer:!Env
 stack:!Env
 ex:!AT
 fn:Str->Bool
 calm:Bool
 pn:Yc
 xe:Yb
def EB(l:!Env):!AT:=l.filterMap (·.frame)
abbrev Cx.fs(X:Cx):!AT:=EB X.outer
def LR(sc:Scope)(x:Str):Prop:=sc.names.lookup x=some .local\/sc.names.lookup x=some .cell\/sc.names.lookup x=some .free
def Loc(sc:Scope)(x:Str):Prop:=sc.names.lookup x=some .local\/sc.names.lookup x=some .cell
def Look(env:Env)(h:Db)(m:Str->Option AC)(x:Str)(u:AC):Prop :=
 (env.kindOf x=some .local/\m x=some u)\/((env.kindOf x=some .cell\/env.kindOf x=some .free)/\∃ c,env.cells.lookup x=some c/\h.IsCell c (some u))
structure Cx.Ok(X:Cx):Prop where
 mod:Mod X.K X.mg X.base
 kind:X.env.scope.kind=.function
 glob:X.env.globals=GM
 blt:X.env.builtins=builtinsNs
 above:X.s₀.heap.objs.size<=X.env.locals
 inj:∀ x y c,X.env.cells.lookup x=some c->X.env.cells.lookup y=some c->x=y
 has:∀ x,(X.env.kindOf x=some .cell\/X.env.kindOf x=some .free)->∃ c,X.env.cells.lookup x=some c
 Oj:∀ x c,X.fn x=true->X.env.cells.lookup x=some c->X.s₀.heap.objs.size<=c
 hd:X.calm=true->X.A.handled=none
 frames:X.A.frames=some X.stack
 Qg:X.stack=X.outer\/(X.stack=X.env::X.outer/\X.env.frame=some X.env.locals)
 P8:∀ b∈X.ex,b≠X.env.locals/\∀ x c,X.env.cells.lookup x=some c->c≠b
 bs:∀ b o,X.base.get? b=some o->X.s₀.heap.get? b=some o/\X.H₀ b=none
 Ij:X.base.objs.size<=X.s₀.heap.objs.size
 CW:∀ b o,X.base.get? b=some o->b∉X.ex
 Ei:∀ b∈X.ex,b∉X.fs
 pC:X.s₀.heap.FunFrames X.base X.outer
 L9:∀ b∈X.fs,X.H₀ b=none
structure Inv(X:Cx)(TD:Yc)(σ:!(Option V))(H:Hp)(s:Cl):Prop where
 ok:X.Ok
 os:s.os=X.s₀.os
 bare:AllBare s.gens
 base:Un X.fs X.ex X.H₀ H X.s₀.heap s.heap
 loc:∃ m,s.heap.Ns X.env.locals m/\∀ (i:Nat) (x:Str) (v:V),X.N[i]?=some x->σ[i]?=some (some v)->LR X.env.scope x->∃ u,RelV v u/\Look X.env s.heap m x u
 cell:∀ x c,X.env.cells.lookup x=some c->∃ v,s.heap.IsCell c v
 free:H X.env.locals=none
 jl:∀ x c,X.env.cells.lookup x=some c->H c=none
 pin:∀ p∈X.pn++TD,s.heap.get? p.1=some p.2/\H p.1=none/\p.1≠X.env.locals/\p.1∉X.fs/\∀ v,p.2.data≠.cell v
 aZ:mj X.prog X.w H s.heap
 len:σ.length=X.N.length
section
variable{X:Cx}{TD:Yc}{σ:!(Option V)}{H H':Hp}{s:Cl}{h':Db}
theorem Cx.Ok.QY(ok:X.Ok){b:AT}{o:Obj}(e:X.base.get? b=some o):b∉X.fs:=λhb=>by
 have:=(ok.pC.mem hb).1;rw[e] at this;cases this
theorem Inv.bs(I:Inv X TD σ H s):∀ b o,X.base.get? b=some o->s.heap.get? b=some o/\H b=none:=λb o e =>
 #[I.base.keep b o (I.ok.bs b o e).1 (I.ok.bs b o e).2 (I.ok.QY e) (I.ok.CW b o e),I.base.free b o (I.ok.bs b o e).1 (I.ok.bs b o e).2 (I.ok.CW b o e)]
theorem Inv.bk(I:Inv X TD σ H s):∀ b o,X.base.get? b=some o->s.heap.get? b=some o:=λb o e=>(I.bs b o e).1
theorem Inv.mod(I:Inv X TD σ H s):Mod X.K X.mg X.base:=I.ok.mod
theorem Inv.LS(I:Inv X TD σ H s):X.K.In s.heap:=I.ok.mod.QU.keeps I.bk
theorem Inv.lt(I:Inv X TD σ H s):X.env.locals < ↑s:=let #[_,hn,_]:=I.loc;hn.lt
theorem Inv.sz(I:Inv X TD σ H s):X.s₀.heap.objs.size<=↑s:=VF I.ok.above (Nat.le_of_lt I.lt)
theorem Inv.Rq(I:Inv X TD σ H s){a:AT}(h:↑s<=a):a∉X.fs:=λhb=>by
 let(_,o,ho,_):=I.ok.pC.mem hb;exact absurd (VZ (VL ho) (VF I.sz h)) (WL _)
theorem Inv.LK(I:Inv X TD σ H s):∀ x c,X.env.cells.lookup x=some c->c≠X.env.locals:=λx c e z=>by
 let(v,o,ho,hd):=I.cell x c e;let(m,(o',es,ep,BN,hd',_),_):=I.loc;rw[z,BN] at ho;cases ho;rw[hd'] at hd;cases hd
theorem Inv.pC(I:Inv X TD σ H s):s.heap.FunFrames X.base X.outer:=by
 have all:∀ (l:!Env),(∀ b∈EB l,b∈X.fs)->X.s₀.heap.FunFrames X.base l->s.heap.FunFrames X.base l:=by
  intro l
  induction l with
  | nil=>intro _ _;trivial
  | cons env r ih =>
   intro hs hl;let(hk,(L,o,hf,hn,ho,hd),hr):=hl;have hL:L∈X.fs:=hs L (by unfold EB;rw[List.filterMap_cons,hf];exact List.mem_cons_self);let(sl,e):=I.base.slot L o ho (I.ok.L9 L hL) hL λz=>I.ok.Ei L z hL;exact#[hk,#[L,_,hf,hn,e,hd],ih (λb hb=>hs b (by unfold EB;rw[List.filterMap_cons,hf];exact List.mem_cons_of_mem _ hb)) hr]
 exact all X.outer (λ_ hb=>hb) I.ok.pC
theorem Inv.stack(I:Inv X TD σ H s):s.heap.FunFrames X.base X.stack:=by
 rcases I.ok.Qg with e | ⟨e,hf⟩
 .rw[e];exact I.pC
 .rw[e];let(m,hn,_):=I.loc;show .cons (by rw[I.ok.kind];decide) hf hn ?_ I.pC;exact Db.get?_none_of_le (VF I.ok.Ij I.ok.above)
theorem Inv.xg(I:Inv X TD σ H s):∀ b∈EB X.stack,b∈X.env.locals::X.fs:=λb hb=>by
 rcases I.ok.Qg with e | ⟨e,hf⟩
 .rw[e] at hb;exact Vy _ hb
 .rw[e] at hb;unfold EB at hb;rw[Xi,hf] at hb;exact hb
theorem Inv.zi(I:Inv X TD σ H s):∀ b∈EB X.stack,H b=none:=λb hb=>by
 rcases VG.mp (I.xg b hb) with e | hb
 .rw[e];exact I.free
 .let(_,o,ho,_):=I.ok.pC.mem hb;exact I.base.free b o ho (I.ok.L9 b hb) λz=>I.ok.Ei b z hb
theorem Inv.step{g':Array GenState}{t':Nat}{d':Drawn}{ch:!AT}(I:Inv X TD σ H s)(zo:∀ b∈ch,(b∈X.ex\/X.s₀.heap.objs.size<=b)/\b≠X.env.locals/\(∀ x c,X.env.cells.lookup x=some c->c≠b)/\∀ p∈X.pn++TD,p.1≠b)(keep:∀ b o,b≠X.env.locals->b∉X.fs->b∉ch->s.heap.get? b=some o->H b=none->h'.get? b=some o)(slot:∀ b o,b≠X.env.locals->b∈X.fs->b∉ch->s.heap.get? b=some o->H b=none->∃ sl,h'.get? b=some { o with slots:=sl })(free:∀ b o,b∉ch->s.heap.get? b=some o->H b=none->H' b=none)(there:∀ b o,b∉ch->s.heap.get? b=some o->∃ o',h'.get? b=some o')(wB:∀ b xs,H b=some (.tup xs)->H' b=some (.tup xs))(vn:∀ b o u,H b=some (.fB o u)->H' b=some (.fB o u))(wQ:∀ b ps,H b=some (.JJ ps)->∃ more,H' b=some (.JJ (ps++more)))(ns:∀ m,s.heap.Ns X.env.locals m->h'.Ns X.env.locals m)(aZ:mj X.prog X.w H' h')(hg:AllBare g') :
  Inv X TD σ H' { s with heap:=h',gens:=g',drawn:=d',toks:=t' }:=by
 have neL:∀ b o,X.s₀.heap.get? b=some o->b≠X.env.locals:=λb o e=>VW (VZ (VL e) I.ok.above);have neC:∀ b o,X.s₀.heap.get? b=some o->b∉X.ex->b∉ch:=λb o e hx hb=>by
  rcases (zo b hb).1 with z | z
  .exact hx z
  .exact absurd (VZ (VL e) z) (WL _)
 have cellK:∀ x c,X.env.cells.lookup x=some c->∀ v,s.heap.IsCell c v->h'.IsCell c v:=λx c e v z1r=>by
  let(o,ho,hd):=z1r;have nch:c∉ch:=λz=>(zo c z).2.2.1 x c e U;by_cases hc:c∈X.fs
  .let(sl,q):=slot c o (I.LK x c e) hc nch ho (I.jl x c e);exact#[_,q,hd]
  .exact#[o,keep c o (I.LK x c e) hc nch ho (I.jl x c e),hd]
 show#[I.ok,I.os,hg,#[λb o e n hb hx=>?_,λb o e n hb hx=>?_,λb o e n hx=>?_,λb o e hx=>?_,λb xs e=>wB b xs (I.base.wB b xs e),λb o xs e=>vn b o xs (I.base.vn b o xs e),λb ps e=>?_],?_,λx c e=>?_,?_,λx c e=>?_,λp hp=>?_,aZ,I.len]
 .exact keep b o (neL b o e) hb (neC b o e hx) (I.base.keep b o e n hb hx) (I.base.free b o e n hx)
 .let(sl,e1):=I.base.slot b o e n hb hx;let(sl',e2):=slot b _ (neL b o e) hb (neC b o e hx) e1 (I.base.free b o e n hx);exact#[sl',e2]
 .let(o',e1):=I.base.there b o e hx;exact free b o' (neC b o e hx) e1 (I.base.free b o e n hx)
 .let(o',e1):=I.base.there b o e hx;exact there b o' (neC b o e hx) e1
 .let(m1,e1):=I.base.wQ b ps e;let(m2,e2):=wQ b _ e1;exact#[m1++m2,by rw[e2,Array.append_assoc]]
 .let(m,hn,hl):=I.loc;show#[m,ns m hn,λi x v e1 e2 e3=>?_];let(u,r,l):=hl i x v e1 e2 e3;show#[u,r,?_];rcases l with l | ⟨k,c,e,z⟩
  .exact .inl l
  .exact .inr #[k,c,e,cellK x c e _ z]
 .let(v,z):=I.cell x c e;exact#[v,cellK x c e v z]
 .let(m,(o,_,_,ho,_),_):=I.loc;exact free _ o (λz=>(zo _ z).2.1 U) ho I.free
 .let(v,o,ho,hd):=I.cell x c e;exact free c o (λz=>(zo c z).2.2.1 x c e U) ho (I.jl x c e)
 .let(e,n,ne,nf,d):=I.pin p hp;have nch:p.1∉ch:=λz=>(zo p.1 z).2.2.2 p hp U;exact#[keep p.1 p.2 ne nf nch e n,free p.1 p.2 nch e n,ne,nf,d]
theorem Inv.un{t':Nat}(I:Inv X TD σ H s)(u:Un X.fs [] H H' s.heap h')(aZ:mj X.prog X.w H' h'):Inv X TD σ H' { s with heap:=h',toks:=t' }:=by
 let(m,(o,es,ep,ho,r),_):=id I.loc;let(sl,hL):=u.any ho I.free (by simp);exact I.step (g':=s.gens) (d':=s.drawn) (ch:=[]) (λ_ z=>nomatch z) (λb o _ hb _ e n=>u.keep b o e n hb (by simp)) (λb o _ hb _ e n=>u.slot b o e n hb (by simp)) (λb o _ e n=>u.free b o e n (by simp)) (λb o _ e=>u.there b o e (by simp)) u.wB u.vn u.wQ (λm' hm=>by
  let(o',es',ep',BN,r'):=hm;rw[ho] at BN;cases BN;exact#[_,es',ep',hL,r']) aZ I.bare
theorem Inv.call{g':Array GenState}{t':Nat}{d':Drawn}{ch:!AT}(I:Inv X TD σ H s)(u:Un (EB X.stack) ch H H' s.heap h')(aZ:mj X.prog X.w H' h')(hg:AllBare g')(zo:∀ b∈ch,(b∈X.ex\/X.s₀.heap.objs.size<=b)/\b≠X.env.locals/\(∀ x c,X.env.cells.lookup x=some c->c≠b)/\∀ p∈X.pn++TD,p.1≠b) :
  Inv X TD σ H' { s with heap:=h',gens:=g',drawn:=d',toks:=t' }:=by
 let(m,(o,es,ep,ho,r),_):=id I.loc;let(sl,hL):=u.any ho I.free λz=>(zo _ z).2.1 U;exact I.step (ch:=ch) zo (λb o hL hb hc e n=>u.keep b o e n (λz=>(VG.mp (I.xg b z)).elim hL hb) hc) (λb o _ _ hc e n=>u.any e n hc) (λb o hc e n=>u.free b o e n hc) (λb o hc e=>u.there b o e hc) u.wB u.vn u.wQ (λm' hm=>by
  let(o',es',ep',BN,r'):=hm;rw[ho] at BN;cases BN;exact#[_,es',ep',hL,r']) aZ hg
theorem Inv.turned{t':Nat}{it:AT}(I:Inv X TD σ H s)(k:∀ b o,b≠it->s.heap.get? b=some o->h'.get? b=some o)(hn:H it=none)(hL:it≠X.env.locals)(h1:it∈X.ex\/X.s₀.heap.objs.size<=it)(h2:∀ x c,X.env.cells.lookup x=some c->c≠it)(h3:∀ p∈X.pn++TD,p.1≠it):Inv X TD σ H { s with heap:=h',toks:=t' }:=by
 have nit:∀ b u,H b=some u->b≠it:=λb u e z=>by rw[z,hn] at e;cases e
 show I.step (g':=s.gens) (d':=s.drawn) (ch:=[it]) (λb hb=>?_) (λb o _ _ hc e _=>k b o (λz=>hc (by simp[z])) e) (λb o _ _ hc e _=>#[o.slots,k b o (λz=>hc (by simp[z])) e]) (λ_ _ _ _ n=>n)
  (λb o hc e=>#[o,k b o (λz=>hc (by simp[z])) e]) (λ_ _ e=>e) (λ_ _ _ e=>e) (λb ps e=>#[#v[],by rw[e];simp]) (λm hm=>?_) (λb u e=>?_) I.bare
 .have e:b=it:=by simpa using hb
  subst e;exact#[h1,hL,h2,h3]
 .let(o,es,ep,ho,r):=hm;exact#[o,es,ep,k _ o (Ne.symm hL) ho,r]
 .refine (I.aZ b u e).wC (λc v hc q=>k c v ?_ q) (λ_ q=>q) λ_ _ q=>q;rcases hc with z | z
  .rw[z];exact nit b u e
  .exact nit c _ z
theorem Inv.tok(I:Inv X TD σ H s)(t:Nat):Inv X TD σ H { s with toks:=t }:=I.un (h':=s.heap) (t':=t) Un.refl I.aZ
theorem Inv.kept{t':Nat}(I:Inv X TD σ H s)(k:∀ b u,s.heap.get? b=some u->h'.get? b=some u):Inv X TD σ H { s with heap:=h',toks:=t' }:=I.un (Un.kept k) (I.aZ.kept k)
theorem Inv.laid{a:AT}{o:HO}{t':Nat}(I:Inv X TD σ H s)(k:∀ b u,s.heap.get? b=some u->h'.get? b=some u)(hp:↑s<=a)(new:b6 X.prog X.w (upd H a o) h' a o) :
  Inv X TD σ (upd H a o) { s with heap:=h',toks:=t' }:=I.un (Un.laid k hp (I.aZ.fresh hp)) (I.aZ.laid k hp new)
theorem Inv.write{x e:AT}{o:HO}{t':Nat}(I:Inv X TD σ H s)(mu:Mk (H x))(he:e=x\/H e=some (.own x))(k:∀ b u,b≠e->s.heap.get? b=some u->h'.get? b=some u)(Me:∃ u,h'.get? e=some u)(new:b6 X.prog X.w (upd H x o) h' x o):Inv X TD σ (upd H x o) { s with heap:=h',toks:=t' }:=I.un (Un.write mu he k Me) (I.aZ.write mu he k Me new)
theorem Inv.weak{σ':!(Option V)}(I:Inv X TD σ H s)(hl:σ'.length=σ.length)(w:∀ (i:Nat) v,σ'[i]?=some (some v)->σ[i]?=some (some v)):Inv X TD σ' H s :=
 #[I.ok,I.os,I.bare,I.base,let #[m,hn,hl']:=I.loc;#[m,hn,λi x v e1 e2 e3=>hl' i x v e1 (w i v e2) e3],I.cell,I.free,I.jl,I.pin,I.aZ,hl.trans I.len]
theorem Inv.zk{Iz:Yc}(I:Inv X TD σ H s)(h:∀ p∈Iz,s.heap.get? p.1=some p.2/\H p.1=none/\p.1≠X.env.locals/\p.1∉X.fs/\∀ v,p.2.data≠.cell v):Inv X Iz σ H s :=
 #[I.ok,I.os,I.bare,I.base,I.loc,I.cell,I.free,I.jl,λp hp=>(VM.mp hp).elim (λz=>I.pin p (Wa _ z)) (h p),I.aZ,I.len]
theorem wA{N:!Str}(hN:N.Nodup){i j:Nat}{x:Str}(a:N[i]?=some x)(b:N[j]?=some x):i=j:=by
 let(h1,e1):=VC.mp a;let(h2,e2):=VC.mp b;exact (X0 hN).mp (e1.trans e2.symm)
abbrev Yh (X:Cx)(x:Str):Prop:=X.fn x=true\/X.env.scope.names.lookup x=some .local
theorem su{M:Model}{A:Fr}{E:Yb}{i:Nat}{x:Str}{v:V}{u:AC}{Q:Unit->Cl->Prop}(I:Inv X TD σ H s)(hN:X.N.Nodup)(hi:X.N[i]?=some x)(hx:Loc X.env.scope x)(r:RelV v u)(h:∀ s',Inv X TD (σ.set i (some v)) H s'->(∃ a,Db.SameBut a s.heap s'.heap/\(a=X.env.locals\/X.env.cells.lookup x=some a))->Q Unit.unit s')(hf:Yh X x:=by ac_nf):Da M A (storeName X.env x u) Q E s:=by
 let(m,hn,hl):=id I.loc;have hcls:(X.env.scope.kind == .class||(X.env.scope.kind == .module&&X.env.locals != X.env.globals))=false:=by rw[I.ok.kind];rfl
 have hiσ:i < σ.length:=by rw[I.len];exact (VC.mp hi).1
 have LK:=I.LK;have tracked:∀ {a:AT} {h':Db},(∃ o,s.heap.get? a=some o/\H a=none)->Db.SameBut a s.heap h'->mj X.prog X.w H h':=λ{a h'} ha hs b ob e=>by
  let(_,_,hfree):=ha;show (I.aZ b ob e).wC (λc w' hc q=>(hs.2 c ?_).trans q) (λ_ q=>q) λ_ _ q=>q;rintro rfl;rcases hc with rfl | hc
  .rw[hfree] at e;cases e
  .rw[hfree] at hc;cases hc
 rcases hx with hk | hk
 .refine wpAny_storeName_local hk hn (λh' hn' hs=>?_) hcls;let(oL,_,_,hoL,_):=id hn;show h _ #[I.ok,I.os,I.bare,#[λb o e n hb hx=>?_,λb o e n hb hx=>?_,I.base.free,λb o e hx=>?_,I.base.wB,I.base.vn,I.base.wQ],#[_,hn',λj y v' e1 e2 e3=>?_],λy c e=>?_,I.free,I.jl,λp hp=>?_,tracked #[oL,hoL,I.free] hs,by simpa using I.len] #[_,hs,.inl U]
  .exact (hs.2 b (VW (VZ (VL e) I.ok.above))).trans (I.base.keep b o e n hb hx)
  .let(sl,e1):=I.base.slot b o e n hb hx;exact#[sl,(hs.2 b (VW (VZ (VL e) I.ok.above))).trans e1]
  .let(o',e1):=I.base.there b o e hx;exact#[o',(hs.2 b (VW (VZ (VL e) I.ok.above))).trans e1]
  .by_cases hj:j=i
   .subst hj;rw[hi] at e1;cases e1;rw[Wm hiσ] at e2;cases e2;exact#[u,r,.inl #[hk,by simp]]
   .rw[V4 (Ne.symm hj)] at e2;let(u',r',q):=hl j y v' e1 e2 e3;show#[u',r',?_];rcases q with ⟨k,e⟩ | ⟨k,c,e,z⟩
    .refine .inl #[k,?_];have:y≠x:=λe=>hj (wA hN e1 (e▸hi));simp[this,e]
    .exact .inr #[k,c,e,z.sameBut hs (LK y c e)]
  .let(w',z):=I.cell y c e;exact#[w',z.sameBut hs (LK y c e)]
  .let(e,n,ne,nf,d):=I.pin p hp;exact#[(hs.2 p.1 ne).trans e,n,ne,nf,d]
 .have hfn:X.fn x=true:=by
   rcases hf with z | z
   .exact z
   .rw[z] at hk;cases hk
  let(c,hc):=I.ok.has x (.inl hk);let(w',z):=I.cell x c hc;show wpAny_storeName_cell I.ok.kind hk hc z (λh' hc' hs=>?_);let(oc,hoc,hocd):=id z;show h { s with heap:=h' } #[I.ok,I.os,I.bare,#[λb o e n hb hx=>?_,λb o e n hb hx=>?_,I.base.free,λb o e hx=>?_,I.base.wB,I.base.vn,I.base.wQ],#[m,hn.sameBut hs (Ne.symm (LK x c hc)),λj y v' e1 e2 e3=>?_],λy c' e=>?_,I.free,I.jl,λp hp=>?_,tracked #[oc,hoc,I.jl x c hc] hs,by simpa using I.len] #[c,hs,.inr hc]
  .exact (hs.2 b (VW (VZ (VL e) (I.ok.Oj x c hfn hc)))).trans (I.base.keep b o e n hb hx)
  .let(sl,e1):=I.base.slot b o e n hb hx;exact#[sl,(hs.2 b (VW (VZ (VL e) (I.ok.Oj x c hfn hc)))).trans e1]
  .let(o',e1):=I.base.there b o e hx;exact#[o',(hs.2 b (VW (VZ (VL e) (I.ok.Oj x c hfn hc)))).trans e1]
  .by_cases hj:j=i
   .subst hj;rw[hi] at e1;cases e1;rw[Wm hiσ] at e2;cases e2;exact#[u,r,.inr #[.inl hk,c,hc,hc']]
   .rw[V4 (Ne.symm hj)] at e2;let(u',r',q):=hl j y v' e1 e2 e3;show#[u',r',?_];rcases q with q | ⟨k,c',e,z'⟩
    .exact .inl q
    .refine .inr #[k,c',e,z'.sameBut hs ?_];rintro rfl;exact hj (wA hN e1 (I.ok.inj _ _ _ e hc▸hi))
  .by_cases hcc:c'=c
   .subst hcc;exact#[_,hc']
   .let(w2,z2):=I.cell y c' e;exact#[w2,z2.sameBut hs hcc]
  .let(e,n,ne,nf,d):=I.pin p hp;show#[(hs.2 p.1 ?_).trans e,n,ne,nf,d];intro q;rw[q,hoc] at e;have q':oc=p.2:=V5 e;exact d w' (by rw[<- q'];exact hocd)
theorem v7{M:Model}{A:Fr}{E:Yb}{i:Nat}{x:Str}{v:V}{u:AC}{Q:Unit->Cl->Prop}(I:Inv X TD σ H s)(hN:X.N.Nodup)(hi:X.N[i]?=some x)(hx:Loc X.env.scope x)(r:RelV v u)(h:∀ s',Inv X TD (σ.set i (some v)) H s'->Q Unit.unit s')(hf:Yh X x:=by ac_nf):Da M A (storeName X.env x u) Q E s :=
 su I hN hi hx r (λs' I' _=>h s' I') hf
theorem Inv.O2{s':Cl}{ch:!AT}(I:Inv X TD σ H s)(ho:s'.os=s.os)(u:Un (EB X.stack) ch H H' s.heap s'.heap)(aZ:mj X.prog X.w H' s'.heap)(hg:AllBare s'.gens)(zo:∀ b∈ch,(b∈X.ex\/X.s₀.heap.objs.size<=b)/\b≠X.env.locals/\(∀ x c,X.env.cells.lookup x=some c->c≠b)/\∀ p∈X.pn++TD,p.1≠b):Inv X TD σ H' s':=by
 let(h',g',d',t',o'):=s';have e:o'=s.os:=ho;subst e;exact I.call (g':=g') (t':=t') (d':=d') u aZ hg zo
end
abbrev XK:=AC->Option AT->Hp->Prop
abbrev St:=!(Option V)
abbrev VK:=V->Hp->Prop
abbrev TE:=St->Hp->VK->Prop
abbrev TT:=St->Hp->(Bool->Hp->Prop)->Prop
abbrev TA:=St->Hp->(!V->Hp->Prop)->Prop
structure Ends where
 nx:St->Hp->Prop
 rt:VK
 bk:St->Hp->Prop:=λ_ _=>False
 ct:St->Hp->Prop:=λ_ _=>False
abbrev TS:=Ends->St->Hp->Prop
def EP(X:Cx)(TD:Yc)(σ:St)(Q:VK)(u:AC)(s':Cl):Prop:=∃ v H',Inv X TD σ H' s'/\RelV v u/\Q v H'
def TP(X:Cx)(TD:Yc)(σ:St)(Q:Bool->Hp->Prop)(b:Bool)(s':Cl):Prop:=∃ H',Inv X TD σ H' s'/\Q b H'
def AP(X:Cx)(TD:Yc)(σ:St)(Q:!V->Hp->Prop)(us:!AC)(s':Cl):Prop:=∃ vs H',Inv X TD σ H' s'/\Vals vs us/\Q vs H'
def SP(X:Cx)(TD:Yc)(D:Ends)(f:Flow)(s':Cl):Prop :=
 match f with
 | .next=>∃ σ' H',Inv X TD σ' H' s'/\D.nx σ' H'
 | .brk=>∃ σ' H',Inv X TD σ' H' s'/\D.bk σ' H'
 | .cont=>∃ σ' H',Inv X TD σ' H' s'/\D.ct σ' H'
 | .ret u=>∃ v σ' H',Inv X TD σ' H' s'/\RelV v u/\D.rt v H'
def PE(X:Cx)(e:Ch)(t:TE):Prop :=
 ∀ (TD:Yc) (s:Cl) (σ:St) (H:Hp) (Q:VK),Inv X TD σ H s->t σ H Q->Da (model X.prog X.w) X.A (eval e X.env) (EP X TD σ Q) X.xe s
def PT(X:Cx)(e:Ch)(t:TT):Prop :=
 ∀ (TD:Yc) (s:Cl) (σ:St) (H:Hp) (Q:Bool->Hp->Prop),Inv X TD σ H s->t σ H Q->Da (model X.prog X.w) X.A (isTrue e X.env (eval e X.env)) (TP X TD σ Q) X.xe s
def PW(X:Cx)(e:Ch)(t:TT):Prop :=
 ∀ (whole:Sem AC) (TD:Yc) (s:Cl) (σ:St) (H:Hp) (Q:Bool->Hp->Prop),Inv X TD σ H s->t σ H Q->Da (model X.prog X.w) X.A (isTrue e X.env whole) (TP X TD σ Q) X.xe s
theorem PW.pt{X:Cx}{e:Ch}{t:TT}(h:PW X e t):PT X e t:=h _
def PA(X:Cx)(es:!Ch)(t:TA):Prop :=
 ∀ (pos:Pos) (TD:Yc) (s:Cl) (σ:St) (H:Hp) (Q:!V->Hp->Prop),Inv X TD σ H s->t σ H Q->Da (model X.prog X.w) X.A (spliced (Go pos (GE es X.env))) (AP X TD σ Q) X.xe s
def PS(X:Cx)(st:Fa)(t:TS):Prop :=
 ∀ (TD:Yc) (s:Cl) (σ:St) (H:Hp) (D:Ends),Inv X TD σ H s->t D σ H->Da (model X.prog X.w) X.A (exec st X.env) (SP X TD D) X.xe s
def sO(X:Cx)(st:!Fa)(t:TS):Prop :=
 ∀ (TD:Yc) (s:Cl) (σ:St) (H:Hp) (D:Ends),Inv X TD σ H s->t D σ H->Da (model X.prog X.w) X.A (execs st X.env) (SP X TD D) X.xe s
theorem b3{α:Type}{t:Sem α}{Q Q':α->Cl->Prop}{M:Model}{A:Fr}{E:Yb}{s:Cl}(h:Da M A t Q E s)(hQ:∀ a s,Q a s->Q' a s):Da M A t Q' E s:=KM h hQ λ_ _ x=>x
theorem el2{α β:Type}{P Q R:α->β->Prop}{C:Prop}(h:∃ a b,P a b/\Q a b/\R a b)(k:∀ a b,P a b->Q a b->R a b->C):C:=h.elim λa h=>h.elim λb h=>k a b h.1 h.2.1 h.2.2
section
variable{X:Cx}
def bG(i:Nat):TE:=λσ H Q=>∃ v,σ[i]?=some (some v)/\Q v H
def tC(v:V):TE:=λ_ H Q=>Q v H
theorem xZ{i:Nat}{x:Str}{pos:Pos}(hN:X.N[i]?=some x)(hv:LR X.env.scope x)(hd: ~~~(Yg x))(uY: ~~~((x == ("__classdict__":Str))=false)):PE X (.Name x pos) (bG i):=by
 intro TD s σ H Q I h;let(v,e,h):=h;let(m,hn,hl):=I.loc;let(u,r,l):=hl i x v hN e hv;have fin:EP X TD σ Q u s:=#[v,H,I,r,h];rcases l with ⟨hk,hm⟩ | ⟨hk,c,hc,hcell⟩
 .exact wpAny_Name (wpAny_loadName_local I.ok.kind hk hn hm fin) hd
 .rcases hk with hk | hk
  .exact wpAny_Name (wpAny_loadName_cell I.ok.kind hk hc hcell fin) hd
  .exact wpAny_Name (wpAny_loadName_free I.ok.kind hk hc hcell fin uY) hd
theorem bX{i j pos}:PE X (.Constant (.int i) j pos) (tC (.int i)):=λ_ _ _ H _ I h=>wpAny_Constant_int #[.int i,H,I.tok _,#[_,U],h]
theorem MW{b j pos}:PE X (.Constant (.bool b) j pos) (tC (.bl b)):=λ_ _ _ H _ I h=>Constant_bool #[.bl b,H,I,U,h]
theorem J0{j pos}:PE X (.Constant .none j pos) (tC .cA):=λ_ _ _ H _ I h=>Constant_none #[.cA,H,I,U,h]
theorem dA{x j pos}:PE X (.Constant (.str x) j pos) (tC (.str x)):=λ_ _ _ H _ I h=>Calls.Constant_str #[.str x,H,I.tok _,#[_,U],h]
def Gl(X:Cx)(x:Str):Prop:=X.env.kindOf x=some .globalImplicit
theorem yK{E:Yb}{TD:Yc}{s:Cl}{σ:St}{H:Hp}{x:Str}{u:AC}{pos:Pos}{Q:Yb}(I:Inv X TD σ H s)(hg:Gl X x)(hm:X.mg x=some u)(h:Q u s)(hd: ~~~(Yg x)):Da (model X.prog X.w) X.A (eval (.Name x pos) X.env) Q E s :=
 Calls.Name_function_global I.ok.kind hg (Calls.loadGlobal_global (by rw[I.ok.glob];exact I.mod.glob.keeps I.bk) hm h) hd
theorem g0{E:Yb}{TD:Yc}{s:Cl}{σ:St}{H:Hp}{x:Str}{u:AC}{pos:Pos}{Q:Yb}(I:Inv X TD σ H s)(hg:Gl X x)(hm:X.mg x=none)(hv:bootBuiltins x=some u)(h:Q u s)(hn: ~~~(x≠"__name__"))(hd: ~~~(Yg x)):Da (model X.prog X.w) X.A (eval (.Name x pos) X.env) Q E s:=by
 let(mb,h1,h2):=I.mod.blt;exact Calls.Name_function_global I.ok.kind hg (Calls.loadGlobal_builtin (by rw[I.ok.glob];exact I.mod.glob.keeps I.bk) hm (by rw[I.ok.blt];exact h1.keeps I.bk) ((h2 x hn).trans hv) h) hd
theorem He{x:Str}{v:V}{u:AC}{pos:Pos}(hg:Gl X x)(hm:X.mg x=some u)(r:RelV v u)(hd: ~~~(Yg x)):PE X (.Name x pos) (tC v) :=
 λ_ _ _ H _ I h=>yK I hg hm #[v,H,I,r,h] hd
theorem gR{x:Str}{v:V}{u:AC}{pos:Pos}(hg:Gl X x)(hm:X.mg x=none)(hv:bootBuiltins x=some u)(r:RelV v u)(hn: ~~~(x≠"__name__"))(hd: ~~~(Yg x)):PE X (.Name x pos) (tC v) :=
 λ_ _ _ H _ I h=>g0 I hg hm hv #[v,H,I,r,h] hn hd
variable{a b:Ch}{ta tb:TE}{pos:Pos}
def PC(X:Cx)(op:CmpOp)(a b:Ch)(t:TE):Prop :=
 ∀ (TD:Yc) (s:Cl) (σ:St) (H:Hp) (Q:VK),Inv X TD σ H s->t σ H Q ->
  Da (model X.prog X.w) X.A (eval a X.env) (λv s₁=>Da (model X.prog X.w) X.A (eval b X.env) (λu s₂=>Da (model X.prog X.w) X.A (KB op v u) (EP X TD σ Q) X.xe s₂) X.xe s₁) X.xe s
def tB(t:TE):TT:=λσ H Q=>t σ H λx H1=>∃ c,x=.bl c/\Q c H1
theorem KG{op:CmpOp}{t:TE}(h:PC X op a b t)(h1:behindInMarks op b=false:=by first | exact MT _ () () | rfl):PT X (.Compare a [op] [b] pos) (tB t):=by
 intro TD s σ H Q I hw;show wpAny_isTrue_Compare1 (b3 (h TD s σ H _ I hw) λv s1 h1=>b3 h1 λu s2 h2=>b3 h2 λc s3 #[x,H1,I1,r1,q1]=>?_) h1;let(d,rfl,q):=q1;cases r1;exact wpAny_truthy_bool #[H1,I1,q]
theorem JO{e:Ch}{t:TE}(h:PE X e t)(he:∀ whole,isTrue e X.env whole=(do let v <- whole;standAt e.pos;holding [v] (truthy v)):=by intro _;rfl):PT X e (tB t):=by
 intro TD s σ H Q I hw;show isTrue_plain (b3 (h TD s σ H _ I hw) λv s1 zz=>el2 zz λx H1 I1 r1 q1=>?_) (he _);let(d,rfl,q):=q1;cases r1;exact wpAny_truthy_bool #[H1,I1,q]
variable{tA Qj:TT}{rest:!Ch}
def Nh(t u:TT):TT:=λσ H Q=>t σ H λc H1=>if c=true then u σ H1 Q else Q false H1
def U1(t u:TT):TT:=λσ H Q=>t σ H λc H1=>if c=true then Q true H1 else u σ H1 Q
def Rn(t:TT):TT:=λσ H Q=>t σ H λc H1=>Q (not c) H1
theorem pw_and1(ha:PT X a tA):PW X (.BoolOp .And [a] pos) tA:=by
 intro wh TD s σ H Q I h;show isTrue_and (b3 (ha TD s σ H Q I h) λc s1 e=>?_);cases c with
 | true=>exact isTrue_and_nil e
 | false=>exact e
theorem pw_or1(ha:PT X a tA):PW X (.BoolOp .Or [a] pos) tA:=by
 intro wh TD s σ H Q I h;show isTrue_or (b3 (ha TD s σ H Q I h) λc s1 e=>?_);cases c with
 | false=>exact isTrue_or_nil e
 | true=>exact e
theorem pw_and(ha:PT X a tA)(hb:PW X (.BoolOp .And (b::rest) pos) Qj):PW X (.BoolOp .And (a::b::rest) pos) (Nh tA Qj):=by
 intro wh TD s σ H Q I h;show isTrue_and (b3 (ha TD s σ H _ I h) λc s1 #[H1,I1,q1]=>?_);cases c with
 | true=>exact hb wh TD s1 σ H1 Q I1 q1
 | false=>exact#[H1,I1,q1]
theorem pw_or(ha:PT X a tA)(hb:PW X (.BoolOp .Or (b::rest) pos) Qj):PW X (.BoolOp .Or (a::b::rest) pos) (U1 tA Qj):=by
 intro wh TD s σ H Q I h;show isTrue_or (b3 (ha TD s σ H _ I h) λc s1 #[H1,I1,q1]=>?_);cases c with
 | true=>exact#[H1,I1,q1]
 | false=>exact hb wh TD s1 σ H1 Q I1 q1
theorem Jd(ha:PT X a tA):PT X (.UnaryOp .Not a pos) (Rn tA):=by
 intro TD s σ H Q I h;exact isTrue_not (ha TD s σ H (λc H1=>Q (not c) H1) I h)
def Nq(ta tb:TE):TE:=λσ H Q=>ta σ H λx H1=>∃ c,x=.bl c/\if c=true then tb σ H1 Q else Q (.bl false) H1
def OB(ta:TE):TE:=λσ H Q=>ta σ H λx H1=>∃ c,x=.bl c/\Q (.bl (not c)) H1
theorem K2{op}{t:TE}(h:PE X a t):PE X (.BoolOp op [a] pos) t:=λTD s σ H Q I hw=>BoolOp_one (h TD s σ H Q I hw)
theorem Lg(ha:PE X a ta)(hb:PE X (.BoolOp .And (b::rest) pos) tb):PE X (.BoolOp .And (a::b::rest) pos) (Nq ta tb):=by
 intro TD s σ H Q I h;show BoolOp_and (b3 (ha TD s σ H _ I h) λv s1 zz=>el2 zz λx H1 I1 r1 q1=>?_);let(c,rfl,q1):=q1;cases r1;show wpAny_truthy_bool ?_;cases c with
 | true=>exact hb TD s1 σ H1 Q I1 q1
 | false=>exact#[.bl false,H1,I1,U,q1]
theorem Ls(ha:PE X a ta):PE X (.UnaryOp .Not a pos) (OB ta):=by
 intro TD s σ H Q I h;show UnaryOp_ (b3 (ha TD s σ H _ I h) λv s1 zz=>el2 zz λx H1 I1 r1 q1=>?_);let(c,rfl,q1):=q1;cases r1;exact not_of (wpAny_truthy_bool #[.bl (not c),H1,I1,U,q1])
def U3(t:TT)(ta tb:TE):TE:=λσ H Q=>t σ H λc H1=>if c=true then ta σ H1 Q else tb σ H1 Q
theorem Fu{c:Ch}(hc:PT X c tA)(ha:PE X a ta)(hb:PE X b tb):PE X (.IfExp c a b pos) (U3 tA ta tb):=by
 intro TD s σ H Q I h;show wpAny_IfExp (b3 (hc TD s σ H _ I h) λd s1 #[H1,I1,q1]=>?_);cases d with
 | true=>exact ha TD s1 σ H1 Q I1 q1
 | false=>exact hb TD s1 σ H1 Q I1 q1
end
def eM(K:Frag)(H:Hp)(a:AT)(xs:!V):Prop :=
 Rd H a (.lst xs) \/
  ∃ (o:Obj) (its:Array AC) (n:Nat),K.lookup a=some o/\o.cls=.type "list"/\o.dict=none/\o.data=.seq its n/\its.size<=Ev/\Vals xs its.toList
def ir(K:Frag)(H:Hp)(a:AT)(xs:!V):Prop :=
 Rd H a (.tup xs) \/
  ∃ (o:Obj) (its:Array AC) (n:Nat),K.lookup a=some o/\o.cls=.type "tuple"/\o.data=.seq its n/\its.size<=Ev/\Vals xs its.toList
def RD:AC->Option V
 | .none=>some .cA
 | .bool b=>some (.bl b)
 | .int i _=>some (.int i)
 | .str x _=>some (.str x)
 | .bytes b _=>some (.AA b)
 | .float b _=>some (.Rm b)
 | .ref a=>some (.ref a)
 | .type n=>some (.ty n)
 | _=>none
theorem RelV.abs{x:V}{u:AC}(r:RelV x u):RD u=some x:=by
 cases x with
 | cA=>cases r;rfl
 | bl _=>cases r;rfl
 | int _=>let(t,rfl):=r;rfl
 | str _=>let(t,rfl):=r;rfl
 | AA _=>let(t,rfl):=r;rfl
 | Rm _=>let(t,rfl):=r;rfl
 | ref _=>cases r;rfl
 | ty _=>cases r;rfl
theorem RelV.inj{x y:V}{u:AC}(r:RelV x u)(q:RelV y u):x=y:=V5 (r.abs.symm.trans q.abs)
theorem Vals.inj:∀ {xs ys:!V} {us:!AC},Vals xs us->Vals ys us->xs=ys
 | _,_,_,.nil,.nil=>rfl
 | _,_,_,.cons r t,.cons r' t'=>by rw[r.inj r',Vals.inj t t']
section
variable{X:Cx}{TD:Yc}{σ:St}{H:Hp}{s:Cl}{a:AT}{xs ys:!V}
theorem eM.of{K:Frag}(h:H a=some (.lst xs)):eM K H a xs:=.inl (.inl h)
theorem ir.of{K:Frag}(h:H a=some (.tup xs)):ir K H a xs:=.inl (.inl h)
theorem Inv.list(I:Inv X TD σ H s)(h:eM X.K H a xs):∃ its:!AC,Vals xs its/\PlainL s.heap a its.toArray/\xs.length<=Ev:=by
 rcases h with h | ⟨o,its,n,hk,hc,hd,hs,hz,r⟩
 .let(z,its,n,r,e):=h.ok I.aZ;exact#[its,r,#[_,n,e,U,U,U],z]
 .refine#[its.toList,r,#[o,n,I.LS a o hk,hc,hd,by simpa using hs],?_];have e:=r.length;simp only[Array.length_toList] at e;cbv
theorem Inv.tuple(I:Inv X TD σ H s)(h:ir X.K H a xs):∃ its:!AC,Vals xs its/\IsTup s.heap a its.toArray/\xs.length<=Ev:=by
 rcases h with h | ⟨o,its,n,hk,hc,hs,hz,r⟩
 .let(z,its,r,p):=h.ok I.aZ;exact#[its,r,p,z]
 .refine#[its.toList,r,#[o,I.LS a o hk,hc,n,by simpa using hs],?_];have e:=r.length;simp only[Array.length_toList] at e;cbv
theorem Inv.vF(I:Inv X TD σ H s)(h:eM X.K H a xs)(h':eM X.K H a ys):xs=ys:=by
 let(its,r,(o,n,e,_,_,d),_):=I.list h;let(its',r',(o',n',e',_,_,d'),_):=I.list h';rw[e] at e';cases e';rw[d] at d';injection d' with d1 _;have:its=its':=by simpa using congrArg Array.toList d1
 subst this;exact r.inj r'
theorem Inv.mZ(I:Inv X TD σ H s)(h:ir X.K H a xs)(h':ir X.K H a ys):xs=ys:=by
 let(its,r,(o,e,_,n,d),_):=I.tuple h;let(its',r',(o',e',_,n',d'),_):=I.tuple h';rw[e] at e';cases e';rw[d] at d';injection d' with d1 _;have:its=its':=by simpa using congrArg Array.toList d1
 subst this;exact r.inj r'
end
abbrev Cx.rE(X:Cx)(E:Yb):Cx:={ X with xe:=E }
abbrev Cx.FA(X:Cx):Cx:=X.rE λ_ _=>False
theorem Cx.Ok.rE{X:Cx}(ok:X.Ok)(E:Yb):(X.rE E).Ok :=
 #[ok.mod,ok.kind,ok.glob,ok.blt,ok.above,ok.inj,ok.has,ok.Oj,ok.hd,ok.frames,ok.Qg,ok.P8,ok.bs,ok.Ij,ok.CW,ok.Ei,ok.pC,ok.L9]
theorem Cx.Ok.jA{X:Cx}{E:Yb}(ok:(X.rE E).Ok):X.Ok :=
 #[ok.mod,ok.kind,ok.glob,ok.blt,ok.above,ok.inj,ok.has,ok.Oj,ok.hd,ok.frames,ok.Qg,ok.P8,ok.bs,ok.Ij,ok.CW,ok.Ei,ok.pC,ok.L9]
section
variable{X:Cx}{TD:Yc}{σ:St}{H:Hp}{s:Cl}{E:Yb}
theorem Inv.rE(I:Inv X TD σ H s)(E:Yb):Inv (X.rE E) TD σ H s:=#[I.ok.rE E,I.os,I.bare,I.base,I.loc,I.cell,I.free,I.jl,I.pin,I.aZ,I.len]
theorem Inv.jA(I:Inv (X.rE E) TD σ H s):Inv X TD σ H s:=#[I.ok.jA,I.os,I.bare,I.base,I.loc,I.cell,I.free,I.jl,I.pin,I.aZ,I.len]
theorem SP.jA{D:Ends}{f:Flow}{s':Cl}(h:SP (X.rE E) TD D f s'):SP X TD D f s':=by
 cases f with
 | next=>let(σ',H',I,q):=h;exact#[σ',H',I.jA,q]
 | brk=>let(σ',H',I,q):=h;exact#[σ',H',I.jA,q]
 | cont=>let(σ',H',I,q):=h;exact#[σ',H',I.jA,q]
 | ret u=>let(v,σ',H',I,r,q):=h;exact#[v,σ',H',I.jA,r,q]
theorem sO.FA{st:!Fa}{t:TS}(h:sO X.FA st t):sO X st t:=λTD s σ H D I hw =>
 KM (h TD s σ H D (I.rE _) hw) (λ_ _ q=>q.jA) λ_ _ z=>False.elim z
end
section
variable{X:Cx}{st:Fa}{rest:!Fa}{t u:TS}{e:Ch}{te:TE}{pos:Pos}
def IY:TS:=λD σ H=>D.nx σ H
def qm(t u:TS):TS:=λD σ H=>t { D with nx:=u D } σ H
theorem zN:sO X [] IY:=λ_ _ σ H _ I h=>wpAny_execs_nil #[σ,H,I,h]
theorem cK(h1:PS X st t)(h2:sO X rest u):sO X (st::rest) (qm t u):=by
 intro TD s σ H D I h;show wpAny_execs_cons (b3 (h1 TD s σ H { D with nx:=u D } I h) λf s1 q=>?_);cases f with
 | next =>
  let(σ',H',I',q):=q;exact h2 TD s1 σ' H' D I' q
 | ret v=>exact q
 | brk=>exact q
 | cont=>exact q
theorem jW(h1:PS X st t):sO X [st] t:=by
 intro TD s σ H D I h;show wpAny_execs_cons (b3 (h1 TD s σ H D I h) λf s1 q=>?_);cases f with
 | next=>exact wpAny_execs_nil q
 | ret v=>exact q
 | brk=>exact q
 | cont=>exact q
theorem Inv.quiet{TD:Yc}{σ:St}{H:Hp}{s:Cl}(I:Inv X TD σ H s):interactive X.env=false:=by simp[interactive,I.ok.kind]
def O6(te:TE):TS:=λD σ H=>te σ H λ_ H1=>D.nx σ H1
theorem Hs(he:PE X e te)(hs:(swapsWith e none pos.line X.env=pure false)⁻¹):PS X (.Expr e pos) (O6 te):=by
 intro TD s σ H D I h;exact wpAny_Expr_any (b3 (he TD s σ H _ I h) λv s1 zz=>el2 zz λx H1 I1 r1 q1=>#[σ,H1,I1,q1]) I.quiet hs
def FZ(te:TE):TS:=λD σ H=>te σ H D.rt
theorem ni(he:PE X e te):PS X (.Return (some e) pos) (FZ te):=by
 intro TD s σ H D I h;exact wpAny_Return_some (b3 (he TD s σ H _ I h) λv s1 zz=>el2 zz λx H1 I1 r1 q1=>#[x,σ,H1,I1,r1,q1])
def NU(c:TT)(t u:TS):TS:=λD σ H=>c σ H λb H1=>if b=true then t D σ H1 else u D σ H1
theorem HG{c:Ch}{a b:!Fa}{tc:TT}(hc:PT X c tc)(ha:sO X a t)(hb:sO X b u):PS X (.If c a b pos) (NU tc t u):=by
 intro TD s σ H D I h;show wpAny_If (b3 (hc TD s σ H _ I h) λd s1 #[H1,I1,q1]=>?_);cases d with
 | true=>exact ha TD s1 σ H1 D I1 q1
 | false=>exact hb TD s1 σ H1 D I1 q1
end
abbrev TG:=V->St->Hp->(St->Hp->Prop)->Prop
abbrev Gr:=!V->St->Hp->(St->Hp->Prop)->Prop
def PG(X:Cx)(target:Ch)(t:TG):Prop :=
 ∀ (TD:Yc) (s:Cl) (σ:St) (H:Hp) (v:V) (u:AC) (Q:St->Hp->Prop),Inv X TD σ H s->RelV v u->t v σ H Q ->
  Da (model X.prog X.w) X.A (assign target X.env u) (λ_ s'=>∃ σ' H',Inv X TD σ' H' s'/\Q σ' H') X.xe s
def IL(X:Cx)(ts:!Ch)(t:Gr):Prop :=
 ∀ (TD:Yc) (s:Cl) (σ:St) (H:Hp) (vs:!V) (us:!AC) (Q:St->Hp->Prop),Inv X TD σ H s->Vals vs us->t vs σ H Q ->
  Da (model X.prog X.w) X.A (assignInOrder ((assignEach ts X.env).map (·.2)) us) (λ_ s'=>∃ σ' H',Inv X TD σ' H' s'/\Q σ' H') X.xe s
abbrev LL:=V->V->V->Hp->(Hp->Prop)->Prop
def N6(X:Cx)(t:LL):Prop :=
 ∀ (TD:Yc) (s:Cl) (σ:St) (H:Hp) (o i v:V) (ov iv u:AC) (Q:Hp->Prop),Inv X TD σ H s->RelV o ov->RelV i iv->RelV v u->t o i v H Q ->
  Da (model X.prog X.w) X.A (setItem ov iv u) (λ_ s'=>∃ H',Inv X TD σ H' s'/\Q H') X.xe s
section
variable{X:Cx}{pos:Pos}
def dU(i:Nat):TG:=λv σ H Q=>Q (σ.set i (some v)) H
theorem fo{i:Nat}{x:Str}(hN:X.N.Nodup)(hi:X.N[i]?=some x)(hx:Loc X.env.scope x)(hf:Yh X x:=by ac_nf):PG X (.Name x pos) (dU i):=by
 intro TD s σ H v u Q I r h;exact wpAny_assign_Name (v7 I hN hi hx r (λs' I'=>#[_,H,I',h]) hf)
def RV:Gr:=λvs σ H Q=>vs=[]/\Q σ H
def NN(t:TG)(u:Gr):Gr:=λvs σ H Q=>∃ v r,vs=v::r/\t v σ H λσ' H'=>u r σ' H' Q
theorem F8:IL X [] RV:=by
 intro TD s σ H vs us Q I r h;let(e,h):=h;subst e;cases r;exact assignInOrder_nil #[σ,H,I,h]
theorem B6{e:Ch}{es:!Ch}{t:TG}{u:Gr}(h1:PG X e t)(h2:IL X es u)(hs:((assignEach (e::es) X.env).map (·.2)=assign e X.env::(assignEach es X.env).map (·.2))⁻¹):IL X (e::es) (NN t u):=by
 intro TD s σ H vs us Q I r h;let(v,vr,e1,h):=h;subst e1;cases r with
 | cons r rr =>
  rw[hs];show assignInOrder_cons (b3 (h1 TD s σ H _ _ _ I r h) λ_ s1 #[σ1,H1,I1,q1]=>?_);exact h2 TD s1 σ1 H1 _ _ Q I1 rr q1
def Q0(K:Frag)(n:Nat)(t:Gr):TG:=λv σ H Q=>∃ a xs,v=.ref a/\ir K H a xs/\xs.length=n/\t xs σ H Q
theorem Kj{es:!Ch}{k:Nat}{t:Gr}{n:Nat}(hc:X.calm=true)(h:IL X es t)(hn:((assignEach es X.env).length=n)⁻¹)(n5:((assignEach es X.env).findIdx? (·.1)=none)⁻¹):PG X (.Tuple es k pos) (Q0 X.K n t):=by
 intro TD s σ H v u Q I r hw;let(a,xs,e1,hq,hl,hw):=hw;subst e1;cases r;let(its,rv,ht,hz):=I.tuple hq;show assign_Tuple_tuple (I.ok.hd hc) ht (by simp[hn,<- hl,rv.length]) n5 λh' hx=>?_;have I1:Inv X TD σ H { s with heap:=h' }:=I.kept (t':=s.toks) λb o e=>hx b o (VW (VL e)) e;exact h TD _ σ H xs _ Q I1 (by simpa using rv) hw
def Pb(to ti:TE)(t:LL):TG:=λv σ H Q=>to σ H λo H1=>ti σ H1 λi H2=>t o i v H2 λH3=>Q σ H3
theorem K7{o i:Ch}{to ti:TE}{t:LL}(ho:PE X o to)(hi:PE X i ti)(hs:N6 X t)(ha:∀ v,assign (.Subscript o i pos) X.env v=(do
   let ov <- holding [v] (eval o X.env);let iv <- holding [v,ov] (eval i X.env)
   standAt pos
   holding [v,ov,iv] (setItem ov iv v)
   release [v,ov,iv] []):=by intro _;rfl):PG X (.Subscript o i pos) (Pb to ti t):=by
 intro TD s σ H v u Q I r h;rw[ha];show BT (KK (b3 (ho TD s σ H _ I h) λov s1 z1q=>?_));let(x,H1,I1,r1,q1):=z1q;show BT (KK (b3 (hi TD s1 σ H1 _ I1 q1) λiv s2 z2q=>?_));let(y,H2,I2,r2,q2):=z2q;show BT (wpAny_standAt (BT (KK (b3 (hs TD s2 σ H2 x y v ov iv u _ I2 r1 r2 r q2) λ_ s3 z3q=>?_))));let(H3,I3,q3):=z3q;exact wpAny_release #[σ,H3,I3,q3]
def kc(te:TE)(g:TG):TS:=λD σ H=>te σ H λx H1=>g x σ H1 D.nx
theorem Dg{tg e:Ch}{te:TE}{g:TG}(he:PE X e te)(hg:PG X tg g)(hs:(swapsWithSole [tg] e pos.line X.env=pure false)⁻¹)(hw:(swappedStores [tg] e X.env=pure none)⁻¹)(h1:((assignEach [tg] X.env).map (·.2)=[assign tg X.env])⁻¹):PS X (.Assign [tg] e pos) (kc te g):=by
 intro TD s σ H D I h;show wpAny_Assign_stores (b3 (he TD s σ H _ I h) λv s1 zz=>el2 zz λx H1 I1 r1 q1=>?_) hs hw;rw[h1];exact b3 (hg TD s1 σ H1 x v _ I1 r1 q1) λ_ s2 q=>q
theorem dQ{i:Nat}{x:Str}{e:Ch}{te:TE}{pos':Pos}(hN:X.N.Nodup)(hi:X.N[i]?=some x)(hx:Loc X.env.scope x)(he:PE X e te)(hs:(swapsWith e (some (.Name x pos')) pos.line X.env=pure false)⁻¹)(hf:Yh X x:=by ac_nf) :
  PS X (.Assign [.Name x pos'] e pos) (kc te (dU i)):=by
 intro TD s σ H D I h;show wpAny_Assign_Name (b3 (he TD s σ H _ I h) λv s1 zz=>el2 zz λy H1 I1 r1 q1=>?_) hs;exact v7 I1 hN hi hx r1 (λs2 I2=>#[_,H1,I2,q1]) hf
def Dk(c:TT)(tb:TS):TS:=λD σ H=>∃ W:Nat->St->Hp->Prop,(∃ m,W m σ H)/\∀ m σ H,W m σ H ->
 c σ H λb H1=>if b=true then ∃ N:St->Hp->Prop,(∀ σ' H',N σ' H'->∃ m',m' < m/\W m' σ' H')/\tb { D with nx:=N,ct:=N,bk:=D.nx } σ H1 else D.nx σ H1
theorem vQ{c:Ch}{body:!Fa}{tc:TT}{tb:TS}(hp:PassesOwn (model X.prog X.w) X.A X.env X.xe)(hc:PT X c tc)(hb:sO X body tb):PS X (.While c body [] pos) (Dk tc tb):=by
 intro TD s σ H D I h;let(W,(m0,w0),turn):=h;show wpAny_While (codeAny_whileLoop (λn s'=>∃ σ' H',Inv X TD σ' H' s'/\W n σ' H') ?_ m0 #[σ,H,I,w0]);rintro n s1 ⟨σ1,H1,I1,w1⟩;show wpAny_passesOwn hp (b3 (hc TD s1 σ1 H1 _ I1 (turn n σ1 H1 w1)) λb s2 z4q=>?_);let(H2,I2,q2):=z4q;cases b with
 | true =>
  let(N,hN,q2):=q2;rw[if_pos U];show wpAny_passesOwn hp (b3 (hb TD s2 σ1 H2 _ I2 q2) λf s3 q3=>?_);cases f with
  | next =>
   let(σ3,H3,I3,n3):=q3;let(m',hm,w3):=hN σ3 H3 n3;exact#[m',hm,σ3,H3,I3,w3]
  | cont =>
   let(σ3,H3,I3,n3):=q3;let(m',hm,w3):=hN σ3 H3 n3;exact#[m',hm,σ3,H3,I3,w3]
  | brk=>exact q3
  | ret v=>exact q3
 | false =>
  rw[if_neg VN];exact wpAny_execs_nil #[σ1,H2,I2,q2]
end
structure It where
 go:Nat->Hp->Prop
 OM:Nat->Hp->V->Hp->Prop
 stop:Nat->Hp->Prop
def fX(X:Cx)(TD:Yc)(H:Hp)(b:AT):Prop :=
 H b=none/\b≠X.env.locals/\b∉X.fs/\(b∈X.ex\/X.s₀.heap.objs.size<=b)/\(∀ x c,X.env.cells.lookup x=some c->c≠b)/\∀ p∈X.pn++TD,p.1≠b
theorem Inv.rB{X:Cx}{TD:Yc}{σ:St}{H H':Hp}{s:Cl}{b:AT}(I:Inv X TD σ H s)(hb:↑s<=b)(hn:H' b=none):fX X TD H' b:=by
 show#[hn,W7 (VZ I.lt hb),I.Rq hb,.inr (VF I.sz hb),λx c e z=>?_,λp hp z=>?_]
 .let(v,q):=I.cell x c e;exact absurd (VZ q.lt (by rw[z];exact hb)) (WL _)
 .exact absurd (VZ (VL (I.pin p hp).1) (by rw[z];exact hb)) (WL _)
structure Turn(P:Fk)(w:FB)(K:Frag)(tg:Ch)(J:It)(fp:!AT)(it:AT)(tn:Nat->Db->Prop):Prop where
 mem:it∈fp
 obj:∀ i h,tn i h->∀ b∈fp,∃ o,h.get? b=some o/\∀ v,o.data≠.cell v
 keep:∀ i h h',tn i h->(∀ b∈fp,∀ o,h.get? b=some o->h'.get? b=some o)->tn i h'
 item:∀ (X:Cx),X.prog=P->X.w=w->X.K=K->X.calm=true->∀ (i:Nat) (TD:Yc) (s:Cl) (σ:St) (H:Hp) (E:Yb),Inv X TD σ H s->(∀ b∈fp,fX X TD H b)->tn i s.heap->J.go i H ->
  Da (model P w) X.A (pyNext (.ref it)) (λr s1=>∃ u,r=some u /\
   Da (model P w) X.A (letOwnedTupleGo tg (.ref it) u) (λ_ s2=>∃ x H',Inv X TD σ H' s2/\RelV x u/\J.OM i H x H'/\tn (i+1) s2.heap/\∀ b∈fp,H' b=none) E s1) E s
 done:∀ (X:Cx),X.prog=P->X.w=w->X.K=K->X.calm=true->∀ (i:Nat) (TD:Yc) (s:Cl) (σ:St) (H:Hp) (E:Yb),Inv X TD σ H s->(∀ b∈fp,fX X TD H b)->tn i s.heap->J.stop i H ->
  Da (model P w) X.A (pyNext (.ref it)) (λr s1=>r=none/\Inv X TD σ H s1) E s
 self:∀ (A:Fr) (i:Nat) (s:Cl) (Q:Yb) (E:Yb),tn i s.heap->Q (.ref it) s->Da (model P w) A (pyIter (.ref it)) Q E s
abbrev TI:=St->Hp->(It->Hp->Prop)->Prop
def Sq(X:Cx)(TD:Yc)(σ:St)(tg:Ch)(R:It->Hp->Prop)(P6:AC)(s2:Cl):Prop :=
 ∃ (it:AT) (fp:!AT) (tn:Nat->Db->Prop) (J:It) (H':Hp),P6=.ref it/\Inv X TD σ H' s2/\Turn X.prog X.w X.K tg J fp it tn/\tn 0 s2.heap/\(∀ b∈fp,fX X TD H' b)/\R J H'
def PI(X:Cx)(tg iter:Ch)(wi:TI):Prop :=
 ∀ (TD:Yc) (s:Cl) (σ:St) (H:Hp) (R:It->Hp->Prop),Inv X TD σ H s->wi σ H R ->
  Da (model X.prog X.w) X.A (eval iter X.env) (λv s1=>Da (model X.prog X.w) X.A (pyIter v) (Sq X TD σ tg R) X.xe s1) X.xe s
theorem Ae{M:Model}{A:Fr}{E:Yb}{s:Cl}{tg:Ch}{it:AT}{u:AC}{o:Obj}{n:String}{vs:Array AC}{Q:Unit->Cl->Prop}(ho:s.heap.get? it=some o)(hc:o.cls=.type n)(hd:o.data=.fields vs)(hn:["enumerate","zip","dict_itemiterator","dict_reverseitemiterator","odict_iterator","itertools.zip_longest","itertools.pairwise"].contains n=false)(hQ:Q Unit.unit s):Da M A (letOwnedTupleGo tg (.ref it) u) Q E s:=by
 unfold letOwnedTupleGo;cases tg<;>first
  | exact EQ hQ
  | (cases u<;>first
    | exact EQ hQ
    | (show BT (wpAny_load ho ?_)
       rw[hc,hd];change Da M A (if (["enumerate","zip","dict_itemiterator","dict_reverseitemiterator","odict_iterator","itertools.zip_longest","itertools.pairwise"].contains n&&vs[0]? == some (IR _))=true then _ else _) Q E s;rw[if_neg (by intro h;rw[hn,Bool.false_and] at h;cases h)];exact EQ hQ))
def Le(K:Frag)(a:AT):It :=
 #[λi H=>∃ xs x,eM K H a xs/\xs[i]?=some x,λi H x H'=>H'=H/\∀ xs,eM K H a xs->xs[i]?=some x,λi H=>∃ xs,eM K H a xs/\xs.length<=i]
def Sg(K:Frag)(a:AT):It :=
 #[λi H=>∃ xs x,ir K H a xs/\xs[i]?=some x,λi H x H'=>H'=H/\∀ xs,ir K H a xs->xs[i]?=some x,λi H=>∃ xs,ir K H a xs/\xs.length<=i]
def Qr(lo:Int)(n:Nat):It:=#[λi _=>i < n,λi H x H'=>H'=H/\x=.int (lo+i),λi _=>n<=i]
theorem sM{P:Fk}{w:FB}{K:Frag}{tg:Ch}(a it:AT):Turn P w K tg (Le K a) [it] it (λi h=>h.IsListIter it a i) where
 mem:=by simp
 obj:=λi h st b hb=>by
  have e:b=it:=by simpa using hb
  subst e;let(o,e,c,d):=st;exact#[o,e,λv z=>by rw[d] at z;cases z]
 keep:=λi h h' st k=>st.at λo e=>k it (by simp) o e
 item:=by
  intro X hP hw hK hc i TD s σ H E I hf st hg;subst hP hw hK;let(xs,x,hq,hx):=hg;let(its,rv,p,hz):=I.list hq;let(u,hu,ru):=rv.get hx;let(f0,f1,f2,f3,f4,f5):=hf it (by simp);show wpAny_pyNext_list_item st p.isList (x:=u) (by simpa using hu) λh' st' sb=>?_;have I1:Inv X TD σ H { s with heap:=h' }:=I.turned (t':=s.toks) (λb o hb e=>(sb.2 b hb).trans e) f0 f1 f3 f4 f5;let(o,e,c,d):=id st';exact#[u,U,Ae (s:={ s with heap:=h' }) e c d () #[x,H,I1,ru,#[U,λys hy=>by rw[I.vF hy hq];exact hx],st',λb hb=>(hf b hb).1]]
 done:=by
  intro X hP hw hK hc i TD s σ H E I hf st hg;subst hP hw hK;let(xs,hq,hx):=hg;let(its,rv,p,hz):=I.list hq;let(f0,f1,f2,f3,f4,f5):=hf it (by simp);have hl:=rv.length;exact wpAny_pyNext_list_end (I.ok.hd hc) st p.isList (by simp;cbv) λh' eb=>#[U,I.turned (t':=s.toks) (λb o hb e=>eb b o hb e) f0 f1 f3 f4 f5]
 self:=λ_ _ _ _ _ st h=>wpAny_pyIter_listiter st h
theorem xM{P:Fk}{w:FB}{K:Frag}{tg:Ch}(a it:AT):Turn P w K tg (Sg K a) [it] it (λi h=>h.IsTupleIter it a i) where
 mem:=by simp
 obj:=λi h st b hb=>by
  have e:b=it:=by simpa using hb
  subst e;let(o,e,c,d):=st;exact#[o,e,λv z=>by rw[d] at z;cases z]
 keep:=λi h h' st k=>st.at λo e=>k it (by simp) o e
 item:=by
  intro X hP hw hK hc i TD s σ H E I hf st hg;subst hP hw hK;let(xs,x,hq,hx):=hg;let(its,rv,p,hz):=I.tuple hq;let(u,hu,ru):=rv.get hx;let(f0,f1,f2,f3,f4,f5):=hf it (by simp);show wpAny_pyNext_tuple_item st (show s.heap.IsTuple a its.toArray from p) (x:=u) (by simpa using hu) λh' st' sb=>?_;have I1:Inv X TD σ H { s with heap:=h' }:=I.turned (t':=s.toks) (λb o hb e=>(sb.2 b hb).trans e) f0 f1 f3 f4 f5;let(o,e,c,d):=id st';exact#[u,U,Ae (s:={ s with heap:=h' }) e c d () #[x,H,I1,ru,#[U,λys hy=>by rw[I.mZ hy hq];exact hx],st',λb hb=>(hf b hb).1]]
 done:=by
  intro X hP hw hK hc i TD s σ H E I hf st hg;subst hP hw hK;let(xs,hq,hx):=hg;let(its,rv,p,hz):=I.tuple hq;let(f0,f1,f2,f3,f4,f5):=hf it (by simp);have hl:=rv.length;exact wpAny_pyNext_tuple_end (I.ok.hd hc) st (show s.heap.IsTuple a its.toArray from p) (by simp;cbv) λh' eb=>#[U,I.turned (t':=s.toks) (λb o hb e=>eb b o hb e) f0 f1 f3 f4 f5]
 self:=λ_ _ _ _ _ st h=>wpAny_pyIter_tupleiter st h
theorem ym{P:Fk}{w:FB}{K:Frag}{tg:Ch}(it:AT)(lo:Int)(n:Nat):Turn P w K tg (Qr lo n) [it] it (λi h=>IsRangeIter h it (lo+(i:Nat) * 1) ((n:Int) - (i:Nat)) 1) where
 mem:=by simp
 obj:=λi h st b hb=>by
  have e:b=it:=by simpa using hb
  subst e;exact#[_,st,λv z=>by
   have z':Data.fields _=Data.cell v:=z;cases z']
 keep:=λi h h' st k=>k it (by simp) _ st
 item:=by
  intro X hP hw hK hc i TD s σ H E I hf st hg;subst hP hw hK;let(f0,f1,f2,f3,f4,f5):=hf it (by simp);have W:=Walks.range (prog:=X.prog) (w:=X.w) (I.ok.hd hc) it lo 1 n;show W.item i s _ _ hg st λv h' tk hv st' kk=>?_;let(t,rfl):=hv;have I1:Inv X TD σ H { s with heap:=h',toks:=tk }:=I.turned (λb o hb e=>kk b o (by simpa using hb) e) f0 f1 f3 f4 f5;show#[_,U,Ae (s:={ s with heap:=h',toks:=tk }) (n:="range_iterator") st' U U () #[.int (lo+i),H,I1,#[t,?_],#[U,U],st',λb hb=>(hf b hb).1]];rw[Int.mul_one]
 done:=by
  intro X hP hw hK hc i TD s σ H E I hf st hg;subst hP hw hK;let(f0,f1,f2,f3,f4,f5):=hf it (by simp);exact wpAny_pyNext_range_end (I.ok.hd hc) st (by have:n<=i:=hg;cbv) λh' eb=>#[U,I.turned (t':=s.toks) (λb o hb e=>eb b o hb e) f0 f1 f3 f4 f5]
 self:=λ_ _ _ _ _ st h=>wpAny_pyIter_rangeiter st h
section
variable{X:Cx}{tg:Ch}
def Af(K:Frag)(tl:TE):TI:=λσ H R=>tl σ H λx H1=>∃ a,x=.ref a/\(∃ xs,eM K H1 a xs)/\R (Le K a) H1
theorem uK{l:Ch}{tl:TE}(hl:PE X l tl):PI X tg l (Af X.K tl):=by
 intro TD s σ H R I h;show b3 (hl TD s σ H _ I h) λv s1 z5q=>?_;let(x,H1,I1,r1,q1):=z5q;let(a,e,(xs,hq),q):=q1;subst e;cases r1;let(its,rv,p,hz):=I1.list hq;show wpAny_pyIter_list p.isList ?_;show#[↑s1,[↑s1],_,_,H1,U,I1.kept (t':=s1.toks) λb o e=>Vz _ e,sM a _,#[_,VP _ U,U,U],λb hb=>?_,q];have e:b=↑s1:=by simpa using hb
 subst e;exact I1.rB (VB _) (I1.aZ.fresh (VB _))
theorem Ff{TD:Yc}{σ:St}{H:Hp}{s:Cl}{R:It->Hp->Prop}{E:Yb}{lo hi:Int}{t u v:Tok}{tk:Nat}(I:Inv X TD σ H s)(h1:-(2 ^ 62)<=lo)(h2:lo < 2 ^ 62)(h3:-(2 ^ 62)<=hi)(h4:hi < 2 ^ 62)(q:R (Qr lo (hi - lo).toNat) H):Da (model X.prog X.w) X.A (pyIter (.ref ↑s)) (Sq X TD σ tg R) E { s with heap:=s.heap.push { cls:=.type "range",data:=.fields #v[.int lo t,.int hi u,.int 1 v] },toks:=tk }:=by
 show wpAny_pyIter_range (IsRange.new ..) (small_one h1 h2 h3 h4) ?_;have I1:Inv X TD σ H { s with heap:=s.heap.push { cls:=.type "range",data:=.fields #v[.int lo t,.int hi u,.int 1 v] },toks:=tk }:=I.kept λb o e=>Vz _ e;show#[(s.heap.push { cls:=.type "range",data:=.fields #v[.int lo t,.int hi u,.int 1 v] }).objs.size,[(s.heap.push { cls:=.type "range",data:=.fields #v[.int lo t,.int hi u,.int 1 v] }).objs.size],_,_,H,U,
  I1.kept (t':=tk) λb o e=>Vz _ e,ym _ lo (hi - lo).toNat,?_,λb hb=>?_,q]
 .have e1:lo+((0:Nat):Int) * 1=lo:=by simp
  have e2:(((hi - lo).toNat:Nat):Int) - ((0:Nat):Int)=FM.Range.rangeSize lo hi 1:=by rw[rangeSize_one];split<;>cbv
  change IsRangeIter _ _ (lo+((0:Nat):Int) * 1) ((((hi - lo).toNat:Nat):Int) - ((0:Nat):Int)) 1;rw[e1,e2];exact VP _ U
 .have e:b=(s.heap.push { cls:=.type "range",data:=.fields #v[.int lo t,.int hi u,.int 1 v] }).objs.size:=by simpa using hb
  subst e;exact I1.rB (VB _) (I1.aZ.fresh (VB _))
def NS(ta:TA):TI:=λσ H R=>ta σ H λvs H1=>∃ j:Int,vs=[.int j]/\-(2 ^ 62)<=j/\j < 2 ^ 62/\R (Qr 0 j.toNat) H1
theorem A2{a:Ch}{ta:TA}{p pos:Pos}(hg:Gl X "range")(hm:X.mg "range"=none)(ha:PA X [a] ta)(hs:(GE [a] X.env=[(false,eval a X.env)])⁻¹):PI X tg (.Call (.Name "range" p) [a] [] pos) (NS ta):=by
 intro TD s σ H R I h;show Call_ (g0 I hg hm boot_range (PyProof.Rows.callWith_type1 (b3 (ha pos TD s σ H _ I h) λus s1 zz=>el2 zz λvs H1 I1 r1 q1=>?_) hs U));let(j,e,q1,q2,q):=q1;subst e;cases r1 with
 | cons r rr =>
  cases rr;let(t,rfl):=r;exact call_range_1 (Ff I1 (by cbv) (by cbv) q1 q2 (by simpa using q))
def PQ(wi:TI)(g:TG)(tb:TS):TS:=λD σ H=>wi σ H λJ H1=>∃ W:Nat->Nat->St->Hp->Prop,(∃ m,W 0 m σ H1)/\∀ i m σ H,W i m σ H ->
 (J.stop i H/\D.nx σ H)\/(J.go i H/\∃ N:St->Hp->Prop,(∀ σ' H',N σ' H'->∃ m',m' < m/\W (i+1) m' σ' H')/\∀ x H',J.OM i H x H'->g x σ H' λσ2 H2=>tb { D with nx:=N,ct:=N,bk:=D.nx } σ2 H2)
def qZ(fp:!AT)(h:Db):Yc:=fp.filterMap λb=>(h.get? b).map λo=>(b,o)
theorem iX{fp:!AT}{h:Db}{b:AT}{o:Obj}(hb:b∈fp)(e:h.get? b=some o):(b,o)∈qZ fp h:=List.mem_filterMap.mpr #[b,hb,by rw[e];rfl]
theorem AX{fp:!AT}{h:Db}{p:AT×Obj}(hp:p∈qZ fp h):p.1∈fp/\h.get? p.1=some p.2:=by
 let(b,hb,e):=List.mem_filterMap.mp hp;cases q:h.get? b with
 | none=>rw[q] at e;cases e
 | some o =>
  rw[q] at e;have e':(b,o)=p:=V5 e;subst e';exact#[hb,q]
theorem Inv.pinned{TD:Yc}{σ:St}{H:Hp}{s:Cl}{fp:!AT}(I:Inv X TD σ H s)(hf:∀ b∈fp,fX X TD H b)(ho:∀ b∈fp,∃ o,s.heap.get? b=some o/\∀ v,o.data≠.cell v):Inv X (TD++qZ fp s.heap) σ H s :=
 I.zk λp hp=>(VM.mp hp).elim (λz=>I.pin p (V6 _ z)) λz=>by
  let(hb,e):=AX z;let(f0,f1,f2,_):=hf p.1 hb;let(o,e',d):=ho p.1 hb;rw[e] at e';cases e';exact#[e,f0,f1,f2,d]
theorem Inv.lQ{TD pl:Yc}{σ:St}{H:Hp}{s:Cl}(I:Inv X (TD++pl) σ H s):Inv X TD σ H s:=I.zk λp hp=>I.pin p (V6 _ (Wa _ hp))
abbrev Yi (i:Ch)(N:Env):Prop:=∀ x,foldedSetIterable i N x=pure x
theorem D5{iter:Ch}{body:!Fa}{wi:TI}{g:TG}{tb:TS}{pos:Pos}(hp:PassesOwn (model X.prog X.w) X.A X.env X.xe)(hc:X.calm=true)(hi:PI X tg iter wi)(hg:PG X tg g)(hb:sO X body tb)(hs:Yi iter X.env:=by intro _;rfl):PS X (.For tg iter body [] pos) (PQ wi g tb):=by
 intro TD s σ H D I h;show wpAny_For (b3 (hi TD s σ H _ I h) λv s1 h1=>b3 h1 λP6 s2 h2=>?_) hs;let(it,fp,tn,J,H2,e,I2,T,HK,f2,W,(m0,w0),turn):=h2;subst e
 -- what stays true of the iterator's objects through the loop
 have stat:∀ {H':Hp},(∀ b∈fp,H' b=none)->∀ b∈fp,fX X TD H' b:=λhn b hb=>#[hn b hb,(f2 b hb).2];show codeAny_forLoop_any (λn s'=>∃ i σ' H',Inv X TD σ' H' s'/\tn i s'.heap/\(∀ b∈fp,H' b=none)/\W i n σ' H') ?_ m0 #[0,σ,H2,I2,HK,λb hb=>(f2 b hb).1,w0];rintro n s3 ⟨i,σ3,H3,I3,st3,fr3,w3⟩;rcases turn i n σ3 H3 w3 with ⟨stop,qn⟩ | ⟨go,N,hN,step⟩
 .refine wpAny_passesOwn hp (b3 (T.done X U U U hc i TD s3 σ3 H3 X.xe I3 (stat fr3) st3 stop) λr s4 z6q=>?_);let(hr,I4):=z6q;subst hr;exact wpAny_execs_nil #[σ3,H3,I4,qn]
 .refine wpAny_passesOwn hp (b3 (T.item X U U U hc i TD s3 σ3 H3 X.xe I3 (stat fr3) st3 go) λr s4 z7q=>?_);let(u,hr,h4):=z7q;subst hr;show wpAny_passesOwn hp (b3 h4 λ_ s5 z8q=>?_);let(x,H5,I5,r5,y5,st5,fr5):=z8q;have I5':=I5.pinned (stat fr5) (T.obj _ _ st5);show wpAny_passesOwn hp (b3 (hg _ s5 σ3 H5 x u _ I5' r5 (step x H5 y5)) λ_ s6 z9q=>?_);let(σ6,H6,I6,q6):=z9q;show wpAny_passesOwn hp (b3 (hb _ s6 σ6 H6 _ I6 q6) λf s7 q7=>?_);have again:∀ {σ7:St} {H7:Hp},Inv X (TD++qZ fp s5.heap) σ7 H7 s7->N σ7 H7->∃ m,m < n/\∃ i σ' H',Inv X TD σ' H' s7/\tn i s7.heap/\(∀ b∈fp,H' b=none)/\W i m σ' H':=λ{σ7 H7} I7 n7=>by
   let(m',hm,w7):=hN σ7 H7 n7;show#[m',hm,i+1,σ7,H7,I7.lQ,T.keep _ _ _ st5 λb hb o e=>(I7.pin (b,o) (V6 _ (V6 _ (iX hb e)))).1,λb hb=>?_,w7];let(o,e,d):=T.obj _ _ st5 b hb;exact (I7.pin (b,o) (V6 _ (V6 _ (iX hb e)))).2.1
  cases f with
  | next=>let(σ7,H7,I7,n7):=q7;exact again I7 n7
  | cont=>let(σ7,H7,I7,n7):=q7;exact again I7 n7
  | brk=>let(σ7,H7,I7,q7):=q7;exact#[σ7,H7,I7.lQ,q7]
  | ret v=>let(x7,σ7,H7,I7,r7,q7):=q7;exact#[x7,σ7,H7,I7.lQ,r7,q7]
end
theorem EE{K:Frag}{a:AT}{xs:!V}{g:TG}{tb:TS}{D:Ends}{σ:St}{H:Hp}(Pv:Nat->St->Hp->Prop)(h0:Pv 0 σ H)(hl:∀ i σ H,i<=xs.length->Pv i σ H->eM K H a xs)(hs:∀ i x σ H,xs[i]?=some x->Pv i σ H->g x σ H λσ2 H2=>tb { D with nx:=Pv (i+1),ct:=Pv (i+1),bk:=D.nx } σ2 H2)(hd:∀ σ H,Pv xs.length σ H->D.nx σ H) :
  ∃ W:Nat->Nat->St->Hp->Prop,(∃ m,W 0 m σ H)/\∀ i m σ H,W i m σ H ->
   ((Le K a).stop i H/\D.nx σ H)\/((Le K a).go i H/\∃ N:St->Hp->Prop,(∀ σ' H',N σ' H'->∃ m',m' < m/\W (i+1) m' σ' H')/\∀ x H',(Le K a).OM i H x H'->g x σ H' λσ2 H2=>tb { D with nx:=N,ct:=N,bk:=D.nx } σ2 H2):=by
 show#[λi m σ H=>m=xs.length - i/\i<=xs.length/\Pv i σ H,#[xs.length,by simp,Nat.zero_le _,h0],?_];rintro i m σ H ⟨rfl,hi,p⟩;have q:=hl i σ H hi p;by_cases jI:i < xs.length
 .refine .inr #[#[xs,xs[i],q,by simp[jI]],Pv (i+1),λσ' H' p'=>#[xs.length - (i+1),by cbv,U,jI,p'],λx H' y=>?_];let(e,y):=y;subst e;exact hs i x σ _ (y xs q) p
 .have e:i=xs.length:=by cbv
  subst e;exact .inl #[#[xs,q,VB _],hd σ H p]
abbrev R2:=V->V->Hp->VK->Prop
def ja(X:Cx)(f:AC->AC->Sem AC)(r:R2):Prop :=
 ∀ (TD:Yc) (s:Cl) (σ:St) (H:Hp) (x y:V) (v u:AC) (Q:VK),Inv X TD σ H s->RelV x v->RelV y u->r x y H Q ->
  Da (model X.prog X.w) X.A (f v u) (EP X TD σ Q) X.xe s
def RN(X:Cx)(f:AC->Sem AC)(r:V->Hp->VK->Prop):Prop :=
 ∀ (TD:Yc) (s:Cl) (σ:St) (H:Hp) (x:V) (v:AC) (Q:VK),Inv X TD σ H s->RelV x v->r x H Q ->
  Da (model X.prog X.w) X.A (f v) (EP X TD σ Q) X.xe s
def cT(X:Cx)(f:AC)(r:!V->Hp->VK->Prop):Prop :=
 ∀ (TD:Yc) (s:Cl) (σ:St) (H:Hp) (xs:!V) (us:!AC) (Q:VK),Inv X TD σ H s->Vals xs us->r xs H Q ->
  Da (model X.prog X.w) X.A (call f us) (EP X TD σ Q) X.xe s
def R3(X:Cx)(r:V->Hp->(Bool->Hp->Prop)->Prop):Prop :=
 ∀ (TD:Yc) (s:Cl) (σ:St) (H:Hp) (x:V) (v:AC) (Q:Bool->Hp->Prop),Inv X TD σ H s->RelV x v->r x H Q ->
  Da (model X.prog X.w) X.A (truthy v) (TP X TD σ Q) X.xe s
def jF(r:R2)(ta tb:TE):TE:=λσ H Q=>ta σ H λx H1=>tb σ H1 λy H2=>r x y H2 Q
def U5(r:V->Hp->VK->Prop)(ta:TE):TE:=λσ H Q=>ta σ H λx H1=>r x H1 Q
def rI(C:Int->Int->Prop)(g:Int->Int->V):R2:=λx y H Q=>∃ i j,x=.int i/\y=.int j/\C i j/\Q (g i j) H
def uz(g:Int->Int->V):R2:=λx y H Q=>∃ i j,x=.int i/\y=.int j/\Q (g i j) H
def rU(g:Int->V):V->Hp->VK->Prop:=λx H Q=>∃ i,x=.int i/\Q (g i) H
section
variable{X:Cx}{a b c:Ch}{ta tb tc:TE}{pos:Pos}
theorem KQ(ha:PE X a ta)(hb:PE X b tb){TD:Yc}{s:Cl}{σ:St}{H:Hp}{R:V->V->Hp->Prop}(I:Inv X TD σ H s)(h:ta σ H λx H1=>tb σ H1 λy H2=>R x y H2){Q:Yb}{f:AC->AC->Sem AC}(hf:∀ v u s2 x y H2,Inv X TD σ H2 s2->RelV x v->RelV y u->R x y H2->Da (model X.prog X.w) X.A (f v u) Q X.xe s2) :
  Da (model X.prog X.w) X.A (eval a X.env) (λv s₁=>Da (model X.prog X.w) X.A (eval b X.env) (λu s₂=>Da (model X.prog X.w) X.A (f v u) Q X.xe s₂) X.xe s₁) X.xe s:=by
 show b3 (ha TD s σ H _ I h) λv s1 zz=>el2 zz λx H1 I1 r1 q1=>?_;show b3 (hb TD s1 σ H1 _ I1 q1) λu s2 zz=>el2 zz λy H2 I2 r2 q2=>?_;exact hf v u s2 x y H2 I2 r1 r2 q2
theorem cS{op:Operator}{r:R2}(ho:ja X (Os op) r)(ha:PE X a ta)(hb:PE X b tb):PE X (.BinOp a op b pos) (jF r ta tb):=by
 intro TD s σ H Q I h;exact wpAny_BinOp (KQ ha hb I h λv u s2 x y H2 I2 rx ry q=>ho TD s2 σ H2 x y v u Q I2 rx ry q)
theorem MN{op:UnaryOp}{r:V->Hp->VK->Prop}(ho:RN X (unaryOp op) r)(ha:PE X a ta):PE X (.UnaryOp op a pos) (U5 r ta):=by
 intro TD s σ H Q I h;exact UnaryOp_ (b3 (ha TD s σ H _ I h) λv s1 zz=>el2 zz λx H1 I1 r1 q1=>ho TD s1 σ H1 x v Q I1 r1 q1)
theorem Qc{f:AC->AC->Sem AC}{C:Int->Int->Prop}{g:Int->Int->Int}(rule:∀ (i j:Int) (t u:Tok) (s:Cl) (Q:Yb) (E:Yb),C i j->Q (.int (g i j) s.toks) { s with toks:=s.toks+1 }->Da (model X.prog X.w) X.A (f (.int i t) (.int j u)) Q E s) :
  ja X f (rI C λi j=>.int (g i j)):=by
 intro TD s σ H x y v u Q I rx ry h;let(i,j,rfl,rfl,hc,q):=h;let(t,rfl):=rx;let(t',rfl):=ry;exact rule i j t t' s _ _ hc #[.int (g i j),H,I.tok _,#[_,U],q]
theorem MQ{f:AC->AC->Sem AC}{g:Int->Int->Int}(rule:∀ (i j:Int) (t u:Tok) (s:Cl) (Q:Yb) (E:Yb),Q (.int (g i j) s.toks) { s with toks:=s.toks+1 }->Da (model X.prog X.w) X.A (f (.int i t) (.int j u)) Q E s) :
  ja X f (uz λi j=>.int (g i j)):=by
 intro TD s σ H x y v u Q I rx ry h;let(i,j,rfl,rfl,q):=h;let(t,rfl):=rx;let(t',rfl):=ry;exact rule i j t t' s _ _ #[.int (g i j),H,I.tok _,#[_,U],q]
theorem Ge{f:AC->AC->Sem AC}{g:Int->Int->Bool}(rule:∀ (i j:Int) (t u:Tok) (s:Cl) (Q:Yb) (E:Yb),Q (.bool (g i j)) s->Da (model X.prog X.w) X.A (f (.int i t) (.int j u)) Q E s) :
  ja X f (uz λi j=>.bl (g i j)):=by
 intro TD s σ H x y v u Q I rx ry h;let(i,j,rfl,rfl,q):=h;let(t,rfl):=rx;let(t',rfl):=ry;exact rule i j t t' s _ _ #[.bl (g i j),H,I,U,q]
def M8(i j:Int):Prop:=0<=j/\j<=1000000/\i.natAbs < 2 ^ 64
def vk(i j:Int):Prop:=(-(2 ^ 64) < i/\i < 2 ^ 64)\/(-(2 ^ 64) < j/\j < 2 ^ 64)
theorem vk.ok{i j:Int}(h:vk i j):IntMulOk i j:=by
 rcases h with ⟨h1,h2⟩ | ⟨h1,h2⟩
 .exact .of_left (intBits_le_64 h1 h2)
 .exact .of_right (intBits_le_64 h1 h2)
theorem b7:ja X (Os .Add) (uz λi j=>.int (i+j)):=MQ λ_ _ _ _ _ _ _ q=>add_int q
theorem iP:ja X (Os .Sub) (uz λi j=>.int (i - j)):=MQ λ_ _ _ _ _ _ _ q=>sub_int q
theorem kO:ja X (Os .Mult) (rI vk λi j=>.int (i * j)):=Qc λ_ _ _ _ _ _ _ hc q=>mul_int q hc.ok
theorem gW:ja X (Os .Mod) (rI (λ_ j=>0 < j) λi j=>.int (i % j)):=Qc λi j _ _ _ _ _ hc q=>by
 have h1:(0:Int) < j:=hc;exact mod_int' (by cbv) (by rw[Int.fmod_eq_emod_of_nonneg i (by cbv)];exact q)
theorem JB:ja X (Os .Pow) (rI M8 λi j=>.int (i ^ j.toNat)):=Qc λ_ _ _ _ _ _ _ hc q=>pow_int_small hc.1 hc.2.1 hc.2.2 q
theorem Uk{f:AC->Sem AC}{g:Int->Int}(rule:∀ (i:Int) (t:Tok) (s:Cl) (Q:Yb) (E:Yb),Q (.int (g i) s.toks) { s with toks:=s.toks+1 }->Da (model X.prog X.w) X.A (f (.int i t)) Q E s) :
  RN X f (rU λi=>.int (g i)):=by
 intro TD s σ H x v Q I rx h;let(i,rfl,q):=h;let(t,rfl):=rx;exact rule i t s _ _ #[.int (g i),H,I.tok _,#[_,U],q]
theorem JX:RN X (unaryOp .USub) (rU λi=>.int (-i)):=Uk λ_ _ _ _ _ q=>neg_int q
end
def DQ:V->V->Bool
 | .cA,.cA=>true | .cA,.int _=>true | .int _,.cA=>true | .cA,.bl _=>true | .bl _,.cA=>true | .cA,.str _=>true | .str _,.cA=>true
 | .int _,.int _=>true | .bl _,.bl _=>true | .str _,.str _=>true | .AA _,.AA _=>true
 | .int _,.str _=>true | .str _,.int _=>true | .bl _,.str _=>true | .str _,.bl _=>true
 | _,_=>false
def QV:R2:=λx y H Q=>DQ x y=true/\Q (.bl (decide (x=y))) H
def Ui:R2:=λx y H Q=>DQ x y=true/\Q (.bl (not (decide (x=y)))) H
theorem yE{i j:Int}:decide (V.int i=V.int j)=(i == j):=by
 rw[Xm];simp
theorem B7{i j:Bool}:decide (V.bl i=V.bl j)=(i == j):=by
 rw[Xm];simp
theorem yt{i j:Str}:decide (V.str i=V.str j)=(i == j):=by
 rw[Xm];simp
theorem z6{i j:Array UInt8}:decide (V.AA i=V.AA j)=(i.toList == j.toList):=by
 rw[Xm];cases i;cases j;simp
section
variable{X:Cx}{a b c:Ch}{ta tb tc:TE}{pos:Pos}
theorem bh{TD:Yc}{σ:St}{H:Hp}{s:Cl}{Q:VK}{k k':Bool}(I:Inv X TD σ H s)(q:Q (.bl k) H)(e:k=k'):EP X TD σ Q (.bool k') s:=by
 subst e;exact#[.bl k,H,I,U,q]
theorem aL:ja X (KB .Eq) QV:=by
 intro TD s σ H x y v u Q I rx ry h;let(hs,q):=h;cases x with
 | cA =>
  cases rx;cases y with
  | cA=>cases ry;exact PySem.EqNone.eq_none_none (bh I q (by simp))
  | bl j=>cases ry;exact PySem.EqNone.eq_none_bool (bh I q (by simp))
  | int j=>let(t',rfl):=ry;exact PySem.EqNone.eq_none_int (bh I q (by simp))
  | str j=>let(t',rfl):=ry;exact PySem.EqNone.eq_none_str (bh I q (by simp))
  | _=>exact absurd (show false=true from hs) VN
 | bl i =>
  cases rx;cases y with
  | cA=>cases ry;exact PySem.EqNone.eq_bool_none (bh I q (by simp))
  | bl j=>cases ry;exact eq_bool (bh I q B7)
  | str j=>let(t',rfl):=ry;exact PySem.EqMixed.eq_bool_str (bh I q (by simp))
  | _=>exact absurd (show false=true from hs) VN
 | int i =>
  let(t,rfl):=rx;cases y with
  | cA=>cases ry;exact PySem.EqNone.eq_int_none (bh I q (by simp))
  | int j=>let(t',rfl):=ry;exact eq_int (bh I q yE)
  | str j=>let(t',rfl):=ry;exact PySem.EqMixed.eq_int_str (bh I q (by simp))
  | _=>exact absurd (show false=true from hs) VN
 | str i =>
  let(t,rfl):=rx;cases y with
  | cA=>cases ry;exact PySem.EqNone.eq_str_none (bh I q (by simp))
  | bl j=>cases ry;exact PySem.EqMixed.eq_str_bool (bh I q (by simp))
  | int j=>let(t',rfl):=ry;exact PySem.EqMixed.eq_str_int (bh I q (by simp))
  | str j=>let(t',rfl):=ry;exact eq_str (bh I q yt)
  | _=>exact absurd (show false=true from hs) VN
 | AA i =>
  let(t,rfl):=rx;cases y with
  | AA j=>let(t',rfl):=ry;exact PySem.W.eq_bytes (bh I q z6)
  | _=>exact absurd (show false=true from hs) VN
 | _=>cases y<;>exact absurd (show false=true from hs) VN
theorem HV:ja X (KB .NotEq) Ui:=by
 intro TD s σ H x y v u Q I rx ry h;let(hs,q):=h;cases x with
 | cA =>
  cases rx;cases y with
  | cA=>cases ry;exact PySem.EqNone.ne_none_none (bh I q (by simp))
  | bl j=>cases ry;exact PySem.EqNone.ne_none_bool (bh I q (by simp))
  | int j=>let(t',rfl):=ry;exact PySem.EqNone.ne_none_int (bh I q (by simp))
  | str j=>let(t',rfl):=ry;exact PySem.EqNone.ne_none_str (bh I q (by simp))
  | _=>exact absurd (show false=true from hs) VN
 | bl i =>
  cases rx;cases y with
  | cA=>cases ry;exact PySem.EqNone.ne_bool_none (bh I q (by simp))
  | bl j=>cases ry;exact ne_bool (bh I q (congrArg not B7))
  | str j=>let(t',rfl):=ry;exact PySem.EqMixed.ne_bool_str (bh I q (by simp))
  | _=>exact absurd (show false=true from hs) VN
 | int i =>
  let(t,rfl):=rx;cases y with
  | cA=>cases ry;exact PySem.EqNone.ne_int_none (bh I q (by simp))
  | int j=>let(t',rfl):=ry;exact ne_int (bh I q (congrArg not yE))
  | str j=>let(t',rfl):=ry;exact PySem.EqMixed.ne_int_str (bh I q (by simp))
  | _=>exact absurd (show false=true from hs) VN
 | str i =>
  let(t,rfl):=rx;cases y with
  | cA=>cases ry;exact PySem.EqNone.ne_str_none (bh I q (by simp))
  | bl j=>cases ry;exact PySem.EqMixed.ne_str_bool (bh I q (by simp))
  | int j=>let(t',rfl):=ry;exact PySem.EqMixed.ne_str_int (bh I q (by simp))
  | str j=>let(t',rfl):=ry;exact ne_str (bh I q (congrArg not yt))
  | _=>exact absurd (show false=true from hs) VN
 | AA i =>
  let(t,rfl):=rx;cases y with
  | AA j=>let(t',rfl):=ry;exact PySem.W.ne_bytes (bh I q (congrArg not z6))
  | _=>exact absurd (show false=true from hs) VN
 | _=>cases y<;>exact absurd (show false=true from hs) VN
theorem Fi:ja X (KB .Lt) (uz λi j=>.bl (decide (i < j))):=Ge λ_ _ _ _ _ _ _ q=>lt_int q
theorem Oq:ja X (KB .LtE) (uz λi j=>.bl (decide (i<=j))):=Ge λ_ _ _ _ _ _ _ q=>le_int q
theorem ku:ja X (KB .Gt) (uz λi j=>.bl (decide (j < i))):=Ge λ_ _ _ _ _ _ _ q=>gt_int q
theorem HB:ja X (KB .GtE) (uz λi j=>.bl (decide (j<=i))):=Ge λ_ _ _ _ _ _ _ q=>ge_int q
theorem zA:ja X (KB .IsNot) (λx y H Q=>y=.cA/\Q (.bl (not (decide (x=.cA)))) H):=by
 intro TD s σ H x y v u Q I rx ry h;let(rfl,q):=h;cases ry;show isnot_none_gen (bh I q ?_);cases x<;>first
  | (cases rx;rfl)
  | (let(t,rfl):=rx;rfl)
theorem au(b:Ch){op:CmpOp}(h: ~~~(op≠.In))(h2: ~~~(op≠.NotIn)):behindInMarks op b=false:=by
 have e1:(op == CmpOp.In)=false:=by cases op<;>first | rfl | exact absurd U h
 have e2:(op == CmpOp.NotIn)=false:=by cases op<;>first | rfl | exact absurd U h2
 cases b<;>simp[behindInMarks,e1,e2]
theorem Gu{op:CmpOp}{r:R2}(ho:ja X (KB op) r)(ha:PE X a ta)(hb:PE X b tb)(hm:behindInMarks op b=false):PE X (.Compare a [op] [b] pos) (jF r ta tb):=by
 intro TD s σ H Q I h;exact wpAny_Compare1 (KQ ha hb I h λv u s2 x y H2 I2 rx ry q=>ho TD s2 σ H2 x y v u Q I2 rx ry q) hm
def pV(t:TE):TT:=λσ H Q=>t σ H λx H'=>∃ k,x=.bl k/\Q k H'
theorem iW{op:CmpOp}{r:R2}(ho:ja X (KB op) r)(ha:PE X a ta)(hb:PE X b tb)(hm:behindInMarks op b=false):PT X (.Compare a [op] [b] pos) (pV (jF r ta tb)):=by
 intro TD s σ H Q I h;show wpAny_isTrue_Compare1 (b3 (ha TD s σ H _ I h) λv s1 zz=>el2 zz λx H1 I1 r1 q1=>b3 (hb TD s1 σ H1 _ I1 q1) λu s2 zz=>el2 zz λy H2 I2 r2 q2 =>
  b3 (ho TD s2 σ H2 x y v u _ I2 r1 r2 q2) λc s3 #[z,H3,I3,r3,k,e,q3]=>?_) hm
 subst e;cases r3;exact wpAny_truthy_bool #[H3,I3,q3]
def CZ(r r':R2)(ta tb tc:TE):TE:=λσ H Q=>ta σ H λx H1=>tb σ H1 λy H2=>r x y H2 λz H3=>∃ k,z=.bl k /\
 (if k=true then tc σ H3 λw' H4=>r' y w' H4 Q else Q (.bl false) H3)
theorem EW{op KD:CmpOp}{r r':R2}(ho:ja X (KB op) r)(BN:ja X (KB KD) r')(ha:PE X a ta)(hb:PE X b tb)(hc:PE X c tc)(hm:lastMarks [op,KD] [b,c]=false:=by with_unfolding_all rfl):PT X (.Compare a [op,KD] [b,c] pos) (pV (CZ r r' ta tb tc)):=by
 intro TD s σ H Q I h;show isTrue_chain (b3 (ha TD s σ H _ I h) λv s1 zz=>el2 zz λx H1 I1 r1 q1=>test_link (b3 (hb TD s1 σ H1 _ I1 q1) λu s2 zz=>el2 zz λy H2 I2 r2 q2 =>
  b3 (ho TD s2 σ H2 x y v u _ I2 r1 r2 q2) λd s3 #[z,H3,I3,r3,k,e,q3]=>?_)) hm
 subst e;cases r3;show wpAny_truthy_bool ?_;cases k with
 | false =>
  let(k',e',q'):=q3;cases e';exact ite_ff #[H3,I3,q']
 | true =>
  show ite_tt (test_last (b3 (hc TD s3 σ H3 _ I3 q3) λw' s4 zz=>el2 zz λz' H4 I4 r4 q4=>b3 (BN TD s4 σ H4 y z' u w' _ I4 r2 r4 q4) λd' s5 #[z2,H5,I5,r5,k2,e2,q5]=>?_));subst e2;cases r5;exact wpAny_truthy_bool #[H5,I5,q5]
def Ki(K:Frag)(x:V)(H:Hp)(k:Bool):Prop :=
 match x with
 | .cA=>k=false
 | .bl b=>k=b
 | .int i=>k=(i != 0)
 | .str y=>y.length<=Ev/\k=((y.length:Int) != 0)
 | .AA y=>y.size<=Ev/\k=((y.size:Int) != 0)
 | .ref p=>(∃ xs,eM K H p xs/\k=(not xs.isEmpty))\/(∃ xs,ir K H p xs/\k=(not xs.isEmpty))\/∃ kvs,H p=some (.dK kvs)/\k=(not kvs.isEmpty)
 | _=>False
theorem xy{κ:Type}{kvs:!(κ×V)}{vs:!(κ×AC)}(r:KV kvs vs):(not vs.isEmpty)=(not kvs.isEmpty):=by
 cases r<;>rfl
theorem pZ{xs:!V}{its:!AC}(r:Vals xs its):(not its.toArray.isEmpty)=(not xs.isEmpty):=by
 cases r<;>simp
theorem kX:(Ev:Nat) < 2 ^ 63:=by rw[sizeLine_eq];decide
theorem Dx:R3 X (λx H Q=>∃ k,Ki X.K x H k/\Q k H):=by
 intro TD s σ H x v Q I rx h;let(k,e,q):=h;have hl:=kX;have hs:Ev=16777216:=sizeLine_eq;cases x with
 | cA =>
  cases rx;have e':k=false:=e;subst e';exact truthy_none #[H,I,q]
 | bl b =>
  cases rx;have e':k=b:=e;subst e';exact wpAny_truthy_bool #[H,I,q]
 | int i =>
  let(t,rfl):=rx;have e':k=(i != 0):=e;subst e';exact PySem.P.truthy_int #[H,I,q]
 | str y =>
  let(t,rfl):=rx;obtain⟨hy,e'⟩:y.length<=Ev/\k=((y.length:Int) != 0):=e;subst e';exact PySem.P.truthy_str (by cbv) #[H,I.tok _,q]
 | AA y =>
  let(t,rfl):=rx;obtain⟨hy,e'⟩:y.size<=Ev/\k=((y.size:Int) != 0):=e;subst e';exact PySem.W.truthy_bytes (by cbv) #[H,I.tok _,q]
 | ref p =>
  cases rx;have e':(∃ xs,eM X.K H p xs/\k=(not xs.isEmpty))\/(∃ xs,ir X.K H p xs/\k=(not xs.isEmpty))\/∃ kvs,H p=some (.dK kvs)/\k=(not kvs.isEmpty):=e;rcases e' with ⟨xs,hx,e'⟩ | ⟨xs,hx,e'⟩ | ⟨kvs,hx,e'⟩
  .subst e';let(its,r,pl,hz):=I.list hx;have hlen:=r.length;exact wpAny_truthy_list pl.isList (by simp only[List.size_toArray];cbv) #[H,I.tok _,by rw[pZ r];exact q]
  .subst e';let(its,r,pl,hz):=I.tuple hx;have hlen:=r.length;exact truthy_tuple pl (by simp only[List.size_toArray];cbv) #[H,I.tok _,by rw[pZ r];exact q]
  .subst e';obtain⟨hz,hS,vs,r,m⟩:kvs.length<=Ev/\(p == P3)=false/\∃ vs,KV kvs vs/\s.heap.DictOf (b9 X.prog X.w) p vs:=I.aZ p _ hx;have hlen:kvs.length=vs.length:=Paired.length r;exact wpAny_truthy_dict hS m (by cbv) #[H,I.tok _,by rw[xy r];exact q]
 | _=>exact (show False from e).elim
theorem DX(ha:PE X a ta)(he:∀ whole,isTrue a X.env whole=(do let v <- whole;standAt a.pos;holding [v] (truthy v))) :
  PT X a (λσ H Q=>ta σ H λx H'=>∃ k,Ki X.K x H' k/\Q k H'):=by
 intro TD s σ H Q I h;exact isTrue_plain (b3 (ha TD s σ H _ I h) λv s1 zz=>el2 zz λx H1 I1 r1 q1=>Dx TD s1 σ H1 x v Q I1 r1 q1) (he _)
theorem aI:ja X (Os .Add) (λx y H Q=>∃ i j,x=.str i/\y=.str j/\i.length+j.length<=Ev/\Q (.str (i++j)) H):=by
 intro TD s σ H x y v u Q I rx ry h;let(i,j,rfl,rfl,hz,q):=h;let(t,rfl):=rx;let(t',rfl):=ry;exact add_str (λt' tk=>#[.str (i++j),H,I.tok _,#[_,U],q]) hz
theorem vals1{x:V}{us:!AC}(r:Vals [x] us):∃ u,us=[u]/\RelV x u:=by
 cases r with
 | cons r1 r2=>cases r2;exact#[_,U,r1]
theorem vals2{x y:V}{us:!AC}(r:Vals [x,y] us):∃ u w',us=[u,w']/\RelV x u/\RelV y w':=by
 cases r with
 | cons r1 r2 =>
  cases r2 with
  | cons r3 r4=>cases r4;exact#[_,_,U,r1,r3]
theorem mK(hc:X.calm=true):cT X (.builtin "max") (λxs H Q=>∃ i j,xs=[.int i,.int j]/\Q (.int (if j > i then j else i)) H):=by
 intro TD s σ H xs us Q I r h;let(i,j,rfl,q):=h;let(u,w',rfl,(t,rfl),(t',rfl)):=vals2 r;show max_two_ints (I.ok.hd hc) λh' tk k=>#[_,H,I.kept k,?_,q];by_cases hj:j > i
 .rw[if_pos hj,if_pos hj];exact#[_,U]
 .rw[if_neg hj,if_neg hj];exact#[_,U]
theorem AU(hc:X.calm=true):cT X (.builtin "min") (λxs H Q=>∃ i j,xs=[.int i,.int j]/\Q (.int (if j < i then j else i)) H):=by
 intro TD s σ H xs us Q I r h;let(i,j,rfl,q):=h;let(u,w',rfl,(t,rfl),(t',rfl)):=vals2 r;show min_two_ints (I.ok.hd hc) λh' tk k=>#[_,H,I.kept k,?_,q];by_cases hj:j < i
 .rw[if_pos hj,if_pos hj];exact#[_,U]
 .rw[if_neg hj,if_neg hj];exact#[_,U]
theorem jY:cT X (.type "int") (λxs H Q=>(∃ i,xs=[.int i]/\Q (.int i) H)\/∃ k,xs=[.bl k]/\Q (.int (if k then 1 else 0)) H):=by
 intro TD s σ H xs us Q I r h;rcases h with ⟨i,rfl,q⟩ | ⟨k,rfl,q⟩
 .let(u,rfl,t,rfl):=vals1 r;exact call_int_int #[.int i,H,I,#[_,U],q]
 .let(u,rfl,r1):=vals1 r;cases r1;exact call_int_bool #[.int (if k then 1 else 0),H,I.tok _,#[_,U],q]
theorem u2:cT X (.type "str") (λxs H Q=>∃ i,xs=[.int i]/\i.natAbs.log2 < 1920/\Q (.str (toString i)) H):=by
 intro TD s σ H xs us Q I r h;let(i,rfl,hz,q):=h;let(u,rfl,t,rfl):=vals1 r;exact PySem.P.str_of_int hz #[.str _,H,I.tok _,#[_,U],q]
end
section
variable{prog:Fk}{w:FB}{A:Fr}{E:Yb}{s:Cl}{K:Frag}{x dx C f:AT}{mA:Str->Option AC}{name:Str}{v:AC}
end
theorem oA.some_of{v:V}{o:Option AC}(r:oA (some v) o):∃ u,o=some u/\RelV v u:=by
 cases o with
 | none=>exact (show False from r).elim
 | some u=>exact#[u,U,r]
section
variable{P:Fk}{w:FB}{H H':Hp}{h h':Db}{a C dx:AT}{fs UZ:!(Str×V)}
end
section
variable{X:Cx}{TD:Yc}{σ:St}{H:Hp}{s:Cl}{a C dx:AT}{fs:!(Str×V)}{f:Str}{v:V}{A:Fr}{E:Yb}
end
section
variable{X:Cx}{o e value:Ch}{f:Str}{pos pos' mV:Pos}{ta tv:TE}
end
section
variable{X:Cx}{TD:Yc}{σ:St}{H:Hp}{s:Cl}{A:Fr}{E:Yb}{Q:Yb}{c:AC}{b:Bool}
end
structure dE(k:Nat)(A:Fr):Prop where
 hd:A.handled=none
 dp:A.depth+3 * k+5 < recursionLimit
 un:A.units+16 * k+200 < cLine
theorem dE.mono{j k:Nat}{A:Fr}(r:dE k A)(h:j<=k):dE j A:=#[r.hd,by have:=r.dp;cbv,by have:=r.un;cbv]
theorem dE.deeper{k:Nat}{A:Fr}(r:dE (k+1) A)(env:Env):dE k (A.deeper env) :=
 #[r.hd,by have:=r.dp;change A.depth+1+3 * k+5 < _;cbv,by have:=r.un;change A.units+3+16 * k+200 < _;cbv]
theorem dE.depth{k:Nat}{A:Fr}(r:dE k A):A.depth < recursionLimit:=by have:=r.dp;cbv
theorem dE.units{k:Nat}{A:Fr}(r:dE k A):A.units+64 < cLine:=by have:=r.un;cbv
def xB:TA:=λ_ H Q=>Q [] H
def nX(ta:TE)(tr:TA):TA:=λσ H Q=>ta σ H λx H1=>tr σ H1 λxs H2=>Q (x::xs) H2
section
variable{X:Cx}{e:Ch}{es:!Ch}{te:TE}{t:TA}{pos:Pos}
theorem d6:PA X [] xB:=λ_ _ _ _ H Q I h=>Calls.spliced_nil #[[],H,I,.nil,h]
theorem cq(ha:PE X e te)(hr:PA X es t)(hs:(Ye X.env e es)⁻¹):PA X (e::es) (nX te t):=by
 intro pos TD s σ H Q I h;rw[hs];change Da _ _ (spliced ((false,eval e X.env)::Go pos (GE es X.env))) _ _ s;show Calls.spliced_cons (b3 (ha TD s σ H _ I h) λu s1 zz=>el2 zz λx H1 I1 r1 q1=>?_);exact b3 (hr pos TD s1 σ H1 _ I1 q1) λus s2 zz=>el2 zz λxs H2 I2 r2 q2=>#[x::xs,H2,I2,.cons r1 r2,q2]
def RZ(t:TA):TE:=λσ H Q=>t σ H λxs H1=>xs.length<=Ev/\∀ p,H1 p=none->Q (.ref p) (upd H1 p (.tup xs))
def R4(t:TA):TE:=λσ H Q=>t σ H λxs H1=>xs.length<=Ev/\∀ p,H1 p=none->Q (.ref p) (upd H1 p (.lst xs))
theorem Ll{x1}(h:PA X es t):PE X (.Tuple es x1 pos) (RZ t):=by
 intro TD s σ H Q I hq;show wpAny_Tuple_spliced (b3 (h pos TD s σ H _ I hq) λus s1 #[xs,H1,I1,r,z,q]=>#[by rw[<- r.length];exact z,?_]);have hf:H1 ↑s1=none:=I1.aZ.fresh (VB _);show#[.ref ↑s1,upd H1 ↑s1 (.tup xs),I1.laid (t':=s1.toks) (λb u e=>Vz _ e) (VB _) ?_,U,q _ hf];exact#[z,us,r,#[_,VP _ U,U,_,U]]
theorem Kn(h:PA X es t):PE X (.List es pos) (R4 t):=by
 intro TD s σ H Q I hq;show wpAny_List_spliced (b3 (h pos TD s σ H _ I hq) λus s1 #[xs,H1,I1,r,z,q]=>#[by rw[<- r.length];exact z,?_]);have hf:H1 ↑s1=none:=I1.aZ.fresh (VB _);show#[.ref ↑s1,upd H1 ↑s1 (.lst xs),I1.laid (t':=s1.toks) (λb u e=>Vz _ e) (VB _) ?_,U,q _ hf];exact#[z,us,0,r,VP _ U]
end
abbrev Sp:=!V->Hp->VK->XK->Prop
abbrev Ak:=!Env->Hp->Cl->XK->Yb
structure Gm(P:Fk)(w:FB)(K:Frag)(mg:Str->Option AC)(base:Db)(A:Fr)(outer:!Env)(s:Cl)(H:Hp):Prop where
 frames:A.frames=some outer
 mod:Mod K mg base
 bs:∀ b o,base.get? b=some o->s.heap.get? b=some o/\H b=none
 Ij:base.objs.size<=↑s
 pC:s.heap.FunFrames base outer
 L9:∀ b∈EB outer,H b=none
 aZ:mj P w H s.heap
 bare:AllBare s.gens
def CE(outer:!Env)(P:Fk)(w:FB)(H:Hp)(s:Cl)(Q:VK)(u:AC)(s':Cl):Prop :=
 ∃ v H',s'.os=s.os/\AllBare s'.gens/\Un (EB outer) [] H H' s.heap s'.heap/\mj P w H' s'.heap/\RelV v u/\Q v H'
def CR(CX:Ak)(outer:!Env)(P:Fk)(w:FB)(H:Hp)(s:Cl)(Q:VK)(E:XK)(r:Result)(s':Cl):Prop :=
 match r with
 | .ok (.ret u)=>CE outer P w H s Q u s'
 | .ok _=>False
 | .error e=>CX outer H s E e s'
structure eV(P:Fk)(w:FB)(K:Frag)(mg:Str->Option AC)(base:Db)(CX:Ak)(k:Nat)(f:AT)(fd:Ix)(ps:!Str)(sp:Sp):Prop where
 len:∀ vs H Q E,sp vs H Q E->vs.length=ps.length
 run:∀ (A:Fr) (outer:!Env) (s:Cl) (H:Hp) (args:Args) (us:!AC) (vs:!V) (Q:VK) (E:XK),dE k A->Gm P w K mg base A outer s H->BindsTo s fd args (ps.zip us)->Vals vs us->sp vs H Q E ->
  codeAny (model P w) A (.call (.ref f) args) (CR CX outer P w H s Q E) s
theorem eV.imp{P:Fk}{w:FB}{K:Frag}{mg:Str->Option AC}{base:Db}{CX:Ak}{k:Nat}{f:AT}{fd:Ix}{ps:!Str}{sp PN:Sp}(F:eV P w K mg base CX k f fd ps sp)(h:∀ vs H Q E,PN vs H Q E->sp vs H Q E):eV P w K mg base CX k f fd ps PN :=
 #[λvs H Q E q=>F.len vs H Q E (h _ _ _ _ q),λA outer s H args us vs Q E hr he hb hv hs=>F.run A outer s H args us vs Q E hr he hb hv (h _ _ _ _ hs)]
section
variable{X:Cx}{TD:Yc}{σ:St}{H:Hp}{s s':Cl}
theorem Inv.RE(I:Inv X TD σ H s):Gm X.prog X.w X.K X.mg X.base X.A X.stack s H :=
 #[I.ok.frames,I.ok.mod,I.bs,VF I.ok.Ij I.sz,I.stack,I.zi,I.aZ,I.bare]
theorem Inv.after{Q:VK}{u:AC}(I:Inv X TD σ H s)(h:CE X.stack X.prog X.w H s Q u s'):EP X TD σ Q u s':=by
 let(v,H',os,bare,un,aZ,r,q):=h;let(hh,g,d,t,os'):=s';obtain rfl:os'=s.os:=os;exact#[v,H',I.call (h':=hh) (g':=g) (d':=d) (t':=t) (ch:=[]) un aZ bare (λb z=>absurd z (by simp)),r,q]
end
def yF(sp:Sp)(HJ:!V)(E:XK)(t:TA):TE:=λσ H Q=>t σ H λvs H1=>sp (vs++HJ) H1 Q E
def Binds(K:Frag)(fd:Ix)(ps:!Str)(ds:!AC):Prop :=
 ∀ (s:Cl) (us:!AC),K.In s.heap->(us++ds).length=ps.length->BindsTo s fd #[us,[]] (ps.zip (us++ds))
theorem Binds.all{K:Frag}{fd:Ix}{ps:!Str}(h:∀ us:!AC,us.length=ps.length->bindArgs fd #[us,[]]=pure (ps.zip us)):Binds K fd ps []:=λs us _ hl=>by
 rw[VJ] at hl ⊢;exact .of_eq (h us hl)
def Passes(CX:Ak)(X:Cx)(E:XK):Prop:=∀ (TD:Yc) (σ:St) (H:Hp) (s:Cl) (e:AC) (s':Cl),Inv X TD σ H s->CX X.stack H s E e s'->X.xe e s'
section
variable{X:Cx}{CX:Ak}{k:Nat}{f C:AT}{fd:Ix}{ps:!Str}{sp:Sp}{HJ:!V}{ds:!AC}{E:XK}{x m:Str}{p pos apos:Pos}{e o:Ch}{es:!Ch}{ta:TE}{t:TA}
theorem KC{TD:Yc}{σ:St}{H:Hp}{s:Cl}{Q:VK}{us:!AC}{vs:!V}(F:eV X.prog X.w X.K X.mg X.base CX k f fd ps sp)(hr:dE k X.A)(hb:Binds X.K fd ps ds)(hd:Vals HJ ds)(hx:Passes CX X E)(I:Inv X TD σ H s)(r:Vals vs us)(h:sp (vs++HJ) H Q E):Da (model X.prog X.w) X.A (call (.ref f) us) (EP X TD σ Q) X.xe s:=by
 have r2:Vals (vs++HJ) (us++ds):=r.append hd;have hl:(us++ds).length=ps.length:=by rw[<- r2.length];exact F.len _ _ _ _ h
 show wpAny_call (codeAny_mono (F.run X.A X.stack s H #[us,[]] (us++ds) (vs++HJ) Q E hr I.RE (hb s us I.LS hl) r2 h) λr s' hq=>?_);cases r with
 | error e=>exact hx TD σ H s e s' I hq
 | ok fl =>
  cases fl with
  | ret u=>exact I.after hq
  | next=>exact False.elim hq
  | brk=>exact False.elim hq
  | cont=>exact False.elim hq
theorem jV(F:eV X.prog X.w X.K X.mg X.base CX k f fd ps sp)(hr:dE k X.A)(hg:Gl X x)(hm:X.mg x=some (.ref f))(hk:keepIn X.K (.ref f)=true)(hb:Binds X.K fd ps ds)(hd:Vals HJ ds)(hx:Passes CX X E)(ha:PA X (e::es) t)(kg: ~~~(Yg x))(he:(Ye X.env e es)⁻¹)(g6:(Yf X.env pos es)⁻¹) :
  PE X (.Call (.Name x p) (e::es) [] pos) (yF sp HJ E t):=by
 intro TD s σ H Q I h;show wpAny_Call_Name_kw (yK I hg hm ?_ kg);show PySem.W.callWith_K (h₀:=X.base) I.ok.mod.QU hk (b3 (ha pos TD s σ H _ I h) λus s1 zz=>el2 zz λvs H1 I1 r q=>#[I1.LS,?_]) he g6;exact KC F hr hb hd hx I1 r q
end
section
variable{X:Cx}{CX:Ak}{k:Nat}{f C:AT}{fd:Ix}{ps ks:!Str}{sp:Sp}{E:XK}{x m:Str}{p pos apos Ve:Pos}{e o:Ch}{es:!Ch}{Vu:!NE}{te ta:TE}{t tk:TA}{nm:Option Str}
variable{g:!AC->!AC->!AC}{gV:!V->!V->!V}
end
structure av(N P:!Str)(sc:Scope):Prop where
 kind:sc.kind=.function
 co:sc.isCoroutine=false
 gen:sc.isGenerator=false
 nd:N.Nodup
 pre:N.take P.length=P
 par:∀ x∈P,sc.names.lookup x=some .local\/sc.names.lookup x=some .cell
 JN:∀ y∈sc.names,y.2≠.free
theorem ub{kindOf:Str->Option Gc}{x:Str}:∀ {binds:!(Str×AC)} {m:Str->Option AC},(∀ v,(x,v)∉binds)->bindL kindOf binds m x=m x
 | [],_,_=>rfl
 | (n,v)::r,m,h=>by
  unfold bindL;rw[ub λw hw=>h w (Vy _ hw)];split
  .have:x≠n:=by rintro rfl;exact h v Vx
   simp[this]
  .rfl
theorem sP{kindOf:Str->Option Gc}{x:Str}:∀ {binds:!(Str×AC)} {m:Str->Option AC},(∀ v,(x,v)∉binds)->bindC kindOf binds m x=m x
 | [],_,_=>rfl
 | (n,v)::r,m,h=>by
  unfold bindC;rw[sP λw hw=>h w (Vy _ hw)];split
  .rfl
  .have:x≠n:=by rintro rfl;exact h v Vx
   simp[this]
theorem sT{kindOf:Str->Option Gc}{x:Str}{v:AC}:∀ {P:!Str} {vs:!AC} {i:Nat} {m:Str->Option AC},P.Nodup->P[i]?=some x->vs[i]?=some v->kindOf x=some .local ->
  bindL kindOf (P.zip vs) m x=some v
 | [],_,_,_,_,h,_,_=>by simp at h
 | _::_,[],_,_,_,_,h,_=>by simp at h
 | p::P,w::vs,0,m,nd,h1,h2,hk=>by
  simp at h1 h2;subst h1;subst h2;change bindL kindOf ((p,w)::P.zip vs) m p=_;unfold bindL;rw[ub λv hv=>(WO.mp nd).1 (Ww hv).1,if_pos hk];simp
 | p::P,w::vs,i+1,m,nd,h1,h2,hk=>by
  change bindL kindOf ((p,w)::P.zip vs) m x=_;unfold bindL;exact sT (i:=i) (List.nodup_cons.mp nd).2 (by simpa using h1) (by simpa using h2) hk
theorem sv{kindOf:Str->Option Gc}{x:Str}{v:AC}:∀ {P:!Str} {vs:!AC} {i:Nat} {m:Str->Option AC},P.Nodup->P[i]?=some x->vs[i]?=some v->kindOf x≠some .local ->
  bindC kindOf (P.zip vs) m x=some v
 | [],_,_,_,_,h,_,_=>by simp at h
 | _::_,[],_,_,_,_,h,_=>by simp at h
 | p::P,w::vs,0,m,nd,h1,h2,hk=>by
  simp at h1 h2;subst h1;subst h2;change bindC kindOf ((p,w)::P.zip vs) m p=_;unfold bindC;rw[sP λv hv=>(WO.mp nd).1 (Ww hv).1,if_neg hk];simp
 | p::P,w::vs,i+1,m,nd,h1,h2,hk=>by
  change bindC kindOf ((p,w)::P.zip vs) m x=_;unfold bindC;exact sv (i:=i) (List.nodup_cons.mp nd).2 (by simpa using h1) (by simpa using h2) hk
def start(N:!Str)(vs:!V):St:=vs.map some++List.replicate (N.length - vs.length) none
def n9(CX:Ak)(P:Fk)(w:FB)(K:Frag)(mg:Str->Option AC)(base:Db)(N:!Str)(qual:Str)(scope:Scope)(f:AT)(cd:AC)(A:Fr)(outer:!Env)(s:Cl)(H:Hp)(E:XK):Cx where
 prog:=P
 w:=w
 K:=K
 mg:=mg
 base:=base
 A:=A.deeper (envOfC qual scope ↑s f cd)
 N:=N
 s₀:=s
 H₀:=H
 env:=envOfC qual scope ↑s f cd
 outer:=outer
 stack:=envOfC qual scope ↑s f cd::outer
 ex:=[]
 calm:=true
 fn:=λ_=>true
 pn:=[]
 xe:=λe s'=>Da (model P w) (A.deeper (envOfC qual scope ↑s f cd)) (leaving (envOfC qual scope ↑s f cd) e) (λ_ DY=>CX outer H s E e DY) (λe' DY=>CX outer H s E e' DY) s'
theorem vN{sc:Scope}{n:Nat}{x:Str}(h:sc.names.lookup x=some .cell):∃ c,(cellsFrom n sc.names []).lookup x=some c:=by
 have q:=PySem.W.cellsFrom_some sc.names n [] (.inl h);exact WZ.mp q
theorem Bv{CX:Ak}{P:Fk}{w:FB}{K:Frag}{mg:Str->Option AC}{base:Db}{N ps:!Str}{qual:Str}{scope:Scope}{f:AT}{cd:AC}{A:Fr}{outer:!Env}{s s1:Cl}{H:Hp}{E:XK}{us:!AC}{vs:!V}(S:av N ps scope)(hd:A.handled=none)(e0:Gm P w K mg base A outer s H)(hl:vs.length=ps.length)(r:Vals vs us)(x:InCallC s ↑s (bindL (envOfC qual scope ↑s f cd).kindOf (ps.zip us) λ_=>none) (cellsFrom (↑s+1) scope.names []) (bindC (envOfC qual scope ↑s f cd).kindOf (ps.zip us) λ_=>none) s1) :
  Inv (n9 CX P w K mg base N qual scope f cd A outer s H E) [] (start N vs) H s1:=by
 have g6:ps.length<=N.length:=by have:=congrArg List.length S.pre;rw[Wy] at this;cbv
 let(h1,tk,rfl,hk):=x.done;have noA:∀ b:AT,b∉(n9 CX P w K mg base N qual scope f cd A outer s H E).ex:=λb z=>absurd (show b∈([]:!AT) from z) (by simp);show#[#[e0.mod,S.kind,U,U,VB _,λy z c h1 h2=>?_,λy hy=>?_,λy c _ h=>?_,λ_=>hd,Fr.frames_deeper e0.frames,.inr #[U,U],λb z=>absurd z (noA b),e0.bs,e0.Ij,λb _ _=>noA b,λb z=>absurd z (noA b),e0.pC,e0.L9],
  rfl,e0.bare,Un.kept hk,#[_,x.toInCall.ns,λi y v h1 h2 h3=>?_],λy c h=>#[_,x.cell y c h],e0.aZ.fresh (Nat.le_refl _),λy c h=>?_,λp hp=>absurd (show p∈([]:Yc) from hp) (by simp),e0.aZ.kept hk,?_]
 .exact name_of_addr x.apart (WD h1) (WD h2)
 .have hy:scope.names.lookup y=some .cell\/scope.names.lookup y=some .free:=hy;rcases hy with hy | hy
  .exact vN hy
  .exact absurd U (S.JN _ (WD hy))
 .exact Nat.le_of_lt (x.above y c (WD h))
 .have hi:i < vs.length:=by
   unfold start at h2;by_cases hi:i < vs.length
   .exact hi
   .rw[List.getElem?_append_right (by simpa using hi)] at h2;rw[List.getElem?_replicate] at h2;split at h2<;>cases h2
  have ha:vs[i]?=some v:=by
   unfold start at h2;rw[List.getElem?_append_left (by simpa using hi),List.getElem?_map] at h2;cases e:vs[i]? with
   | none=>rw[e] at h2;cases h2
   | some a=>rw[e] at h2;cases h2;rfl
  let(u,hu,rv):=r.get ha;have hp:ps[i]?=some y:=by
   rw[<- S.pre,List.getElem?_take_of_lt (by cbv)];exact h1
  have ndP:ps.Nodup:=by rw[<- S.pre];exact S.nd.sublist (Ws _ _)
  show#[u,rv,?_];rcases S.par y (V8 hp) with k | k
  .exact .inl #[k,sT ndP hp hu k]
  .let(c,e):=vN (n:=↑s+1) k;show .inr #[.inl k,c,e,?_];have q:=x.cell y c e;rw[sv ndP hp hu (by change scope.names.lookup y≠_;rw[k];decide)] at q;exact q
 .exact e0.aZ.fresh (Nat.le_of_lt (x.above y c (WD h)))
 .unfold start;change _=N.length;rw[Vw,Vv,List.length_replicate];cbv
theorem MH{CX:Ak}{P:Fk}{w:FB}{K:Frag}{mg:Str->Option AC}{base:Db}{k:Nat}{f:AT}{name qual:Str}{params:Arguments}{body:!Fa}{scope:Scope}{dV kV doc pm bT ct oc:AC}{an od:Option AT}{FF:Array (Option AC)}{N ps:!Str}{sp:Sp}(lk:K.lookup f=some #[oc,od,.func (fnOf name qual params body scope dV kV doc pm an bT ct),FF])(uY:codeIn K bT qual=true)(S:av N ps scope)(len:∀ vs H Q E,sp vs H Q E->vs.length=ps.length)(Fw:∀ (A:Fr) (outer:!Env) (s:Cl) (H:Hp) (vs:!V) (Q:VK) (E:XK),dE k (A.deeper (envOfC qual scope ↑s f bT))->sp vs H Q E ->
   ∃ t,sO (n9 CX P w K mg base N qual scope f bT A outer s H E) body t/\t { nx:=λ_ H'=>Q .cA H',rt:=Q } (start N vs) H) :
  eV P w K mg base CX (k+1) f (fnOf name qual params body scope dV kV doc pm an bT ct) ps sp:=by
 show#[len,λA outer s H args us vs Q E hr e0 hb r Ik=>?_];have hl:=len _ _ _ _ Ik;have KX:K.In s.heap:=e0.mod.QU.keeps λb o e=>(e0.bs b o e).1;have lim:s.heap.NoLimit:=e0.mod.nolimit.keeps λb o e=>(e0.bs b o e).1;have hkind:∀ y∈ps.zip us,scope.names.lookup y.1=some .local\/(scope.names.lookup y.1=some .cell/\((cellsFrom (↑s+1) scope.names []).lookup y.1).isSome=true):=λz2r hy=>by
  let(n,v):=z2r;rcases S.par n (Ww hy).1 with q | q
  .exact .inl q
  .exact .inr #[q,PySem.W.cellsFrom_some _ _ _ (.inl q)]
 show codeAny_call_function hr.depth (KX _ _ lk) U S.co S.gen U (PySem.W.codeRec_of KX uY) (hb _ _ _ _ ?_);show wpAny_newFunctionEnv_cells S.kind hkind λenv he s1 x=>?_;subst he;show#[lim.keeps x.toInCall.keep,codeAny_func ?_];let(t,ht,hq):=Fw A outer s H vs Q E (hr.deeper _) Ik;have I:Inv (n9 CX P w K mg base N qual scope f bT A outer s H E) [] (start N vs) H s1:=Bv S hr.hd e0 hl r x;show KM (ht [] s1 (start N vs) H _ I hq) (λfl s' hs=>?_) λe s' hs=>hs;have fin:∀ {σ':St} {H':Hp} {v:V} {u:AC},Inv (n9 CX P w K mg base N qual scope f bT A outer s H E) [] σ' H' s'->RelV v u->Q v H'->CE outer P w H s Q u s' :=
  λ{σ' H' v u} J rv q=>#[v,H',J.os,J.bare,J.base,J.aZ,rv,q]
 cases fl with
 | ret u =>
  let(v,σ',H',J,rv,q):=hs;exact fin J rv q
 | next =>
  let(σ',H',J,q):=hs;exact fin (v:=V.cA) (u:=AC.none) J U q
 | brk =>
  let(_,_,_,q):=hs;exact False.elim q
 | cont =>
  let(_,_,_,q):=hs;exact False.elim q
section
variable{X:Cx}{x:Str}{p pos:Pos}{e:Ch}{es:!Ch}{t:TA}{id T:String}{r:!V->Hp->VK->Prop}
def FE(r:!V->Hp->VK->Prop)(t:TA):TE:=λσ H Q=>t σ H λvs H1=>r vs H1 Q
theorem ee(hc:cT X (.builtin id) r)(hg:Gl X x)(hm:X.mg x=none)(hv:bootBuiltins x=some (.builtin id))(ha:PA X (e::es) t)(hn: ~~~(x≠"__name__"))(kg: ~~~(Yg x))(he:(Ye X.env e es)⁻¹)(g6:(Yf X.env pos es)⁻¹):PE X (.Call (.Name x p) (e::es) [] pos) (FE r t):=by
 intro TD s σ H Q I h;show wpAny_Call_Name_kw (g0 I hg hm hv ?_ hn kg);exact PyProof.Rows.callWith_builtin1 (b3 (ha pos TD s σ H _ I h) λus s1 zz=>el2 zz λvs H1 I1 r1 q1=>hc TD s1 σ H1 vs us Q I1 r1 q1) he g6
theorem nh(hc:cT X (.type T) r)(hg:Gl X x)(hm:X.mg x=none)(hv:bootBuiltins x=some (.type T))(ha:PA X (e::es) t)(hn: ~~~(x≠"__name__"))(kg: ~~~(Yg x))(he:(Ye X.env e es)⁻¹)(g6:(Yf X.env pos es)⁻¹):PE X (.Call (.Name x p) (e::es) [] pos) (FE r t):=by
 intro TD s σ H Q I h;show wpAny_Call_Name_kw (g0 I hg hm hv ?_ hn kg);exact PyProof.Rows.callWith_type1 (b3 (ha pos TD s σ H _ I h) λus s1 zz=>el2 zz λvs H1 I1 r1 q1=>hc TD s1 σ H1 vs us Q I1 r1 q1) he g6
end
end L2
namespace HT
open PySem PyProof.Rows
section
open PySem.SeqAt
open PySem.AutoSeq1 (wpAny_loadPart')
open PySem.MeetsSeq PySem.MeetsSeq2 PySem.MeetsSeq3
end
section
variable{prog:Fk}{w:FB}{A:Fr}{E:Yb}{s:Cl}
theorem Hh{t b:AT}{vs ws:!AC}{Q:Yb}(ht:IsTup s.heap t vs.toArray)(hb:IsTup s.heap b ws.toArray)(hv:vs≠[])(h1:ws=[]->Q (.ref t) s)(h2:ws≠[]->Q (.ref ↑s) { s with heap:=s.heap.push { cls:=.type "tuple",data:=.seq (vs++ws).toArray } })(hsz:vs.length+ws.length<=Ev):Da (model prog w) A (Os .Add (.ref t) (.ref b)) Q E s:=by
 let((cls,dd,data,sl),ho,hc,n,hd):=id ht;let((cls2,LW,data2,Md),ho2,hc2,n2,hd2):=id hb;simp only at hc hd hc2 hd2;subst hc hd hc2 hd2;have e:vs.toArray++ws.toArray=(vs++ws).toArray:=by simp
 by_cases hw:ws=[]
 .exact concat_meets #[_,ho,U] #[_,ho2,U] noFill_tuple_add seq_tuple_add XW XM (XF _ _)
   (tuple_addW1 t b vs.toArray ws.toArray n n2 dd LW sl Md (by simpa using hv) (by simp[hw])) #[ho,ho2,h1 hw]
 .refine concat_meets #[_,ho,U] #[_,ho2,U] noFill_tuple_add seq_tuple_add XW XM (XF _ _)
   (tuple_addW2 t b vs.toArray ws.toArray n n2 dd LW sl Md (by simpa using hv) (by simpa using hw) (by rw[List.size_toArray,List.size_toArray];exact hsz)) #[ho,ho2,?_]
  rw[e];exact h2 hw
def b5(n d:Nat):Option Int->Nat
 | none=>d
 | some v=>if v < 0 then (v+(n:Int)).toNat else min v.toNat n
theorem qX(n d:Nat):b5 n d none=d:=rfl
theorem Ka(n d:Nat)(hd:d<=n)(o:Option Int):b5 n d o<=n:=by
 cases o with
 | none=>exact hd
 | some v =>
  change (if v < 0 then (v+(n:Int)).toNat else min v.toNat n)<=n;by_cases hv:v < 0
  .rw[if_pos hv];cbv
  .rw[if_neg hv];exact Nat.min_le_right _ _
theorem y4(v:Int)(n d:Nat):(if v < 0 then max (v+(n:Int)) 0 else min v (n:Int))=((b5 n d (some v):Nat):Int):=by
 change (if v < 0 then max (v+(n:Int)) 0 else min v (n:Int))=(((if v < 0 then (v+(n:Int)).toNat else min v.toNat n):Nat):Int);by_cases hv:v < 0
 .simp only[if_pos hv];cbv
 .simp only[if_neg hv];cbv
theorem xh(lo hi:Option Int)(n:Nat):FM.Slice.sliceAdjust lo hi 1 (n:Int)=(((b5 n 0 lo:Nat):Int),((b5 n n hi:Nat):Int)):=by
 have h1:¬ ((1:Int) < 0):=by cbv
 unfold FM.Slice.sliceAdjust;simp only[h1,if_false];show Prod.ext ?_ ?_
 .cases lo with
  | none=>rfl
  | some v=>exact y4 v n 0
 .cases hi with
  | none=>rfl
  | some v=>exact y4 v n n
theorem xD(i j:Nat):FM.Slice.slicePlaces (i:Int) (j:Int) 1=j - i:=by
 unfold FM.Slice.slicePlaces;have h1:(1:Int) > 0:=by cbv
 simp only[h1,if_true,Int.ediv_one];split<;>cbv
theorem o5{v:AC}{o:Option Int}{Q:Option Int->Cl->Prop}(p:IsPart v o)(h:Q o s):Da (model prog w) A (FM.Slice.slicePartIndex v) Q E s:=by
 cases p with
 | none=>exact slicePart_none h
 | int i t=>exact slicePart_int h
theorem hU{sl:AT}{vl vu:AC}{lo hi:Option Int}{n:Nat}{Q:Int×Int×Nat->Cl->Prop}(hs:s.heap.IsSliceOf sl vl vu .none)(pl:IsPart vl lo)(pu:IsPart vu hi)(h:Q (((b5 n 0 lo:Nat):Int),1,b5 n n hi - b5 n 0 lo) s):Da (model prog w) A (FM.Slice.sliceApplied (.ref sl) (pure (n:Int))) Q E s:=by
 let(os,hos,hcs,wb):=id hs;unfold FM.Slice.sliceApplied FM.Slice.sliceFields;show BT (BT (KF hos wb (x:=vl) U (BT (KF hos wb (x:=vu) U (BT (KF hos wb (x:=.none) U (EQ ?_)))))));show BT (slicePart_none ?_);change Da _ _ (if ((1:Int) == 0)=true then _ else _) _ _ s;rw[if_neg ()];show BT (o5 pl (BT (o5 pu (BT (EQ ?_)))));change Da _ _ (match FM.Slice.sliceAdjust lo hi 1 (n:Int) with | (lo,hi)=>pure (lo,(1:Int),FM.Slice.slicePlaces lo hi 1)) _ _ s;rw[xh lo hi n];change Da _ _ (pure (((b5 n 0 lo:Nat):Int),(1:Int),FM.Slice.slicePlaces ((b5 n 0 lo:Nat):Int) ((b5 n n hi:Nat):Int) 1)) _ _ s;rw[xD];exact EQ h
theorem Fd(xs:Array AC)(i k:Nat):((List.range k).filterMap λ(m:Nat)=>xs[((i:Int)+(m:Int) * 1).toNat]?).toArray=((xs.toList.drop i).take k).toArray:=by
 have e:(λ(m:Nat)=>xs[((i:Int)+(m:Int) * 1).toNat]?)=λm=>xs[i+m]?:=by
  funext m
  have:((i:Int)+(m:Int) * 1).toNat=i+m:=by cbv
  rw[this]
 rw[e];have:=pick_run xs i k;rw[List.filterMap_map] at this;have e2:((λx=>xs[x]?)∘λx=>i+x)=λm=>xs[i+m]?:=rfl;rw[e2] at this;rw[this]
theorem lP{t sl:AT}{items:Array AC}{vl vu:AC}{lo hi:Option Int}{Q:Yb}(ht:IsTup s.heap t items)(hs:s.heap.IsSliceOf sl vl vu .none)(pl:IsPart vl lo)(pu:IsPart vu hi)(hw:¬ (b5 items.size 0 lo=0/\b5 items.size items.size hi=items.size))(h:Q (.ref ↑s) { s with heap:=s.heap.push { cls:=.type "tuple",data:=.seq ((items.toList.drop (b5 items.size 0 lo)).take (b5 items.size items.size hi - b5 items.size 0 lo)).toArray } })(hsz:items.size<=Ev):Da (model prog w) A (getItem (.ref t) (.ref sl)) Q E s:=by
 have htake:sizeOk (.seq ((items.toList.drop (b5 items.size 0 lo)).take (b5 items.size items.size hi - b5 items.size 0 lo)).toArray):=by
  change ((items.toList.drop (b5 items.size 0 lo)).take (b5 items.size items.size hi - b5 items.size 0 lo)).toArray.size<=Ev;rw[VQ,Wy,WU,Wd];omega
 have hj:b5 items.size items.size hi<=items.size:=Ka _ _ (VB _) hi;let(os,hos,hcs,wb):=id hs;have hTs:s.TypeIs (.ref sl) "slice":=#[os,hos,hcs];unfold getItem
 try with_reducible show KK ?_
 first | show BT (EQ ?_) | skip
 show BT (wpAny_sequenceKey ht.typeIs () ?_);show BT (wpAny_callSpecial?_slot (name:=Str.ofString "__getitem__") ht.typeIs PyProof.Rows.slot_tuple_getitem
  (Ps PyProof.Rows.slot_tuple_getitem ht.typeIs entry_tuple_getitem ?_ (args_tuple_getitem _ _)))
 change Da _ _ (FM.Tuple.tupleItemsOf (.ref t) >>= _) _ _ s;show BT (tupleItemsOf_ ht ?_);show BT (wpAny_typeOf hTs ?_);rw[if_pos ()];show BT (hU hs pl pu ?_);have BB:¬ ((((b5 items.size 0 lo:Nat):Int) == 0&&(1:Int) == 1&&(b5 items.size items.size hi - b5 items.size 0 lo) == items.size)=true):=by
  intro q;rw[V1,V1] at q;have q1:((b5 items.size 0 lo:Nat):Int)=0:=eq_of_beq q.1.1;have q2:b5 items.size items.size hi - b5 items.size 0 lo=items.size:=eq_of_beq q.2;exact hw #[by omega,by omega]
 change Da _ _ (if (((b5 items.size 0 lo:Nat):Int) == 0&&(1:Int) == 1&&(b5 items.size items.size hi - b5 items.size 0 lo) == items.size)=true then _ else _) _ _ s;rw[if_neg BB,Fd]
 first
  | exact BT (m:=FM.Tuple.tupleExact _) (Re (EQ #[_,U,EQ h]) htake)
  | exact BT (m:=FM.Tuple.tupleExact _) (Re (BT (EQ (EQ #[_,U,EQ h]))) htake)
  | exact BT (BT (m:=FM.Tuple.tupleExact _) (Re (EQ (EQ #[_,U,EQ h])) htake))
  | exact BT (BT (m:=FM.Tuple.tupleExact _) (Re (EQ #[_,U,EQ h]) htake))
end
end HT
namespace L2
open PySem PySem.Spec PyProof.Rows
abbrev TO:=St->Hp->(Option Int->Hp->Prop)->Prop
def PO(X:Cx)(e:Option Ch)(t:TO):Prop :=
 ∀ (TD:Yc) (s:Cl) (σ:St) (H:Hp) (Q:Option Int->Hp->Prop),Inv X TD σ H s->t σ H Q ->
  Da (model X.prog X.w) X.A (evalPart e X.env) (λu s'=>∃ o H',Inv X TD σ H' s'/\IsPart u o/\Q o H') X.xe s
def Hl:TO:=λ_ H Q=>Q none H
def DC(t:TE):TO:=λσ H Q=>t σ H λx H1=>∃ i,x=.int i/\Q (some i) H1
section
variable{X:Cx}{e:Ch}{te:TE}{lo hi:Option Ch}{tl th:TO}{pos p2:Pos}
theorem Gi:PO X none Hl:=by
 intro TD s σ H Q I h;rw[evalPart_none];exact EQ #[none,H,I,.none,h]
theorem uU(h:PE X e te):PO X (some e) (DC te):=by
 intro TD s σ H Q I hw;rw[evalPart_some];show b3 (h TD s σ H _ I hw) λu s1 zz=>el2 zz λx H1 I1 r1 q1=>?_;let(i,rfl,q):=q1;let(t,rfl):=r1;exact#[some i,H1,I1,.int i t,q]
def Mw(X:Cx)(r:V->Option Int->Option Int->Hp->VK->Prop):Prop :=
 ∀ (TD:Yc) (s:Cl) (σ:St) (H:Hp) (x:V) (v vl vu:AC) (lo hi:Option Int) (sl:AT) (Q:VK),Inv X TD σ H s->RelV x v->s.heap.IsSliceOf sl vl vu .none->IsPart vl lo->IsPart vu hi->r x lo hi H Q ->
  ∃ T id,typeLookup (.type T) "__getitem__"=pure (some (.builtin id))/\s.TypeIs v T/\Da (model X.prog X.w) X.A (getItem v (.ref sl)) (EP X TD σ Q) X.xe s
def SJ(r:V->Option Int->Option Int->Hp->VK->Prop)(te:TE)(tl th:TO):TE:=λσ H Q=>te σ H λx H1=>tl σ H1 λl H2=>th σ H2 λu H3=>r x l u H3 Q
theorem ll{r:V->Option Int->Option Int->Hp->VK->Prop}(hr:Mw X r)(he:PE X e te)(hl:PO X lo tl)(hu:PO X hi th):PE X (.Subscript e (.Slice lo hi none p2) pos) (SJ r te tl th):=by
 intro TD s σ H Q I h;show Subscript_ (b3 (he TD s σ H _ I h) λv s1 z0q=>?_);let(x,H1,I1,r1,q1):=z0q;show wpAny_Slice (b3 (hl TD s1 σ H1 _ I1 q1) λvl s2 zz=>el2 zz λl H2 I2 pl q2=>b3 (hu TD s2 σ H2 _ I2 q2) λvu s3 z1q=>?_);let(u,H3,I3,pu,q3):=z1q;rw[evalPart_none];show EQ ?_;have I4:Inv X TD σ H3 { s3 with heap:=s3.heap.push { cls:=.type "slice",data:=.fields #v[vl,vu,.none] } }:=I3.kept (t':=s3.toks) λb ob q=>Vz _ q;let(T,id,hT,ht,hg):=hr TD { s3 with heap:=s3.heap.push { cls:=.type "slice",data:=.fields #v[vl,vu,.none] } } σ H3 x v vl vu l u ↑s3 Q I4 r1 (Db.IsSliceOf.new ..) pl pu q3;change Da (model X.prog X.w) X.A (subscriptTail e (.Slice lo hi none p2) v (.ref ↑s3)) (EP X TD σ Q) X.xe { s3 with heap:=s3.heap.push { cls:=.type "slice",data:=.fields #v[vl,vu,.none] } };exact tail_any (ops:=[.ref ↑s3,v]) ht hT hg (by with_unfolding_all rfl)
def qQ(xs:!V)(lo hi:Option Int):!V:=(xs.drop (HT.b5 xs.length 0 lo)).take (HT.b5 xs.length xs.length hi - HT.b5 xs.length 0 lo)
theorem nB(xs:!V)(lo hi:Option Int):(qQ xs lo hi).length<=xs.length:=by
 unfold qQ;rw[Wy,WU];cbv
def Rj(K:Frag):V->Option Int->Option Int->Hp->VK->Prop:=λx lo hi H Q=>∃ a xs,x=.ref a/\ir K H a xs /\
 ¬ (HT.b5 xs.length 0 lo=0/\HT.b5 xs.length xs.length hi=xs.length)/\∀ p,H p=none->Q (.ref p) (upd H p (.tup (qQ xs lo hi)))
theorem JE:Mw X (Rj X.K):=by
 intro TD s σ H x v vl vu lo hi sl Q I rx hs pl pu h;let(a,xs,rfl,hx,hw,q):=h;cases rx;let(its,r,ht,hz):=I.tuple hx;have hlen:its.toArray.size=xs.length:=by rw[VQ];exact r.length.symm
 show#["tuple",_,PyProof.Rows.slot_tuple_getitem.lookup,ht.typeIs,?_];show HT.lP ht hs pl pu (by rw[hlen];exact hw) ?_ (by rw[hlen];exact hz);rw[hlen];show#[.ref ↑s,_,I.laid (t':=s.toks) (o:=.tup (qQ xs lo hi)) (λb ob q=>Vz _ q) (VB _) ?_,U,q _ (I.aZ.fresh (VB _))];exact#[VF (nB xs lo hi) hz,_,(r.drop (HT.b5 xs.length 0 lo)).take (HT.b5 xs.length xs.length hi - HT.b5 xs.length 0 lo),IsTup.new _ _]
def II(K:Frag):R2:=λx y H Q=>∃ a b xs ys,x=.ref a/\y=.ref b/\ir K H a xs/\ir K H b ys/\xs≠[]/\xs.length+ys.length<=Ev /\
 (ys=[]->Q (.ref a) H)/\(ys≠[]->∀ p,H p=none->Q (.ref p) (upd H p (.tup (xs++ys))))
theorem Vals.oW{xs:!V}{us:!AC}(r:Vals xs us):us=[]↔xs=[]:=by
 cases r with
 | nil=>simp
 | cons _ _=>simp
theorem Ac:ja X (Os .Add) (II X.K):=by
 intro TD s σ H x y v u Q I rx ry h;let(a,b,xs,ys,rfl,rfl,ha,hb,hx,hz,q1,q2):=h;cases rx;cases ry;let(its,r1,p1,_):=I.tuple ha;let(dM,r2,p2,_):=I.tuple hb;show HT.Hh p1 p2 (λz=>hx (r1.oW.mp z)) (λz=>#[.ref a,H,I,U,q1 (r2.oW.mp z)]) (λz=>?_) (by rw[<- r1.length,<- r2.length];exact hz);show#[.ref ↑s,_,I.laid (t':=s.toks) (o:=.tup (xs++ys)) (λb ob q=>Vz _ q) (VB _) ?_,U,q2 (λw=>z (r2.oW.mpr w)) _ (I.aZ.fresh (VB _))];exact#[by rw[Vw];exact hz,_,r1.append r2,IsTup.new _ _]
end
def AF(n:Nat)(i:Int):Option Nat:=if 0<=i then (if i < n then some i.toNat else none) else if -(n:Int)<=i then some (i+n).toNat else none
def jd{α:Type}(xs:!α)(i:Int):Option α:=(AF xs.length i).bind λj=>xs[j]?
theorem Ao{n:Nat}{i:Int}{j:Nat}(h:AF n i=some j):seqIndex? i n=some j/\j < n/\-(n:Int)<=i/\i < n:=by
 unfold AF at h;by_cases h0:0<=i
 .rw[if_pos h0] at h;by_cases h1:i < n
  .rw[if_pos h1] at h;have e:i.toNat=j:=V5 h;exact#[by rw[seqIndex_of h0 h1,e],by cbv,by cbv,h1]
  .rw[if_neg h1] at h;cases h
 .rw[if_neg h0] at h;by_cases h1:-(n:Int)<=i
  .rw[if_pos h1] at h;have e:(i+n).toNat=j:=V5 h;exact#[by rw[seqIndex_neg (by cbv) h1,e],by cbv,h1,by cbv]
  .rw[if_neg h1] at h;cases h
theorem ug{α:Type}{xs:!α}{i:Int}{v:α}(h:jd xs i=some v):∃ j,seqIndex? i xs.length=some j/\xs[j]?=some v/\j < xs.length/\-(xs.length:Int)<=i/\i < xs.length:=by
 unfold jd at h;cases e:AF xs.length i with
 | none=>rw[e] at h;cases h
 | some j =>
  rw[e] at h;let(h1,h2,h3,h4):=Ao e;exact#[j,h1,h,h2,h3,h4]
theorem fk{α:Type}{xs:!α}{j:Nat}{v:α}(h:xs[j]?=some v):jd xs (j:Int)=some v:=by
 have hj:j < xs.length:=(VC.mp h).1;have e:AF xs.length (j:Int)=some j:=by
  unfold AF;rw[if_pos (by cbv),if_pos (by cbv)];simp
 unfold jd;rw[e];exact h
theorem BG{α:Type}(xs:!α)(v:α):jd (xs++[v]) (-1)=some v:=by
 have hl:(xs++[v]).length=xs.length+1:=by simp
 have e:AF (xs++[v]).length (-1)=some xs.length:=by
  unfold AF;rw[hl,if_neg (),if_pos (by cbv)]
  congr 1
  cbv
 unfold jd;rw[e];change (xs++[v])[xs.length]?=some v;simp
def lq(b:Ch):Prop:=∀ o i,subscripted b false o i=operate [o,i] (getItem o i)
def HW(X:Cx)(r:R2):Prop :=
 ∀ (value slice:Ch) (TD:Yc) (s:Cl) (σ:St) (H:Hp) (x y:V) (v u:AC) (Q:VK),Inv X TD σ H s->RelV x v->RelV y u->r x y H Q ->
  subscripted slice false v u=operate [v,u] (getItem v u)->Da (model X.prog X.w) X.A (subscriptTail value slice v u) (EP X TD σ Q) X.xe s
def Qm(X:Cx)(id:String)(r:V->!V->Hp->VK->Prop):Prop :=
 ∀ (TD:Yc) (s:Cl) (σ:St) (H:Hp) (x:V) (xs:!V) (v:AC) (us:!AC) (Q:VK),Inv X TD σ H s->RelV x v->Vals xs us->r x xs H Q ->
  Da (model X.prog X.w) X.A (call (.builtin id) (v::us)) (EP X TD σ Q) X.xe s
section
variable{X:Cx}{a b:Ch}{ta tb:TE}{pos:Pos}
theorem Ii{r:R2}(hr:HW X r)(ha:PE X a ta)(hb:PE X b tb)(hs:lq b):PE X (.Subscript a b pos) (jF r ta tb):=by
 intro TD s σ H Q I h;exact Subscript_ (KQ ha hb I h λv u s2 x y H2 I2 rx ry q=>hr a b TD s2 σ H2 x y v u Q I2 rx ry q (hs _ _))
def Gk(K:Frag):R2:=λx y H Q=>∃ p xs i v,x=.ref p/\y=.int i/\eM K H p xs/\jd xs i=some v/\Q v H
def KR(K:Frag):R2:=λx y H Q=>∃ p xs i v,x=.ref p/\y=.int i/\ir K H p xs/\jd xs i=some v/\Q v H
def M9:R2:=λx y H Q=>∃ z i c,x=.str z/\y=.int i/\z.length<=Ev/\jd z.cps.toList i=some c/\Q (.str #[#v[c]]) H
theorem vp:HW X (Gk X.K):=by
 intro value slice TD s σ H x y v u Q I rx ry h hs;let(p,xs,i,z,rfl,rfl,hq,he,q):=h;cases rx;let(t,rfl):=ry;let(its,r,pl,hz):=I.list hq;let(j,h1,h2,h3,h4,h5):=ug he;let(w,ew,rw'):=r.get h2;have hl:=r.length;have hn:=kX;have fin:EP X TD σ Q w s:=#[z,H,I,rw',q];by_cases h0:0<=i
 .have hj:i.toNat=j:=by
   rw[seqIndex_of h0 h5] at h1;exact V5 h1
  exact item_listR pl.isList h0 (by cbv) (by rw[hj];simpa using ew) fin hs
 .have hj:(i+(its.toArray.size:Int)).toNat=j:=by
   rw[seqIndex_neg (by cbv) h4] at h1;rw[VQ,<- hl];exact V5 h1
  exact subscriptTail_builtinR (x:=w) pl.isList.typeIs slot_list_getitem.lookup
   (wpAny_getItem_list_neg (Q:=λr s'=>r=w/\EP X TD σ Q r s') pl.isList (by cbv) (by rw[List.size_toArray]<;>cbv) (by cbv) (by rw[hj];simpa using ew) #[U,fin]) hs
theorem EG:HW X (KR X.K):=by
 intro value slice TD s σ H x y v u Q I rx ry h hs;let(p,xs,i,z,rfl,rfl,hq,he,q):=h;cases rx;let(t,rfl):=ry;let(its,r,pl,hz):=I.tuple hq;let(j,h1,h2,h3,h4,h5):=ug he;let(w,ew,rw'):=r.get h2;have hl:=r.length;have hn:=kX;have fin:EP X TD σ Q w s:=#[z,H,I,rw',q];exact subscriptTail_builtinR (x:=w) pl.typeIs slot_tuple_getitem.lookup
  (getItem_tuple (j:=j) (Q:=λr s'=>r=w/\EP X TD σ Q r s') pl (by cbv) (by cbv) (by rw[List.size_toArray,<- hl];exact h1) (by simpa using ew) #[U,fin]) hs
theorem yf:HW X M9:=by
 intro value slice TD s σ H x y v u Q I rx ry h hs;let(z,i,c,rfl,rfl,hz,he,q):=h;let(t,rfl):=rx;let(t',rfl):=ry;let(j,h1,h2,h3,h4,h5):=ug he;have hl:z.cps.toList.length=z.length:=by simp[Str.length]
 rw[hl] at h1 h4 h5;have hn:=kX;exact tail_any (typeIs_str s z t) slot_str_getitem.lookup (getItem_str (c:=c) (by
  have e1:decide (i < -(2 ^ 63:Int))=false:=decide_eq_false (by cbv);have e2:decide (i ≥ 2 ^ 63)=false:=decide_eq_false (by cbv);rw[e1,e2,Bool.or_false]) (by rw[h1];simpa using h2) #[.str #[#v[c]],H,I.tok _,#[_,U],q]) hs
theorem xA(its:!AC)(n j:Nat)(u:AC):Obj.mapSeq (·.setIfInBounds j u) { cls:=.type "list",data:=.seq its.toArray n }={ cls:=.type "list",data:=.seq (its.set j u).toArray n }:=by
 simp[Obj.mapSeq]
theorem Inv.lst{TD:Yc}{σ:St}{H:Hp}{s:Cl}{p:AT}{xs:!V}(I:Inv X TD σ H s)(h:H p=some (.lst xs)) :
  ∃ (its:!AC) (n:Nat),Vals xs its/\s.heap.get? p=some { cls:=.type "list",data:=.seq its.toArray n }/\xs.length<=Ev:=by
 let(z,its,n,r,e):=I.aZ p _ h;exact#[its,n,r,e,z]
theorem Inv.Kv{TD:Yc}{σ:St}{H:Hp}{s:Cl}{p:AT}{xs ys:!V}{its its':!AC}{n n':Nat}{f:Obj->Obj}(I:Inv X TD σ H s)(h:H p=some (.lst xs))(ho:s.heap.get? p=some { cls:=.type "list",data:=.seq its.toArray n })(hf:f { cls:=.type "list",data:=.seq its.toArray n }={ cls:=.type "list",data:=.seq its'.toArray n' })(r:Vals ys its')(hz:ys.length<=Ev)(t:Nat) :
  Inv X TD σ (upd H p (.lst ys)) { s with heap:=s.heap.update p f,toks:=t }:=by
 have e:(s.heap.update p f).get? p=some { cls:=.type "list",data:=.seq its'.toArray n' }:=by
  rw[Wt f ho (by rw[hf]<;>rfl),hf]
 show I.write (x:=p) (e:=p) (by rw[h];trivial) (.inl U) (λb u hb q=>(Wq _ _ (Ne.symm hb)).trans q) #[_,e] ?_;exact#[hz,its',n',r,e]
def HE:V->V->V->Hp->(Hp->Prop)->Prop:=λo i v H Q=>∃ p xs k j,o=.ref p/\i=.int k/\H p=some (.lst xs)/\AF xs.length k=some j/\Q (upd H p (.lst (xs.set j v)))
theorem set_list:N6 X HE:=by
 intro TD s σ H o i v ov iv u Q I ro ri rv h;let(p,xs,k,j,rfl,rfl,hp,hj,q):=h;cases ro;let(t,rfl):=ri;let(its,n,r,ho,hz):=I.lst hp;let(h1,h2,h3,h4):=Ao hj;have hl:=r.length;have hn:=kX;have I':Inv X TD σ (upd H p (.lst (xs.set j v))) { s with heap:=s.heap.update p (Obj.mapSeq (·.setIfInBounds j u)) } :=
  I.Kv hp ho (xA its n j u) (r.set rv j) (by rw[WE];exact hz) s.toks
 by_cases h0:0<=k
 .have hk:k.toNat=j:=by
   rw[seqIndex_of h0 h4] at h1;exact V5 h1
  exact PySem.W.ki_setAt ho h0 (by cbv) (by rw[VQ,<- hl];exact h4) (by rw[hk];exact#[_,I',q])
 .have hk:(k+(its.toArray.size:Int)).toNat=j:=by
   rw[seqIndex_neg (by cbv) h3] at h1;rw[VQ,<- hl];exact V5 h1
  exact PySem.W.ki_setBack ho (by cbv) (by rw[VQ,<- hl];exact h3) (by cbv) (by rw[hk];exact#[_,I',q])
theorem u5(lo hi:Option Int)(n:Nat):(sliceBounds lo hi none n).1=((HT.b5 n 0 lo:Nat):Int)/\(sliceBounds lo hi none n).2.1=((HT.b5 n n hi:Nat):Int)/\(sliceBounds lo hi none n).2.2=1:=by
 show#[?_,?_,U]
 .cases lo with
  | none=>simp[sliceBounds,HT.b5]
  | some i =>
   simp only[sliceBounds,HT.b5,Option.getD_none,show (1:Int) > 0 by decide,if_true];by_cases h:i < 0
   .simp only[h,if_true]<;>cbv
   .simp only[h,if_false]<;>cbv
 .cases hi with
  | none=>simp[sliceBounds,HT.b5]
  | some i =>
   simp only[sliceBounds,HT.b5,Option.getD_none,show (1:Int) > 0 by decide,if_true];by_cases h:i < 0
   .simp only[h,if_true]<;>cbv
   .simp only[h,if_false]<;>cbv
theorem rQ(its:!AC)(lo hi:Option Int):slicePick its.toArray lo hi none=((its.drop (HT.b5 its.length 0 lo)).take (HT.b5 its.length its.length hi - HT.b5 its.length 0 lo)).toArray:=by
 let(h1,h2,h3):=u5 lo hi its.toArray.size;unfold slicePick;rw[h1,h2,h3];simp only[sliceRange_one,pick_run,List.size_toArray]<;>rfl
def Of(K:Frag):V->Option Int->Option Int->Hp->VK->Prop:=λx lo hi H Q=>∃ a xs,x=.ref a/\eM K H a xs/\∀ p,H p=none->Q (.ref p) (upd H p (.lst (qQ xs lo hi)))
theorem Ap:Mw X (Of X.K):=by
 intro TD s σ H x v vl vu lo hi sl Q I rx hs pl pu h;let(a,xs,rfl,hx,q):=h;cases rx;let(its,r,ht,hz):=I.list hx;have hlen:=r.length;show#["list",_,slot_list_getitem.lookup,ht.isList.typeIs,?_];show wpAny_getItem_list_slice ht.isList hs pl pu .none (by simp) ?_ (by rw[List.size_toArray]<;>cbv);rw[rQ,<- hlen];show#[.ref ↑s,_,I.laid (t':=s.toks) (o:=.lst (qQ xs lo hi)) (λb ob q=>Vz _ q) (VB _) ?_,U,q _ (I.aZ.fresh (VB _))];exact#[VF (nB xs lo hi) hz,_,0,(r.drop (HT.b5 xs.length 0 lo)).take (HT.b5 xs.length xs.length hi - HT.b5 xs.length 0 lo),VP _ U]
def jr:V->Bool
 | .cA=>true
 | .bl _=>true
 | .int _=>true
 | .str _=>true
 | _=>false
def FU:V->V->Bool
 | .cA,.cA=>true
 | .bl a,.bl b=>a == b
 | .bl a,.int b=>(if a then 1 else 0) == b
 | .int a,.bl b=>a == (if b then 1 else 0)
 | .int a,.int b=>a == b
 | .str a,.str b=>a == b
 | _,_=>false
theorem Lv{A:Fr}{s:Cl}{y x:V}{u v:AC}(ry:RelV y u)(rx:RelV x v)(fy:jr y=true)(fx:jr x=true):SeqAt.EqAt A s u v (FU y x):=by
 cases y with
 | cA =>
  cases ry;cases x with
  | cA=>cases rx;exact SeqAt.EqAt.same _
  | bl b=>cases rx;exact SeqAt.EqAt.none_bool b
  | int b=>let(t,rfl):=rx;exact SeqAt.EqAt.none_int b t
  | str b=>let(t,rfl):=rx;exact SeqAt.EqAt.none_str b t
  | _=>exact absurd (show false=true from fx) VN
 | bl a =>
  cases ry;cases x with
  | cA=>cases rx;exact SeqAt.EqAt.bool_none a
  | bl b=>cases rx;exact SeqAt.EqAt.bool_bool a b
  | int b=>let(t,rfl):=rx;exact SeqAt.EqAt.bool_int a b t
  | str b=>let(t,rfl):=rx;exact SeqAt.EqAt.bool_str a b t
  | _=>exact absurd (show false=true from fx) VN
 | int a =>
  let(t',rfl):=ry;cases x with
  | cA=>cases rx;exact SeqAt.EqAt.int_none a t'
  | bl b=>cases rx;exact SeqAt.EqAt.int_bool a t' b
  | int b=>let(t,rfl):=rx;exact SeqAt.EqAt.int_int a t' b t
  | str b=>let(t,rfl):=rx;exact SeqAt.EqAt.int_str a t' b t
  | _=>exact absurd (show false=true from fx) VN
 | str a =>
  let(t',rfl):=ry;cases x with
  | cA=>cases rx;exact SeqAt.EqAt.str_none a t'
  | bl b=>cases rx;exact SeqAt.EqAt.str_bool a t' b
  | int b=>let(t,rfl):=rx;exact SeqAt.EqAt.str_int a t' b t
  | str b=>let(t,rfl):=rx;exact SeqAt.EqAt.str_str a t' b t
  | _=>exact absurd (show false=true from fx) VN
 | _=>exact absurd (show false=true from fy) VN
def xw(x:V)(u:AC):Bool:=match u with
 | .none=>FU .cA x
 | .bool b=>FU (.bl b) x
 | .int i _=>FU (.int i) x
 | .str z _=>FU (.str z) x
 | _=>false
theorem Ep{x y:V}{u:AC}(r:RelV y u)(f:jr y=true):xw x u=FU y x:=by
 cases y with
 | cA=>cases r;rfl
 | bl b=>cases r;rfl
 | int i=>let(t,rfl):=r;rfl
 | str z=>let(t,rfl):=r;rfl
 | _=>exact absurd (show false=true from f) VN
theorem mm{x:V}:∀ {xs:!V} {us:!AC},Vals xs us->xs.all jr=true->us.any (xw x)=xs.any λy=>FU y x
 | _,_,.nil,_=>rfl
 | y::xs,u::us,.cons r t,f=>by
  rw[List.all_cons,V1] at f;rw[WM,WM,Ep r f.1,mm t f.2]
theorem jq{A:Fr}{s:Cl}{x:V}{v:AC}(rx:RelV x v)(fx:jr x=true):∀ {xs:!V} {us:!AC},Vals xs us->xs.all jr=true->∀ u∈us,SeqAt.EqAt A s u v (xw x u)
 | _,_,.nil,_=>λu hu=>by cases hu
 | y::xs,u::us,.cons r t,f=>λu' hu=>by
  rw[List.all_cons,V1] at f;rcases VG.mp hu with rfl | hu
  .rw[Ep r f.1];exact Lv r rx f.1 fx
  .exact jq rx fx t f.2 u' hu
def xP(x:V)(xs:!V):Bool:=xs.any λy=>FU y x
def KN(K:Frag)(neg:Bool):R2:=λx y H Q=>∃ p xs,y=.ref p/\(eM K H p xs\/ir K H p xs)/\jr x=true/\xs.all jr=true/\Q (.bl (if neg then (not (xP x xs)) else xP x xs)) H
theorem jJ:ja X (KB .In) (KN X.K false):=by
 intro TD s σ H x y v u Q I rx ry h;let(p,xs,rfl,hq,fx,fs,q):=h;cases ry;rcases hq with hq | hq
 .let(its,r,pl,hz):=I.list hq;show SeqAt.in_listAt (xw x) pl.isList (λw hw=>jq rx fx r fs w (by simpa using hw)) #[.bl _,H,I,U,?_];rw[show its.toArray.any (xw x)=its.any (xw x) by simp,mm r fs];exact q
 .let(its,r,pl,hz):=I.tuple hq;show SeqAt.in_tupleAt (xw x) pl (λw hw=>jq rx fx r fs w (by simpa using hw)) #[.bl _,H,I,U,?_];rw[show its.toArray.any (xw x)=its.any (xw x) by simp,mm r fs];exact q
theorem lM:ja X (KB .NotIn) (KN X.K true):=by
 intro TD s σ H x y v u Q I rx ry h;let(p,xs,rfl,hq,fx,fs,q):=h;cases ry;rcases hq with hq | hq
 .let(its,r,pl,hz):=I.list hq;show SeqAt.notIn_listAt (xw x) pl.isList (λw hw=>jq rx fx r fs w (by simpa using hw)) #[.bl _,H,I,U,?_];rw[show its.toArray.any (xw x)=its.any (xw x) by simp,mm r fs];exact q
 .let(its,r,pl,hz):=I.tuple hq;show SeqAt.notIn_tupleAt (xw x) pl (λw hw=>jq rx fx r fs w (by simpa using hw)) #[.bl _,H,I,U,?_];rw[show its.toArray.any (xw x)=its.any (xw x) by simp,mm r fs];exact q
theorem c9:cT X (.builtin "len") (λxs H Q=>∃ p ys,xs=[.ref p]/\(eM X.K H p ys\/ir X.K H p ys)/\Q (.int ys.length) H):=by
 intro TD s σ H xs us Q I r h;let(p,ys,rfl,hq,q):=h;let(u,rfl,rx):=vals1 r;cases rx;have hn:=kX;rcases hq with hq | hq
 .let(its,r',pl,hz):=I.list hq;have hlen:=r'.length;exact Calls.call_len_list pl.isList (by simp only[List.size_toArray]<;>cbv) #[.int ys.length,H,I.tok _,#[s.toks+1,by rw[List.size_toArray,hlen]],q]
 .let(its,r',pl,hz):=I.tuple hq;have hlen:=r'.length;exact len_tuple pl (by simp only[List.size_toArray]<;>cbv) #[.int ys.length,H,I.tok _,#[s.toks+1,by rw[List.size_toArray,hlen]],q]
theorem lr:cT X (.builtin "len") (λxs H Q=>∃ z,xs=[.str z]/\z.length<=Ev/\Q (.int z.length) H):=by
 intro TD s σ H xs us Q I r h;let(z,rfl,hz,q):=h;let(u,rfl,t,rfl):=vals1 r;have hn:=kX;exact len_str (by cbv) #[.int z.length,H,I.tok _,#[_,U],q]
theorem bY:cT X (.type "list") (λxs H Q=>∃ p ys,xs=[.ref p]/\(eM X.K H p ys\/ir X.K H p ys)/\∀ l,H l=none->Q (.ref l) (upd H l (.lst ys))):=by
 intro TD s σ H xs us Q I r h;let(p,ys,rfl,hq,q):=h;let(u,rfl,rx):=vals1 r;cases rx;have fin:∀ (its:!AC),Vals ys its->ys.length<=Ev->∀ (h':Db) (c':Nat),(∀ b o',s.heap.get? b=some o'->h'.get? b=some o') ->
   h'.get? ↑s=some { cls:=.type "list",dict:=none,data:=.seq its.toArray c',slots:=#v[] }->EP X TD σ Q (.ref ↑s) { s with heap:=h' }:=λits r' hz h' c' kp e =>
  #[.ref ↑s,_,I.laid (t':=s.toks) kp (VB _) (show b6 X.prog X.w _ h' _ (.lst ys) from #[hz,its,c',r',e]),U,q _ (I.aZ.fresh (VB _))]
 rcases hq with hq | hq
 .let(its,r',pl,hz):=I.list hq;have hlen:=r'.length;let(o,ho,hc,n,hd):=pl.isList;exact call_list_seq p (.inl U) ho hc hd (λh' c' kp e=>fin its r' hz h' c' kp e) (by simp only[List.size_toArray]<;>cbv)
 .let(its,r',pl,hz):=I.tuple hq;have hlen:=r'.length;let(o,ho,hc,n,hd):=pl;exact call_list_seq p (.inr U) ho hc hd (λh' c' kp e=>fin its r' hz h' c' kp e) (by simp only[List.size_toArray]<;>cbv)
theorem rT:cT X (.type "tuple") (λxs H Q=>∃ p ys,xs=[.ref p]/\((eM X.K H p ys/\∀ l,H l=none->Q (.ref l) (upd H l (.tup ys)))\/(ir X.K H p ys/\Q (.ref p) H))):=by
 intro TD s σ H xs us Q I r h;let(p,ys,rfl,h):=h;let(u,rfl,rx):=vals1 r;cases rx;rcases h with ⟨hq,q⟩ | ⟨hq,q⟩
 .let(its,r',pl,hz):=I.list hq;have hlen:=r'.length;show call_tuple_list pl.isList (λh' kp=>?_) (by simp only[List.size_toArray]<;>cbv);have I1:Inv X TD σ H { s with heap:=h' }:=I.kept (t':=s.toks) kp;have I2:Inv X TD σ (upd H h'.objs.size (.tup ys)) { s with heap:=h'.push { cls:=.type "tuple",data:=.seq its.toArray } } :=
   I1.laid (t':=s.toks) (λb o e=>Vz _ e) (VB _) (show b6 X.prog X.w _ _ _ (.tup ys) from #[hz,its,r',IsTup.new _ _])
  exact#[.ref h'.objs.size,_,I2,U,q _ (I1.aZ.fresh (VB _))]
 .let(its,r',pl,hz):=I.tuple hq;exact call_tuple_same pl #[.ref p,H,I,U,q]
def Rw(K:Frag)(T:String)(x:V)(H:Hp):Prop:=match x with
 | .str _=>T="str"
 | .int _=>T="int"
 | .ref p=>(T="list"/\∃ xs,eM K H p xs)\/(T="tuple"/\∃ o,K.lookup p=some o/\o.cls=.type "tuple"/\o.dict=none) \/
   (T="dict"/\((∃ kvs,H p=some (.dK kvs))\/∃ kvs,H p=some (.dT kvs)))\/(T="set"/\∃ S n,H p=some (.set S n))
 | _=>False
theorem Eb{TD:Yc}{σ:St}{H:Hp}{s:Cl}{T:String}{x:V}{v:AC}(I:Inv X TD σ H s)(r:RelV x v)(ty:Rw X.K T x H) :
  s.TypeIs v T/\∀ a,v=.ref a->∃ ob,s.heap.get? a=some ob/\ob.dict=none:=by
 cases x with
 | str z =>
  let(t,rfl):=r;cases (show T="str" from ty);exact#[typeIs_str s z t,λ_ e=>nomatch e]
 | int i =>
  let(t,rfl):=r;cases (show T="int" from ty);exact#[typeIs_int s i t,λ_ e=>nomatch e]
 | ref p =>
  cases r;rcases ty with ⟨rfl,xs,hq⟩ | ⟨rfl,o,hk,hc,hd⟩ | ⟨rfl,hk⟩ | ⟨rfl,S,n,hk⟩
  .let(its,_,pl,_):=I.list hq;show#[pl.isList.typeIs,λa e=>?_];cases e;let(o,n,e,c,hd,_):=pl;exact#[o,e,hd]
  .refine#[#[o,I.LS p o hk,hc],λa e=>?_];cases e;exact#[o,I.LS _ o hk,hd]
  .have z:∃ o,s.heap.get? p=some o/\o.ExactDict:=by
    rcases hk with ⟨kvs,hk⟩ | ⟨kvs,hk⟩
    .let(_,_,_,_,o,_,_,e,ex,_):=I.aZ p _ hk;exact#[o,e,ex]
    .let(_,_,_,_,o,_,_,e,ex,_):=I.aZ p _ hk;exact#[o,e,ex]
   let(o,e,ex):=z;show#[#[o,e,ex.1],λa e2=>?_];cases e2;exact#[o,e,ex.2.1]
  .let(o,_,_,_,e,ex,_):=I.aZ p _ hk;show#[#[o,e,ex.1],λa e2=>?_];cases e2;exact#[o,e,ex.2.1]
 | _=>exact False.elim ty
def KW(K:Frag)(T:String)(r:V->!V->Hp->VK->Prop)(to:TE):TE:=λσ H Q=>to σ H λx H1=>Rw K T x H1/\r x [] H1 Q
def SR(K:Frag)(T:String)(r:V->!V->Hp->VK->Prop)(to:TE)(t:TA):TE:=λσ H Q=>to σ H λx H1=>Rw K T x H1/\t σ H1 λxs H2=>r x xs H2 Q
variable{o e:Ch}{es:!Ch}{to:TE}{t:TA}{name:Str}{apos bV:Pos}{T id:String}{r:V->!V->Hp->VK->Prop}
theorem En(pa:PlainAttrs T)(slot:Slot T name id)(Je:typeOf (.builtin id)=pure (.type "method_descriptor"))(hm:Qm X id r)(ho:PE X o to)(gf:(attributeBase o name X.env (eval o X.env)=eval o X.env)⁻¹)(fz:((apos.endLine == bV.line)=true)⁻¹):PE X (.Call (.Attribute o name apos) [] [] bV) (KW X.K T r to):=by
 intro TD s σ H Q I h;show wpAny_Call_method0_late gf fz (b3 (ho TD s σ H _ I h) λv s1 z2q=>?_);let(x,H1,I1,r1,ty,q1):=z2q;let(h1,h2):=Eb I1 r1 ty;exact#[T,id,pa,slot,Je,h1,h2,Calls.callWith_builtin U (PySem.evalArgs_none (hm TD s1 σ H1 x [] v [] Q I1 r1 .nil q1))]
theorem zy(pa:PlainAttrs T)(slot:Slot T name id)(Je:typeOf (.builtin id)=pure (.type "method_descriptor"))(hm:Qm X id r)(ho:PE X o to)(ha:PA X (e::es) t)(gf:(attributeBase o name X.env (eval o X.env)=eval o X.env)⁻¹)(qf:(((Go bV (GE (e::es) X.env)).all (λx=>(not x.1))&&(Rs bV (SL [] X.env)).all (λx=>x.1.isSome)
   && decide ((e::es).length+([]:!NE).length+(if ([]:!NE).isEmpty then 0 else 1) < 30))=true)⁻¹)(fz:((apos.endLine == bV.line)=true)⁻¹)(hs:(Ye X.env e es)⁻¹)(f9:((Go bV (GE es X.env)).any (·.1)=false)⁻¹) :
  PE X (.Call (.Attribute o name apos) (e::es) [] bV) (SR X.K T r to t):=by
 intro TD s σ H Q I h;show wpAny_Call_method_late gf qf fz U (b3 (ho TD s σ H _ I h) λv s1 z3q=>?_);let(x,H1,I1,r1,ty,q1):=z3q;let(h1,h2):=Eb I1 r1 ty;show#[T,id,pa,slot,Je,h1,h2,?_];have hA:=ha bV TD s1 σ H1 _ I1 q1;rw[hs] at hA ⊢;show Calls.callWith_builtin (by change (false||(Go bV (GE es X.env)).any (·.1))=false;rw[f9]<;>rfl) (Calls.evalArgs_plain ?_);exact b3 hA λus s2 #[vs,H2,I2,r2,q2]=>hm TD s2 σ H2 x vs v us Q I2 r1 r2 q2
end
def Ib(X:Cx)(id:String)(r:V->!V->Hp->VK->Prop):Prop :=
 ∀ (TD:Yc) (s:Cl) (σ:St) (H:Hp) (x:V) (xs:!V) (v:AC) (us:!AC) (Q:VK),Inv X TD σ H s->RelV x v->Vals xs us->r x xs H Q ->
  Da (model X.prog X.w) X.A (call (.builtin id) (v::us)) (EP X TD σ Q) X.xe s
theorem Vals.one{x:V}{us:!AC}(h:Vals [x] us):∃ u,us=[u]/\RelV x u:=by
 cases h with
 | cons r t=>cases t with
  | nil=>exact#[_,U,r]
theorem Vals.two{x y:V}{us:!AC}(h:Vals [x,y] us):∃ u v,us=[u,v]/\RelV x u/\RelV y v:=by
 cases h with
 | cons r t=>cases t with
  | cons q t=>cases t with
   | nil=>exact#[_,_,U,r,q]
theorem Vals.zero:∀ {us:!AC},Vals [] us->us=[]
 | _,.nil=>rfl
theorem Vals.dropLast{xs:!V}{us:!AC}(h:Vals xs us):Vals xs.dropLast us.dropLast:=by
 induction h with
 | nil=>exact .nil
 | cons r t ih =>
  cases t with
  | nil=>exact .nil
  | cons q t'=>exact .cons r ih
theorem Vals.eraseIdx:∀ {xs:!V} {us:!AC} (i:Nat),Vals xs us->Vals (xs.eraseIdx i) (us.eraseIdx i)
 | _,_,_,.nil=>.nil
 | _,_,0,.cons _ t=>t
 | _,_,i+1,.cons r t=>.cons r (Vals.eraseIdx i t)
theorem Vals.reverse{xs:!V}{us:!AC}(h:Vals xs us):Vals xs.reverse us.reverse:=by
 induction h with
 | nil=>exact .nil
 | cons r t ih=>rw[Xb,Xb];exact Vals.append ih (.cons r .nil)
theorem xp{α:Type}(l:!α):l.eraseIdx (l.length - 1)=l.dropLast:=by
 induction l with
 | nil=>rfl
 | cons a r ih =>
  cases r with
  | nil=>rfl
  | cons b r =>
   have e:(a::b::r).length - 1=((b::r).length - 1)+1:=by
    have h1:(a::b::r).length=r.length+2:=rfl;have h2:(b::r).length=r.length+1:=rfl;cbv
   rw[e,List.eraseIdx_cons_succ,ih]
   all_goals rfl
theorem sx{α:Type}:∀ (l:!α) (i:Nat),(l.eraseIdx i).length<=l.length
 | [],_=>VB _
 | _::_,0=>Nat.le_succ _
 | _::r,i+1=>WK (sx r i)
section
variable{X:Cx}{TD:Yc}{σ:St}{H:Hp}{s:Cl}{l b:AT}{xs ys zs:!V}
theorem Inv.D4{its its':!AC}{n:Nat}{f:Array AC->Array AC}{t':Nat}(I:Inv X TD σ H s)(hH:H l=some (.lst xs))(e:s.heap.get? l=some { cls:=.type "list",data:=.seq its.toArray n })(hf:f its.toArray=its'.toArray)(hv:Vals ys its')(hz:ys.length<=Ev) :
  Inv X TD σ (upd H l (.lst ys)) { s with heap:=s.heap.update l (Obj.mapSeq f),toks:=t' }:=by
 have q:=PySem.IsL.update e f;rw[hf] at q;show I.write (x:=l) (e:=l) (by rw[hH];exact trivial) (.inl U) (λb' u hb hu=>(Wq s.heap (Obj.mapSeq f) (Ne.symm hb)).trans hu) #[_,q] ?_;exact#[hz,its',_,hv,q]
theorem Inv.Nn{its:!AC}{t':Nat}(I:Inv X TD σ H s)(hv:Vals ys its)(hz:ys.length<=Ev) :
  Inv X TD σ (upd H ↑s (.lst ys)) { s with heap:=s.heap.push { cls:=.type "list",data:=.seq its.toArray },toks:=t' } :=
 I.laid (λ_ _ q=>Vz _ q) (VB _) #[hz,its,0,hv,VP _ U]
theorem Inv.fresh(I:Inv X TD σ H s):H ↑s=none:=I.aZ.fresh (VB _)
theorem Inv.rL(I:Inv X TD σ H s)(hH:H l=some (.lst xs)):xs.length<=Ev/\∃ (its:!AC) (n:Nat),Vals xs its/\xs.length=its.length/\s.heap.get? l=some { cls:=.type "list",data:=.seq its.toArray n }:=by
 let(z,its,n,r,e):=I.aZ l _ hH;exact#[z,its,n,r,r.length,e]
theorem Df{n:Nat}(h:n<=Ev):FM.List.listTooLong n=false:=by
 unfold FM.List.listTooLong;exact decide_eq_false (by cbv)
end
section
variable{X:Cx}
def yY:V->!V->Hp->VK->Prop:=λx vs H Q=>∃ l xs y,x=.ref l/\vs=[y]/\H l=some (.lst xs)/\xs.length < Ev/\Q .cA (upd H l (.lst (xs++[y])))
theorem sH:Ib X "list.append" yY:=by
 intro TD s σ H x vs v us Q I rx rv h;let(l,xs,y,rfl,rfl,hH,hz,q):=h;cases rx;let(u,rfl,ru):=rv.one;let(z,its,n,r,hl,e):=I.rL hH;show call_meets F.slot_list_append #[_,e,U] F.entry_list_append (F.args_list_append_2 _ _) (PySem.list_append l its.toArray n u (by rw[VQ];cbv)) #[e,?_];show#[.cA,_,I.D4 (its':=its++[u]) hH e (by simp) (r.append (.cons ru .nil)) ?_,U,q];rw[Vw,WV];cbv
def yu:V->!V->Hp->VK->Prop:=λx vs H Q=>∃ l b xs zs,x=.ref l/\vs=[.ref b]/\H l=some (.lst xs)/\H b=some (.lst zs)/\xs.length+zs.length<=Ev/\Q .cA (upd H l (.lst (xs++zs)))
theorem eZ:Ib X "list.extend" yu:=by
 intro TD s σ H x vs v us Q I rx rv h;let(l,b,xs,zs,rfl,rfl,hH,hB,hz,q):=h;cases rx;let(u,rfl,ru):=rv.one;cases ru;let(z,its,n,r,hl,e):=I.rL hH;let(z2,dM,n2,r2,AZ,e2):=I.rL hB;have hsz:its.toArray.size+dM.toArray.size<=Ev:=by rw[VQ,VQ];cbv
 have hlong:¬ ((not its.toArray.isEmpty)&&FM.List.listTooLong (its.toArray.size+dM.toArray.size))=true:=by
  rw[Df hsz,Bool.and_false];exact VN
 show call_meets F.slot_list_extend #[_,e,U] F.entry_list_extend (F.args_list_extend_2 _ _)
  (AutoSeq1.list_extend_list_list_0 l its.toArray n b dM.toArray n2 hlong (by rw[VQ];cbv) (by cbv)) #[e,e2,?_]
 show#[.cA,_,I.D4 (its':=its++dM) hH e (by simp) (r.append r2) ?_,U,q];rw[Vw];cbv
def JW:V->!V->Hp->VK->Prop:=λx vs H Q=>∃ l xs y,x=.ref l/\vs=[]/\H l=some (.lst xs)/\xs[xs.length - 1]?=some y/\Q y (upd H l (.lst xs.dropLast))
theorem uv:Ib X "list.pop" JW:=by
 intro TD s σ H x vs v us Q I rx rv h;let(l,xs,y,rfl,rfl,hH,hy,q):=h;cases rx;have hus:=rv.zero;subst hus;let(z,its,n,r,hl,e):=I.rL hH;let(u,hu,ru):=r.get hy;have hy':its.toArray[its.toArray.size - 1]?=some u:=by
  change its.toArray[its.length - 1]?=some u;rw[<- Wg,<- hl];exact hu
 show call_meets F.slot_list_pop #[_,e,U] F.entry_list_pop (F.args_list_pop_1 _) (MeetsSeq.list_pop_last l its.toArray n u hy' (by rw[VQ];cbv)) #[e,?_];show#[y,_,I.D4 (its':=its.dropLast) hH e ?_ r.dropLast ?_,ru,q]
 .show its.toArray.eraseIdxIfInBounds (its.toArray.size - 1)=its.dropLast.toArray;rw[VQ,List.eraseIdxIfInBounds_toArray,xp]
 .rw[List.length_dropLast];cbv
def E8:V->!V->Hp->VK->Prop:=λx vs H Q=>∃ l xs i k y,x=.ref l/\vs=[.int i]/\H l=some (.lst xs)/\-(2 ^ 63)<=i/\i < 2 ^ 63/\seqIndex? i xs.length=some k/\xs[k]?=some y/\Q y (upd H l (.lst (xs.eraseIdx k)))
theorem pR:Ib X "list.pop" E8:=by
 intro TD s σ H x vs v us Q I rx rv h;let(l,xs,i,k,y,rfl,rfl,hH,h1,h2,hk,hy,q):=h;cases rx;let(u,rfl,ru):=rv.one;let(t,rfl):=ru;let(z,its,n,r,hl,e):=I.rL hH;let(w,hw,rw'):=r.get hy;show call_meets F.slot_list_pop #[_,e,U] F.entry_list_pop (F.args_list_pop_2 _ _)
  (MeetsSeq.list_pop_at l its.toArray n i t k w (fitsIndex_both h1 h2) (by rw[VQ,<- hl];exact hk) (by rw[<- Wg];exact hw) (by rw[VQ];cbv)) #[e,?_]
 show#[y,_,I.D4 (its':=its.eraseIdx k) hH e ?_ (r.eraseIdx k) ?_,rw',q]
 .show its.toArray.eraseIdxIfInBounds k=(its.eraseIdx k).toArray;rw[List.eraseIdxIfInBounds_toArray]
 .have:=sx xs k;cbv
def EC:V->!V->Hp->VK->Prop:=λx vs H Q=>∃ l xs,x=.ref l/\vs=[]/\H l=some (.lst xs)/\Q .cA (upd H l (.lst []))
theorem Fo:Ib X "list.clear" EC:=by
 intro TD s σ H x vs v us Q I rx rv h;let(l,xs,rfl,rfl,hH,q):=h;cases rx;have hus:=rv.zero;subst hus;let(z,its,n,r,hl,e):=I.rL hH;show call_meets F.slot_list_clear #[_,e,U] F.entry_list_clear (F.args_list_clear_1 _) (AutoSeq1.list_clear_list_0 l its.toArray n (by rw[VQ];cbv)) #[e,?_];exact#[.cA,_,I.D4 (its':=[]) (ys:=[]) hH e U .nil (VT _),U,q]
def Oc:R2:=λx y H Q=>∃ l b xs zs,x=.ref l/\y=.ref b/\H l=some (.lst xs)/\H b=some (.lst zs)/\xs.length+zs.length<=Ev/\∀ p,H p=none->Q (.ref p) (upd H p (.lst (xs++zs)))
theorem aR:ja X (Os .Add) Oc:=by
 intro TD s σ H x y v u Q I rx ry h;let(l,b,xs,zs,rfl,rfl,hH,hB,hz,q):=h;cases rx;cases ry;let(z,its,n,r,hl,e):=I.rL hH;let(z2,dM,n2,r2,AZ,e2):=I.rL hB;show PySem.P.add_list e e2 ?_ (by rw[VQ,VQ];cbv);have ea:its.toArray++dM.toArray=(its++dM).toArray:=by simp
 rw[ea];exact#[.ref _,_,I.Nn (t':=s.toks) (r.append r2) (by rw[Vw];cbv),U,q _ I.fresh]
end
section
variable{prog:Fk}{w:FB}{A:Fr}{E:Yb}{s:Cl}
end
section
variable{X:Cx}
end
section
variable{κ:Type}[DecidableEq κ]
def iw(kvs:!(κ×V))(k:κ):Option V:=(kvs.find? λkv=>decide (kv.1=k)).map (·.2)
def putK(kvs:!(κ×V))(k:κ)(v:V):!(κ×V) :=
 if (kvs.any λkv=>decide (kv.1=k))=true then kvs.map (λkv=>if kv.1=k then (kv.1,v) else kv) else kvs++[(k,v)]
theorem qT{k:κ}:iw ([]:!(κ×V)) k=none:=rfl
theorem gh{p:κ×V}{r:!(κ×V)}{k:κ}(e:p.1=k):iw (p::r) k=some p.2:=by simp[iw,List.find?_cons,e]
theorem dG{p:κ×V}{r:!(κ×V)}{k:κ}(e:¬ p.1=k):iw (p::r) k=iw r k:=by simp[iw,List.find?_cons,e]
theorem ph(k:κ):∀ kvs:!(κ×V),(kvs.any λkv=>decide (kv.1=k))=(iw kvs k).isSome
 | []=>rfl
 | p::r=>by
  rw[WM];by_cases e:p.1=k
  .simp only[gh e,decide_eq_true e,Bool.true_or,Option.isSome_some]
  .rw[dG e,decide_eq_false e,Bool.false_or];exact ph k r
theorem jv(kvs:!(κ×V))(k:κ)(v:V):(putK kvs k v).length<=kvs.length+1:=by
 unfold putK;split
 .rw[Vv];cbv
 .rw[Vw,VD,List.length_nil];cbv
theorem pJ{kvs:!(κ×V)}{k:κ}(v:V)(h:iw kvs k=none):putK kvs k v=kvs++[(k,v)]:=by
 unfold putK;rw[ph,h];exact if_neg ()
theorem oA.mT{o:Option V}{u:Option AC}(r:oA o u):o.isSome=u.isSome:=by
 cases o with
 | none=>cases u with
  | none=>rfl
  | some _=>exact (show False from r).elim
 | some _=>cases u with
  | none=>exact (show False from r).elim
  | some _=>rfl
theorem oA.getD{o:Option V}{u:Option AC}{d:V}{d':AC}(r:oA o u)(rd:RelV d d'):RelV (o.getD d) (u.getD d'):=by
 cases o with
 | none=>cases u with
  | none=>exact rd
  | some _=>exact (show False from r).elim
 | some _=>cases u with
  | none=>exact (show False from r).elim
  | some _=>exact r
theorem KV.val{kvs:!(κ×V)}{vs:!(κ×AC)}(r:KV kvs vs)(k:κ):oA (iw kvs k) (valueAt vs k):=by
 unfold KV at r
 induction r with
 | nil=>exact True.intro
 | @cons p q ps qs h t ih =>
  let(h1,h2):=h;by_cases e:p.1=k
  .have e':q.1=k:=h1.symm.trans e;have b:valueAt (q::qs) k=some q.2:=by simp[valueAt,List.find?_cons,e']
   rw[gh e,b];exact h2
  .have e':¬ q.1=k:=λz=>e (h1.trans z);have b:valueAt (q::qs) k=valueAt qs k:=by simp[valueAt,List.find?_cons,e']
   rw[dG e,b];exact ih
theorem KV.any{kvs:!(κ×V)}{vs:!(κ×AC)}(r:KV kvs vs)(k:κ):(kvs.any λkv=>decide (kv.1=k))=vs.any λkv=>decide (kv.1=k):=by
 unfold KV at r
 induction r with
 | nil=>rfl
 | cons h t ih=>rw[WM,WM,ih,h.1]
theorem KV.Jm{kvs:!(κ×V)}{vs:!(κ×AC)}(r:KV kvs vs)(k:κ){y:V}{u:AC}(ry:RelV y u) :
  KV (kvs.map λkv=>if kv.1=k then (kv.1,y) else kv) (vs.map λkv=>if kv.1=k then (kv.1,u) else kv):=by
 unfold KV at r ⊢
 induction r with
 | nil=>exact .nil
 | @cons p q ps qs h t ih =>
  rw[VE,VE];show .cons ?_ ih;let(h1,h2):=h;by_cases e:p.1=k
  .rw[if_pos e,if_pos (h1.symm.trans e)];exact#[h1,ry]
  .rw[if_neg e,if_neg (λz=>e (h1.trans z))];exact#[h1,h2]
theorem KV.put{kvs:!(κ×V)}{vs:!(κ×AC)}(r:KV kvs vs)(k:κ){y:V}{u:AC}(ry:RelV y u):KV (putK kvs k y) (stored vs k u):=by
 unfold putK stored;rw[r.any k];by_cases e:(vs.any λkv=>decide (kv.1=k))=true
 .rw[if_pos e,if_pos e];exact r.Jm k ry
 .rw[if_neg e,if_neg e];exact Paired.snoc r #[U,ry]
theorem KV.length{kvs:!(κ×V)}{vs:!(κ×AC)}(r:KV kvs vs):kvs.length=vs.length:=Paired.length r
end
theorem tJ{P:Fk}{w:FB}{k:Key}{u:AC}(r:RelV (kV k) u):(b9 P w).is k u=true:=by
 cases k with
 | inl i=>let(t,e):=(show ∃ t,u=AC.int i t from r);subst e;exact vU P w i t
 | inr x=>let(t,e):=(show ∃ t,u=AC.str x t from r);subst e;exact wX P w x t
theorem tU{P:Fk}{w:FB}:∀ {ks:!Key} {us:!AC},Vals (ks.map kV) us->ItemsAre (b9 P w) ks us
 | [],_,r=>by rw[Wj] at r;cases r;exact .nil
 | k::ks,_,r=>by
  rw[VE] at r;cases r with
  | cons h t=>exact .cons (tJ h) (tU t)
abbrev KT(H:Hp):!(!Key×V)->!(!Key×AT×AC)->Prop:=Paired λp q=>p.1=q.1/\H q.2.1=some (.tup (p.1.map kV))/\RelV p.2 q.2.2
theorem KT.val{H:Hp}{kvs:!(!Key×V)}{xs:!(!Key×AT×AC)}(r:KT H kvs xs)(k:!Key):oA (iw kvs k) ((atKey xs k).map (·.2)):=by
 induction r with
 | nil=>exact True.intro
 | @cons p q ps qs h t ih =>
  let(h1,_,h2):=h;by_cases e:p.1=k
  .have e':q.1=k:=h1.symm.trans e;have b:atKey (q::qs) k=some q.2:=by simp[atKey,List.find?_cons,e']
   rw[gh e,b];exact h2
  .have e':¬ q.1=k:=λz=>e (h1.trans z);have b:atKey (q::qs) k=atKey qs k:=by simp[atKey,List.find?_cons,e']
   rw[dG e,b];exact ih
theorem KT.Jm{H:Hp}{kvs:!(!Key×V)}{xs:!(!Key×AT×AC)}(r:KT H kvs xs)(k:!Key){y:V}{u:AC}(ry:RelV y u) :
  KT H (kvs.map λkv=>if kv.1=k then (kv.1,y) else kv) (xs.map (putAt k u)):=by
 induction r with
 | nil=>exact .nil
 | @cons p q ps qs h t ih =>
  rw[VE,VE];show .cons ?_ ih;let(h1,h2,h3):=h;unfold putAt;by_cases e:p.1=k
  .rw[if_pos e,if_pos (h1.symm.trans e)];exact#[h1,h2,ry]
  .rw[if_neg e,if_neg (λz=>e (h1.trans z))];exact#[h1,h2,h3]
theorem KT.put{H:Hp}{kvs:!(!Key×V)}{xs:!(!Key×AT×AC)}(r:KT H kvs xs)(k:!Key){b:AT}{y:V}{u:AC}(hb:H b=some (.tup (k.map kV)))(ry:RelV y u) :
  KT H (putK kvs k y) (storedH xs k b u):=by
 have e:(kvs.any λkv=>decide (kv.1=k))=(atKey xs k).isSome:=by
  rw[ph,(r.val k).mT,Option.isSome_map]
 unfold putK storedH;rw[e];by_cases q:(atKey xs k).isSome=true
 .rw[if_pos q,if_pos q];exact r.Jm k ry
 .rw[if_neg q,if_neg q];exact Paired.snoc r #[U,hb,ry]
theorem KT.keeps{H H':Hp}{kvs:!(!Key×V)}{xs:!(!Key×AT×AC)}(r:KT H kvs xs)(ht:∀ b ys,H b=some (.tup ys)->H' b=some (.tup ys)):KT H' kvs xs :=
 Paired.D6 r λ_ _ z=>#[z.1,ht _ _ z.2.1,z.2.2]
section
variable{P:Fk}{w:FB}{H:Hp}{h:Db}{a:AT}
theorem Ie{u:HO}(ok:mj P w H h)(e:Rd H a u):b6 P w H h a u:=e.ok ok
theorem uc{kvs:!(Key×V)}(ok:mj P w H h)(e:Rd H a (.dK kvs)):kvs.length<=Ev/\(a == P3)=false/\∃ vs,KV kvs vs/\h.DictOf (b9 P w) a vs :=
 show b6 P w H h a (.dK kvs) from Ie ok e
theorem HH{kvs:!(Key×V)}(ok:mj P w H h)(e:H a=some (.dK kvs)):kvs.length<=Ev/\(a == P3)=false/\∃ vs,KV kvs vs/\h.DictOf (b9 P w) a vs:=uc ok (.inl e)
theorem qq{ks:!Key}(ok:mj P w H h)(e:H a=some (.tup (ks.map kV))):(tupleKind (b9 P w)).is h ks a:=by
 let(_,its,r,o,h1,h2,n,h3):=(show b6 P w H h a (.tup (ks.map kV)) from ok a _ e);exact#[o,its.toArray,n,h1,h2,h3,by simpa using tU r]
theorem sY{kvs:!(!Key×V)}(ok:mj P w H h)(e:Rd H a (.dT kvs)):kvs.length<=Ev/\(a == P3)=false /\
  ∃ xs,KT H kvs xs/\h.DictOfH (tupleKind (b9 P w)) a xs:=by
 let(z,y,xs,r,o,es,ep,h1,h2,h3,h4,h5):=(show b6 P w H h a (.dT kvs) from Ie ok e);show#[z,y,xs,r,o,es,ep,h1,h2,h3,h4,λx hx=>?_,h5];have all:∀ {l:!(!Key×V)} {m:!(!Key×AT×AC)},KT H l m->∀ x∈m,(tupleKind (b9 P w)).is h x.1 x.2.1:=by
  intro l m q
  induction q with
  | nil=>intro x hx;exact nomatch hx
  | @cons p q ps qs hq t ih =>
   intro x hx;rcases VG.mp hx with e | hx
   .subst e;exact qq ok (by rw[<- hq.1];exact hq.2.1)
   .exact ih x hx
 exact all r x hx
theorem OO{kvs:!(!Key×V)}(ok:mj P w H h)(e:H a=some (.dT kvs)):kvs.length<=Ev/\(a == P3)=false /\
  ∃ xs,KT H kvs xs/\h.DictOfH (tupleKind (b9 P w)) a xs:=sY ok (.inl e)
end
def ie(H:Hp)(a:AT)(y:V)(r:Option V):Prop :=
 (∃ kvs k,Rd H a (.dK kvs)/\y=kV k/\r=iw kvs k)\/∃ kvs k b,Rd H a (.dT kvs)/\y=.ref b/\H b=some (.tup (k.map kV))/\r=iw kvs k
def mH(H:Hp)(a:AT)(y v:V)(H':Hp):Prop :=
 (∃ kvs k,H a=some (.dK kvs)/\y=kV k/\kvs.length < Ev/\H'=upd H a (.dK (putK kvs k v))) \/
 ∃ kvs k b,H a=some (.dT kvs)/\y=.ref b/\H b=some (.tup (k.map kV))/\kvs.length < Ev/\H'=upd H a (.dT (putK kvs k v))
theorem ie.k{H:Hp}{a:AT}{kvs:!(Key×V)}{k:Key}(e:H a=some (.dK kvs)):ie H a (kV k) (iw kvs k):=.inl #[kvs,k,.inl e,U,U]
theorem ie.t{H:Hp}{a b:AT}{kvs:!(!Key×V)}{k:!Key}(e:H a=some (.dT kvs))(eb:H b=some (.tup (k.map kV))):ie H a (.ref b) (iw kvs k):=.inr #[kvs,k,b,.inl e,U,eb,U]
theorem mH.k{H:Hp}{a:AT}{kvs:!(Key×V)}{k:Key}{v:V}(e:H a=some (.dK kvs))(hl:kvs.length < Ev):mH H a (kV k) v (upd H a (.dK (putK kvs k v))):=.inl #[kvs,k,e,U,hl,U]
theorem mH.t{H:Hp}{a b:AT}{kvs:!(!Key×V)}{k:!Key}{v:V}(e:H a=some (.dT kvs))(eb:H b=some (.tup (k.map kV)))(hl:kvs.length < Ev) :
  mH H a (.ref b) v (upd H a (.dT (putK kvs k v))):=.inr #[kvs,k,b,e,U,eb,hl,U]
section
variable{X:Cx}{TD:Yc}{σ:St}{H:Hp}{s:Cl}{a:AT}{y v:V}{u r:AC}{o:Option V}{A:Fr}{E:Yb}
theorem Inv.big(I:Inv X TD σ H s):P3 < ↑s:=by
 have h:GM < ↑s:=(I.mod.glob.keeps I.bk).lt;exact Nat.lt_trans () h
theorem AQ{Q:Yb}(hu:A.units+1 < cLine)(I:Inv X TD σ H s)(g:ie H a y (some v))(ry:RelV y u)(h:∀ w' s',Inv X TD σ H s'->RelV v w'->Q w' s') :
  Da (model X.prog X.w) A (getItem (.ref a) u) Q E s:=by
 rcases g with ⟨kvs,k,e,ey,l⟩ | ⟨kvs,k,b,e,ey,eb,l⟩
 .subst ey;let(z,hd,vs,rel,dd):=uc I.aZ e;let(w',hw,rw'):=oA.some_of (v:=v) (o:=valueAt vs k) (by rw[l];exact rel.val k);exact wpAny_getItem_of (tJ ry) dd.mapOf hw (h w' _ (I.tok _) rw')
 .subst ey;cases (show u=AC.ref b from ry);let(z,hd,xs,rel,dd):=sY I.aZ e;let(w',hw,rw'):=oA.some_of (v:=v) (o:=(atKey xs k).map (·.2)) (by rw[l];exact rel.val k);let(p,hp,hp2):=Wb.mp hw;show wpAny_getItem_heap (tupleKind_room_in1 hu) (qq I.aZ eb) dd hp ?_;rw[hp2];exact h w' _ (I.tok _) rw'
theorem QO{Q:Yb}(hu:A.units+1 < cLine)(I:Inv X TD σ H s)(g:ie H a y o)(ry:RelV y u)(h:∀ s',Inv X TD σ H s'->Q (.bool o.isSome) s') :
  Da (model X.prog X.w) A (KB .In u (.ref a)) Q E s:=by
 rcases g with ⟨kvs,k,e,ey,l⟩ | ⟨kvs,k,b,e,ey,eb,l⟩
 .subst ey;let(z,hd,vs,rel,dd):=uc I.aZ e;show wpAny_in_of (tJ ry) hd dd.mapOf ?_;rw[<- (rel.val k).mT,<- l];exact h _ (I.tok _)
 .subst ey;cases (show u=AC.ref b from ry);let(z,hd,xs,rel,dd):=sY I.aZ e;show wpAny_in_heap (tupleKind_room_in1 hu) (qq I.aZ eb) hd dd ?_;have q:=(rel.val k).mT;rw[Option.isSome_map] at q;rw[<- q,<- l];exact h _ (I.tok _)
theorem uZ{h':Db}{t':Nat}{ob:HO}(I:Inv X TD σ H s)(mu:Mk (H a))(hs:Db.SameBut a s.heap h')(he:∃ q,h'.get? a=some q)(new:b6 X.prog X.w (upd H a ob) h' a ob) :
  Inv X TD σ (upd H a ob) { s with heap:=h',toks:=t' } :=
 I.write (x:=a) (e:=a) mu (.inl U) (λb q hb z=>(hs.2 b hb).trans z) he new
theorem Ee{P:Fk}{w:FB}{H':Hp}{h':Db}{kvs:!(Key×V)}{vs:!(Key×AC)}(z:kvs.length<=Ev)(hd:(a == P3)=false)(rel:KV kvs vs)(dd:h'.DictOf (b9 P w) a vs) :
  b6 P w H' h' a (.dK kvs):=#[z,hd,vs,rel,dd]
theorem A6{H':Hp}{Q:Unit->Cl->Prop}(hu:A.units+1 < cLine)(I:Inv X TD σ H s)(g:mH H a y v H')(ry:RelV y u)(rv:RelV v r)(h:∀ s',Inv X TD σ H' s'->Q Unit.unit s') :
  Da (model X.prog X.w) A (setItem (.ref a) u r) Q E s:=by
 rcases g with ⟨kvs,k,e,ey,l,eH⟩ | ⟨kvs,k,b,e,ey,eb,l,eH⟩
 .subst ey eH;let(z,hd,vs,rel,dd):=HH I.aZ e;have hz:vs.length<=Ev:=by rw[<- rel.length];exact z
  have hl:(putK kvs k v).length<=Ev:=by have:=jv kvs k v;cbv
  show wpAny_setItem_pairs (hsz:=hz) (tJ ry) dd λh' dd' hs=>h _ ?_;have he:∃ q,h'.get? a=some q:=let #[q,_,_,hq,_]:=dd';#[q,hq];exact uZ I (by rw[e];exact True.intro) hs he (Ee hl hd (rel.put k rv) dd')
 .subst ey eH;cases (show u=AC.ref b from ry);let(z,hd,xs,rel,dd):=OO I.aZ e;have hz:xs.length<=Ev:=by rw[<- Paired.length rel];exact z
  have hl:(putK kvs k v).length<=Ev:=by have:=jv kvs k v;cbv
  show wpAny_setItem_heap (hsz:=hz) (tupleKind_room_in1 hu) (qq I.aZ eb) dd λh' dd' hs=>h _ ?_;let(q,es,ep,hq,h2,h3,h4,_,h5):=dd';show uZ I (by rw[e];exact True.intro) hs #[q,hq] #[hl,hd,_,(rel.put k eb rv).keeps λc ys ec=>?_,q,es,ep,hq,h2,h3,h4,h5];rw[aw (HY ec e (λz=>nomatch z))];exact ec
end
section
variable{X:Cx}{TD:Yc}{σ:St}{H:Hp}{s:Cl}{a:AT}{kvs:!(Key×V)}{k:Key}{u:AC}{A:Fr}{E:Yb}
end
def Nf(i:Ch):Prop:=∀ ov iv,subscripted i false ov iv=operate [ov,iv] (getItem ov iv)
theorem GF{prog:Fk}{w:FB}{A:Fr}{E:Yb}{s:Cl}{env:Env}{value slice:Ch}{pos:Pos}{T id:String}{Q:Yb}(hl:typeLookup (.type T) "__getitem__"=pure (some (.builtin id)))(hs:Nf slice)(h:Da (model prog w) A (eval value env) (λo s₁=>Da (model prog w) A (eval slice env) (λi s₂=>s₂.TypeIs o T/\Da (model prog w) A (getItem o i) Q E s₂) E s₁) E s) :
  Da (model prog w) A (eval (.Subscript value slice pos) env) Q E s:=by
 show Subscript_ (KM h (λo s₁ h₁=>KM h₁ (λi s₂ h₂=>?_) λ_ _ x=>x) λ_ _ x=>x);let(hT,h₂):=h₂;unfold subscriptTail;show BT ?_;rw[getitemInPython_of_ne hT.not_modules];show BT (wpAny_specialOf hT hl ?_);have fin:Da (model prog w) A (subscripted slice false o i) (λr s₃=>Da (model prog w) A (letTemporaryGo value o r >>= λ_=>pure r) Q E s₃) E s₂:=by
  rw[hs o i];exact wpAny_operating (KM h₂ (λr s₃ h₃=>BT (wpAny_letTemporaryGo (EQ h₃))) λ_ _ x=>x)
 first
  | exact EQ (BT fin)
  | exact BT (EQ (BT fin))
  | exact BT fin
theorem wO{X:Cx}{TD:Yc}{σ:St}{H:Hp}{s:Cl}{a:AT}{y:V}{o:Option V}(I:Inv X TD σ H s)(g:ie H a y o):s.TypeIs (.ref a) "dict":=by
 rcases g with ⟨kvs,k,e,_,_⟩ | ⟨kvs,k,b,e,_,_,_⟩
 .let(_,_,vs,_,dd):=uc I.aZ e;exact dd.typeIs
 .let(_,_,xs,_,dd):=sY I.aZ e;exact dd.typeIs
def lj(td ty:TE):TE:=λσ H Q=>td σ H λx H1=>ty σ H1 λy H2=>∃ a v,x=.ref a/\ie H2 a y (some v)/\Q v H2
def O0(ty td:TE):TE:=λσ H Q=>ty σ H λy H1=>td σ H1 λx H2=>∃ a o,x=.ref a/\ie H2 a y o/\Q (.bl o.isSome) H2
def vX(td ty tv:TE):TS:=λD σ H=>tv σ H λv H1=>td σ H1 λx H2=>ty σ H2 λy H3=>∃ a H4,x=.ref a/\mH H3 a y v H4/\D.nx σ H4
section
variable{X:Cx}{o i e value:Ch}{pos pos' mV:Pos}{td ty tv:TE}
theorem bP(hu:X.A.units+1 < cLine)(ho:PE X o td)(hi:PE X i ty)(hs:Nf i):PE X (.Subscript o i pos) (lj td ty):=by
 intro TD s σ H Q I h;show GF PySem.F.slot_dict_getitem.lookup hs (b3 (ho TD s σ H _ I h) λu s1 zz=>el2 zz λx H1 I1 rx q1=>b3 (hi TD s1 σ H1 _ I1 q1) λiv s2 z4q=>?_);let(y,H2,I2,ry,a,v,ex,g,q2):=z4q;subst ex;obtain rfl:u=AC.ref a:=rx;exact#[wO I2 g,AQ hu I2 g ry λw' s3 I3 rw'=>#[v,H2,I3,rw',q2]]
theorem LH(hu:X.A.units+1 < cLine)(hi:PE X i ty)(ho:PE X o td):PC X .In i o (O0 ty td):=by
 intro TD s σ H Q I h;show b3 (hi TD s σ H _ I h) λiv s1 zz=>el2 zz λy H1 I1 ry q1=>b3 (ho TD s1 σ H1 _ I1 q1) λu s2 z5q=>?_;let(x,H2,I2,rx,a,ov,ex,g,q2):=z5q;subst ex;obtain rfl:u=AC.ref a:=rx;exact QO hu I2 g ry λs3 I3=>#[.bl ov.isSome,H2,I3,U,q2]
theorem iZ(hu:X.A.units+1 < cLine)(ho:PE X o td)(hi:PE X i ty)(hv:PE X value tv)(hs:swapsWith value (some (.Subscript o i pos')) pos.line X.env=pure false) :
  PS X (.Assign [.Subscript o i pos'] value pos) (vX td ty tv):=by
 intro TD s σ H D I h;show wpAny_Assign_Subscript (b3 (hv TD s σ H _ I h) λr s1 zz=>el2 zz λv H1 I1 rv q1=>b3 (ho TD s1 σ H1 _ I1 q1) λu s2 zz=>el2 zz λx H2 I2 rx q2=>b3 (hi TD s2 σ H2 _ I2 q2) λiv s3 #[y,H3,I3,ry,a,H4,ex,g,q3]=>?_) hs;subst ex;obtain rfl:u=AC.ref a:=rx;exact A6 hu I3 g ry rv λs4 I4=>#[σ,H4,I4,q3]
end
theorem EO{P:Fk}{w:FB}{H:Hp}(h:Db)(hb:P3 < h.objs.size):b6 P w H (h.push { cls:=.type "dict",data:=.dict #v[] }) h.objs.size (.dK []) :=
 #[VT _,beq_eq_false_iff_ne.mpr (Ne.symm (VW hb)),[],.nil,Db.DictOf.new h]
theorem ES{P:Fk}{w:FB}{H:Hp}(h:Db)(hb:P3 < h.objs.size):b6 P w H (h.push { cls:=.type "dict",data:=.dict #v[] }) h.objs.size (.dT []) :=
 #[VT _,beq_eq_false_iff_ne.mpr (Ne.symm (VW hb)),[],.nil,_,#v[],0,VP _ U,#[U,U,U],U,U,List.nodup_nil]
def JC:TE:=λ_ H Q=>∀ p,H p=none->Q (.ref p) (upd H p (.dT []))
section
variable{X:Cx}{pos:Pos}
theorem EV:PE X (.Dict [] [] pos) JC:=λTD s σ H Q I h =>
 wpAny_Dict_empty #[.ref ↑s,_,I.laid (a:=↑s) (o:=.dT []) (t':=s.toks) (λ_ _ q=>Vz _ q) (VB _) (ES s.heap I.big),U,h _ (I.aZ.fresh (VB _))]
end
def pD:!(TE×TE)->St->Hp->(!(V×V)->Hp->Prop)->Prop
 | [],_,H,Q=>Q [] H
 | (tk,tv)::r,σ,H,Q=>tk σ H λx H1=>tv σ H1 λy H2=>pD r σ H2 λps H3=>Q ((x,y)::ps) H3
abbrev VV:!(V×V)->!(AC×AC)->Prop:=Paired λp q=>RelV p.1 q.1/\RelV p.2 q.2
def N4(X:Cx)(pos:Pos)(keys:!(Option Ch))(values:!Ch)(Gz:!(TE×TE)):Prop :=
 ∀ (TD:Yc) (s:Cl) (σ:St) (H:Hp) (Q:!(V×V)->Hp->Prop),Inv X TD σ H s->pD Gz σ H Q ->
  Da (model X.prog X.w) X.A (evalPairs (pairTrees keys values X.env pos)) (λvs s'=>∃ ps H',Inv X TD σ H' s'/\VV ps vs/\Q ps H') X.xe s
theorem yA{X:Cx}{pos:Pos}:N4 X pos [] [] []:=λTD s σ H Q I h=>pairTrees_nil_walk #[[],H,I,.nil,h]
theorem mB{X:Cx}{pos:Pos}{k v:Ch}{ks:!(Option Ch)}{vs:!Ch}{tk tv:TE}{Gz:!(TE×TE)}(hk:PE X k tk)(hv:PE X v tv)(hr:N4 X pos ks vs Gz) :
  N4 X pos (some k::ks) (v::vs) ((tk,tv)::Gz):=λTD s σ H Q I h =>
 pairTrees_cons_walk (b3 (hk TD s σ H _ I h) λu s1 zz=>el2 zz λx H1 I1 rx q1=>b3 (hv TD s1 σ H1 _ I1 q1) λw2 s2 zz=>el2 zz λy H2 I2 ry q2 =>
  b3 (hr TD s2 σ H2 _ I2 q2) λws s3 zz=>el2 zz λps H3 I3 rel q3=>#[(x,y)::ps,H3,I3,.cons #[rx,ry] rel,q3])
def gZ(kvs more:!(Key×V)):!(Key×V):=more.foldl (λacc kv=>putK acc kv.1 kv.2) kvs
theorem KV.merge:∀ {more:!(Key×V)} {rs:!(Key×AC)} {kvs:!(Key×V)} {vs:!(Key×AC)},KV more rs->KV kvs vs->KV (gZ kvs more) (merged vs rs):=by
 intro more rs kvs vs r;unfold KV at r
 induction r generalizing kvs vs with
 | nil=>intro q;exact q
 | @cons p q ps qs h t ih =>
  intro r0;have e:KV (putK kvs p.1 p.2) (stored vs q.1 q.2):=by
   have:=r0.put p.1 h.2;rw[<- h.1];exact this
  exact ih e
theorem kE:∀ (more kvs:!(Key×V)),(gZ kvs more).length<=kvs.length+more.length
 | [],kvs=>by change kvs.length<=kvs.length+0;cbv
 | p::r,kvs=>by
  have h1:=kE r (putK kvs p.1 p.2);have h2:=jv kvs p.1 p.2;change (gZ (putK kvs p.1 p.2) r).length<=_;rw[VD];cbv
theorem qz{P:Fk}{w:FB}:∀ {kvs:!(Key×V)} {ws:!(AC×AC)},VV (kvs.map λkv=>(kV kv.1,kv.2)) ws->∃ rs,Carries (b9 P w) ws rs/\KV kvs rs
 | [],_,r=>by rw[Wj] at r;cases r;exact#[[],True.intro,.nil]
 | p::kvs,_,r=>by
  rw[VE] at r;cases r with
  | @cons a b as bs h t =>
   let(rs,c,q):=qz (P:=P) (w:=w) t;let(b1,b2):=b;exact#[(p.1,b2)::rs,#[tJ h.1,U,c],.cons #[U,h.2] q]
def HZ(Gz:!(TE×TE)):TE:=λσ H Q=>∀ p,H p=none->pD Gz σ (upd H p (.dK [])) λps H2=>H2 p=some (.dK [])/\∃ kvs:!(Key×V),ps=kvs.map (λkv=>(kV kv.1,kv.2))/\kvs.length<=15/\Q (.ref p) (upd H2 p (.dK (gZ [] kvs)))
theorem zW{X:Cx}{pos:Pos}{keys:!(Option Ch)}{values:!Ch}{Gz:!(TE×TE)}(h:N4 X pos keys values Gz)(DH:keys.all (·.isSome)=true)(hl:keys.length=values.length)(h0:keys≠[])(LY:keys.length<=15):PE X (.Dict keys values pos) (HZ Gz):=by
 intro TD s σ H Q I q;have hn:=I.aZ.fresh (VB ↑s);have I1:=I.laid (a:=↑s) (o:=.dK []) (h':=s.heap.push { cls:=.type "dict",data:=.dict #v[] }) (t':=s.toks) (λ_ _ q=>Vz _ q) (VB _) (EO s.heap I.big);show wpAny_Dict_walk (knd:=b9 X.prog X.w) DH hl h0 LY (b3 (h TD _ σ _ _ I1 (q _ hn)) λws s2 z6q=>?_);let(ps,H2,I2,rel,e,kvs,ep,lk,q2):=z6q;subst ep;let(rs,c,rk):=qz (P:=X.prog) (w:=X.w) rel;let(z,hd,vs0,r0,dd):=HH I2.aZ e;cases r0;show#[rs,c,dd,λh' dd' hs=>#[.ref ↑s,_,?_,U,q2]];have hz:(gZ [] kvs).length<=Ev:=by
  have h1:=kE kvs [];rw[List.length_nil] at h1;rw[sizeLine_eq];cbv
 have he:∃ q,h'.get? ↑s=some q:=let #[q,_,_,hq,_]:=dd';#[q,hq];exact uZ I2 (by rw[e];exact True.intro) hs he (Ee hz hd (rk.merge .nil) dd')
structure M2(X:Cx)(o:Ch)(m:Str)(apos:Pos)(e f:Ch)(bV:Pos):Prop where
 base:attributeBase o m X.env (eval o X.env)=eval o X.env
 IG:((Go bV (GE [e,f] X.env)).all (λx=>(not x.1))&&(Rs bV (SL [] X.env)).all (λx=>x.1.isSome)
  && decide (([e,f]:!Ch).length+([]:!NE).length+(if ([]:!NE).isEmpty then 0 else 1) < 30))=true
 line:(apos.endLine == bV.line)=true
 trees:Go bV (GE [e,f] X.env)=[(false,eval e X.env),(false,eval f X.env)]
def Q3(H:Hp)(a:AT):Prop:=(∃ kvs,Rd H a (.dK kvs))\/∃ kvs,Rd H a (.dT kvs)
theorem JR{X:Cx}{TD:Yc}{σ:St}{H:Hp}{s:Cl}{a:AT}(I:Inv X TD σ H s)(d:Q3 H a) :
  s.TypeIs (.ref a) "dict"/\(∀ b,AC.ref a=.ref b->∃ ob,s.heap.get? b=some ob/\ob.dict=none)/\(a == P3)=false:=by
 rcases d with ⟨kvs,e⟩ | ⟨kvs,e⟩
 .let(_,hd,vs,_,dd):=uc I.aZ e;show#[dd.typeIs,λb q=>?_,hd];cases q;let(ob,_,_,h1,h2,_):=dd;exact#[ob,h1,h2.2.1]
 .let(_,hd,xs,_,dd):=sY I.aZ e;show#[dd.typeIs,λb q=>?_,hd];cases q;let(ob,_,_,h1,h2,_):=dd;exact#[ob,h1,h2.2.1]
section
variable{X:Cx}{TD:Yc}{σ:St}{H:Hp}{s:Cl}{a:AT}{y d:V}{u r:AC}{o:Option V}{A:Fr}{E:Yb}
theorem JZ{Q:Yb}(hu:A.units+1 < cLine)(I:Inv X TD σ H s)(g:ie H a y o)(ry:RelV y u)(rd:RelV d r)(h:∀ w' s',Inv X TD σ H s'->RelV (o.getD d) w'->Q w' s') :
  Da (model X.prog X.w) A (call (.builtin "dict.get") [.ref a,u,r]) Q E s:=by
 rcases g with ⟨kvs,k,e,ey,l⟩ | ⟨kvs,k,b,e,ey,eb,l⟩
 .subst ey;let(z,hd,vs,rel,dd):=uc I.aZ e;show call_meetsIn X3 dd.typeIs PySem.F.entry_dict_get (PySem.F.args_dict_get_3 _ _ _) (meets_dict_get_default (b9 X.prog X.w) a (tJ ry) hd r) #[_,dd.mapOf,h _ _ (I.tok _) ?_];rw[l];exact (rel.val k).getD rd
 .subst ey;cases (show u=AC.ref b from ry);let(z,hd,xs,rel,dd):=sY I.aZ e;show call_meetsIn X3 dd.typeIs PySem.F.entry_dict_get (PySem.F.args_dict_get_3 _ _ _) (meetsH_dict_get_default (tupleKind (b9 X.prog X.w)) a b hd r) #[tupleKind_room_in1 hu,k,xs,qq I.aZ eb,dd,h _ _ (I.tok _) ?_];rw[l];exact (rel.val k).getD rd
end
def xi(td ty tx:TE):TE:=λσ H Q=>td σ H λx H1=>∃ a,x=.ref a/\Q3 H1 a/\ty σ H1 λy H2=>tx σ H2 λz H3=>∃ o,ie H3 a y o/\Q (o.getD z) H3
section
variable{X:Cx}{o e f:Ch}{apos bV:Pos}{td ty tx:TE}
theorem vR(hu:X.A.units+1 < cLine)(ho:PE X o td)(he:PE X e ty)(hf:PE X f tx)(m:M2 X o "get" apos e f bV):PE X (.Call (.Attribute o "get" apos) [e,f] [] bV) (xi td ty tx):=by
 intro TD s σ H Q I h;show wpAny_Call_method m.base m.IG m.line PySem.F.plainAttrs_dict X3 PySem.F.type_dict_get (b3 (ho TD s σ H _ I h) λu s1 #[x,H1,I1,rx,a,ex,d,q1]=>?_);subst ex;obtain rfl:u=AC.ref a:=rx;let(t1,t2,_):=JR I1 d;show#[t1,t2,?_];rw[m.trees];show Calls.callWith_builtin U (Calls.evalArgs_plain (Calls.spliced_cons (b3 (he TD s1 σ H1 _ I1 q1) λiv s2 zz=>el2 zz λy H2 I2 ry q2 =>
  Calls.spliced_cons (b3 (hf TD s2 σ H2 _ I2 q2) λfv s3 #[z,H3,I3,rz,ov,g,q3]=>Calls.spliced_nil ?_))))
 exact JZ hu I3 g ry rz λw' s4 I4 rw'=>#[_,H3,I4,rw',q3]
end
section
variable{X:Cx}{TD:Yc}{σ:St}{H:Hp}{s:Cl}{a:AT}{kvs:!(Key×V)}{A:Fr}{E:Yb}
end
section
variable{X:Cx}{TD:Yc}{σ:St}{H:Hp}{s:Cl}{a:AT}{y:V}{u:AC}{A:Fr}{E:Yb}
end
end L2
namespace S3
open PySem PySem.W PySem.Calls PyProof.Rows
theorem om{P:SZ}{h:Db}:∀ (ns:!Int) (vs:!AC),WellAll P h vs (ns.map WData.int)->IntsAre vs ns:=by
 intro ns
 induction ns with
 | nil =>
  intro vs w;rw[Wj] at w;cases w;exact .nil
 | cons n ns ih =>
  intro vs w;rw[VE] at w;cases w with
  | cons a b =>
   cases a;exact .cons _ _ (ih _ b)
theorem AG{l:OpenLaw}{n:Nat}(hn:l.most=some n){P:SZ}{h:Db}{args:!WData}{vals:!AC}(uB:l.row.toRowW.claim.pre args=true)(rj:WellAll P h vals args) :
  ∃ a vs ns,vals=[AC.ref a]/\args=[WData.list (ns.map WData.int)]/\h.get? a=some { cls:=.type "list",data:=.seq vs.toArray }/\IntsAre vs ns/\ns.length<=n:=by
 have hsh:WShape.hasAll [] args [.list .int]=true:=(pre_splitW uB).1;have hc:l.pre.holds [] { args:=args }=true:=(pre_splitW uB).2;let(d,r,rfl,h1,h2):=hasAllW_cons hsh;obtain rfl:=hasAllW_nil h2;let(xs,rfl,h3):=hasW_list h1;let(ns,rfl):=items_int h3;have hlen:ns.length<=n:=by
  unfold OpenLaw.pre at hc;have h4:(WTm.not (.lt (.lit (.int (n:Int))) (.len (.arg 0)))).holds [] { args:=[.list (ns.map .int)] }=true:=by
   have h4:=(holds_andW hc).1;rw[hn] at h4;exact h4
  have h5:=condW_of h4 (w_not (w_lt w_lit (w_len_list (w_arg U))));rw[Vv] at h5;show Xu λq=>?_;have q':(n:Int) < ((ns.length:Nat):Int):=by cbv
  first
   | (rw[decide_eq_true q'] at h5;exact absurd h5 ())
   | (simp at h5;cbv)
 cases rj with
 | cons w1 w2 =>
  cases w2;cases w1 with
  | list ho DH=>exact#[_,_,ns,U,U,ho,om ns _ DH,hlen]
theorem AW(l:OpenLaw)(args:!WData):l.row.toRowW.claim.post args (.bool true) args=true :=
 postW_of (r:=l.row.toRowW) (X:=(true == true))
  (show WShape.has [] (.bool true) .bool=true by first | rfl | decide | simp[WShape.has,WShape.arms,WShape.armsAll])
  (show (WTm.eq .res (.lit (.bool true))).value [] { args:=args,res:=some (.bool true),after:=args }=some (.bool (true == true)) from w_eq_bool (w_res U) w_lit) U
theorem vI{l:OpenLaw}{n:Nat}{q:Fk}{loose:!Str}{XP:(Str->Option AC)->Db->Prop}{YP:FB->Db->Prop}{d:DefRec}(hn:l.most=some n)(OD:d.params.defaults=[])(call:∀ (w:FB) (s₀ s₁:Cl) (mg mb:Str->Option AC) (fa:AT) (o:Obj) (pm cd doc:AC) (a:AT) (vs:!AC) (ns:!Int),
   Ground q loose [] XP w s₀ mg mb s₁.heap->YP w s₁.heap ->
   s₁.heap.get? fa=some o->o.data=.func (docDef d.name d.params d.body d.scope pm cd doc)->s₁.heap.CodeRec cd d.name->mg d.name=some (.ref fa) ->
   s₁.heap.get? a=some { cls:=.type "list",data:=.seq vs.toArray }->IntsAre vs ns->ns.length<=n->s₁.gens=#v[] ->
   codeAny (model l.prog w) callerA (.call (.ref fa) #[[.ref a],[]]) (λr s'=>r=.ok (.ret (.bool true))/\OldK s₁.heap s'.heap/\s'.os=s₁.os/\AllBare s'.gens) s₁) :
  WalkO q loose XP YP l.row.toRowW d [] (λf vs=>PySem.call f vs):=by
 intro w s₀ s₁ mg mb G Y fa o pm cd doc dV kV ho hd uY hD hmg hg args vals as uB hlay hrd rj hlo;obtain rfl:dV=.none:=Dflts.none hD OD;obtain rfl:kV=.none:=Dflts.noKw hD;let(a,vs,ns,rfl,rfl,hobj,hints,hlen):=AG hn uB rj;show enter_call (codeAny_mono (call w s₀ s₁ mg mb fa o pm cd doc a vs ns G Y ho (fd_plain hd) uY hmg hobj hints hlen hg) λr s' hq=>?_);let(rfl,h2,h3,h4):=hq;exact#[.inl #[.bool true,.bool true,[],U,λ_=>rfl,.bool true,AW l _,λ_=>#[List.Pairwise.nil,λ_ hm=>(nomatch hm)]],h2,h3,h4]
section
variable{prog:Fk}{w:FB}{A:Fr}{E:Yb}{s:Cl}{K:Frag}
end
end S3
namespace L2
open PySem PySem.Spec PyProof.Rows
theorem tW:∀ {vs:!AC} {ns:!Int},IntsAre vs ns->Vals (ns.map V.int) vs
 | _,_,.nil=>.nil
 | _,_,.cons n t h=>.cons #[t,U] (tW h)
def Ky(H:Hp):Prop:=∀ b,H b=none\/∃ o xs,H b=some (.fB o (.lst xs))
theorem Cq{P:Fk}{w:FB}{K:Frag}{mg mb:Str->Option AC}{CX:Ak}{k:Nat}{fa a:AT}{fd:Ix}{x:Str}{sp:Sp}{s₁:Cl}{vs:!AC}{ns:!Int}(KX:K.In s₁.heap)(oo:s₁.heap.Ns GM mg)(hb:s₁.heap.Ns builtinsNs mb)(Ul:∀ x:Str,x≠"__name__"->mb x=bootBuiltins x)(Qw:s₁.heap.NoLimit)(hg:s₁.gens=#v[])(ha:s₁.heap.get? a=some { cls:=.type "list",data:=.seq vs.toArray })(hi:IntsAre vs ns)(hl:ns.length<=Ev)(hr:dE k callerA)(F:∀ base:Db,K.In base->base.Ns GM mg->eV P w K mg base CX k fa fd [x] sp)(OQ:∀ (s:Cl) (u:AC),BindsTo s fd #[[u],[]] [(x,u)])(Ik:∀ H:Hp,Ky H->eM K H a (ns.map V.int)->sp [.ref a] H (λv _=>v=.bl true) λ_ _ _=>False)(RP:∀ H e s',CX [] H s₁ (λ_ _ _=>False) e s'->False) :
  codeAny (model P w) callerA (.call (.ref fa) #[[.ref a],[]]) (λr s'=>r=.ok (.ret (.bool true))/\OldK s₁.heap s'.heap/\s'.os=s₁.os/\AllBare s'.gens) s₁:=by
 have rv:=tW hi;have lenV:=hi.length
 -- from an abstract heap in which nothing but the script may be tracked
 have core:∀ H:Hp,Ky H->eM K H a (ns.map V.int)->mj P w H s₁.heap->(∀ b,H b≠none->b=a)->(H a≠none->K.lookup a=none) ->
   codeAny (model P w) callerA (.call (.ref fa) #[[.ref a],[]]) (λr s'=>r=.ok (.ret (.bool true))/\OldK s₁.heap s'.heap/\s'.os=s₁.os/\AllBare s'.gens) s₁:=by
  intro H hO hS aZ hA hK;have base_of:∀ {b:AT} {o:Obj},s₁.heap.get? b=some o->H b=none->(uO s₁.heap H).get? b=some o:=λe n=>EI e n;have noA:∀ {b:AT} {o:Obj} {es:Array Sc} {ep:Nat},s₁.heap.get? b=some o->o.data=.dict es ep->H b=none:=λ{b o es ep} e d=>by
   cases q:H b with
   | none=>rfl
   | some u =>
    have e':b=a:=hA b (by rw[q];simp);subst e';rw[ha] at e;cases e;have d':Data.seq vs.toArray _=Data.dict es ep:=d;cases d'
  have nsK:∀ {b:AT} {m:Str->Option AC},s₁.heap.Ns b m->(uO s₁.heap H).Ns b m:=λ{b m} #[o,es,ep,e,d,r]=>#[o,es,ep,base_of e (noA e d),d,r];have hKb:K.In (uO s₁.heap H):=λb o e=>base_of (KX b o e) (by
   cases q:H b with
   | none=>rfl
   | some u =>
    have e':b=a:=hA b (by rw[q];simp);subst e';rw[hK (by rw[q];simp)] at e;cases e)
  have hM:Mod K mg (uO s₁.heap H):=#[hKb,nsK oo,#[mb,nsK hb,Ul],let #[mc,h1,h2]:=Qw;#[mc,nsK h1,h2]];have e0:Gm P w K mg (uO s₁.heap H) callerA [] s₁ H:=#[U,hM,λb o e=>GI e,Nat.le_of_eq (A8 _ _),trivial,λb hb=>absurd (show b∈([]:!AT) from hb) (by simp),aZ,.of_eq hg];show codeAny_mono ((F _ hKb (nsK oo)).run callerA [] s₁ H #[[.ref a],[]] [.ref a] [.ref a] _ _ hr e0 (OQ s₁ (.ref a)) (.cons U .nil) (Ik H hO hS)) λr s' h=>?_;cases r with
  | error e=>exact (RP H e s' h).elim
  | ok fl =>
   cases fl with
   | next=>exact False.elim h
   | brk=>exact False.elim h
   | cont=>exact False.elim h
   | ret u =>
    let(v,H',os,bare,un,hok',r',q):=h;have q':v=.bl true:=q;subst q';obtain rfl:u=AC.bool true:=r';show#[U,OldK.of_keep λb o e=>?_,os,bare];cases q:H b with
    | none=>exact un.keep b o e q (by intro z;exact absurd (show b∈([]:!AT) from z) (by simp)) (by simp)
    | some u =>
     rcases hO b with z | ⟨ob,xs,z⟩
     .rw[q] at z;cases z
     .have z2:=un.vn b ob _ z;let(e1,_):=aZ b _ z;let(e2,_):=hok' b _ z2;rw[e] at e1;cases e1;exact e2
 cases hk:K.lookup a with
 | some o =>
  -- the script is one of the module's own objects
  have e:=KX a o hk;rw[ha] at e;cases e;show core (λ_=>none) (λ_=>.inl U) (.inr #[_,vs.toArray,_,hk,U,U,U,by rw[List.size_toArray,lenV];exact hl,by simpa using rv]) (λb u z=>by have z':(none:Option HO)=some u:=z;cases z') (λb z=>absurd U z) λz=>absurd U z
 | none =>
  show core (λb=>if b=a then some (.fB { cls:=.type "list",data:=.seq vs.toArray } (.lst (ns.map V.int))) else none) (λb=>?_) (.inl (.inr #[{ cls:=.type "list",data:=.seq vs.toArray },if_pos U])) (λb u z=>?_) (λb z=>?_) λ_=>hk
  .by_cases hb:b=a
   .exact .inr #[_,_,if_pos hb]
   .exact .inl (if_neg hb)
  .by_cases hb:b=a
   .have z':=(if_pos hb).symm.trans z;cases z';subst hb;exact#[ha,by rw[Vv];exact hl,vs,_,rv,ha]
   .have z':=(if_neg hb).symm.trans z;cases z'
  .by_cases hb:b=a
   .exact hb
   .exact absurd (if_neg hb) z
theorem Gb{l:PySem.W.OpenLaw}{n k:Nat}{q:Fk}{loose:!Str}{XP:(Str->Option AC)->Db->Prop}{YP:FB->Db->Prop}{d:DefRec}{K:SZ->Frag}{CX:FB->Ak}{sp:FB->Sp}{x:Str}(hn:l.most=some n)(HU:n<=Ev)(OD:d.params.defaults=[])(hr:dE k callerA)(hY:∀ (w:FB) (h:Db),YP w h->(K w.params).In h)(F:∀ (w:FB) (mg:Str->Option AC) (fa:AT) (h:Db),(K w.params).In h->h.Ns GM mg->mg d.name=some (.ref fa) ->
   ∃ fd:Ix,(∀ (s:Cl) (u:AC),BindsTo s fd #[[u],[]] [(x,u)]) /\
    ∀ base:Db,(K w.params).In base->base.Ns GM mg->eV l.prog w (K w.params) mg base (CX w) k fa fd [x] (sp w))(Ik:∀ (w:FB) (H:Hp) (a:AT) (ns:!Int),ns.length<=n->Ky H->eM (K w.params) H a (ns.map V.int)->sp w [.ref a] H (λv _=>v=.bl true) λ_ _ _=>False)(RP:∀ (w:FB) (H:Hp) (s:Cl) (e:AC) (s':Cl),CX w [] H s (λ_ _ _=>False) e s'->False) :
  PySem.W.WalkO q loose XP YP l.row.toRowW d [] (λf vs=>PySem.call f vs):=by
 show S3.vI hn OD λw s₀ s₁ mg mb fa o pm cd doc a vs ns G Y ho hd uY hmg hobj hints hlen hg=>?_;have KX:=hY w _ Y;let(fd,hb,hF):=F w mg fa _ KX G.T.g hmg;exact Cq KX G.T.g G.T.b G.T.builtins G.T.nolimit hg hobj hints (VF hlen HU) hr hF hb (λH hO hS=>Ik w H a ns hlen hO hS) λH e s'=>RP w H s₁ e s'
def gH(s:Fa):Arguments:=match s with
 | .FunctionDef _ a _ _ _ _ _ _ _ _=>a
 | _=>{ posonlyargs:=[],args:=[],vararg:=none,kwonlyargs:=[],kw_defaults:=[],kwarg:=none,defaults:=[] }
def bx(s:Fa):!Fa:=match s with
 | .FunctionDef _ _ b _ _ _ _ _ _ _=>b
 | _=>[]
def ai(s:Fa):Scope:=match s with
 | .FunctionDef _ _ _ _ _ _ sc _ _ _=>sc
 | _=>{ kind:=.function,names:=[],isGenerator:=false,isCoroutine:=false }
abbrev aQ:Ak:=λ_ _ _ _ _ _=>False
abbrev E0:XK:=λ_ _ _=>False
theorem tF{X:Cx}:Passes aQ X E0:=λ_ _ _ _ _ _ _ h=>h.elim
structure Bh(K:Frag)(x qual:Str)(st:Fa)(f:AT)(fd:Ix):Prop where
 ex:∃ (oc:AC) (od:Option AT) (kV doc pm:AC) (an:Option AT) (bT ct:AC) (FF:Array (Option AC)),
  fd=fnOf x qual (gH st) (bx st) (ai st) .none kV doc pm an bT ct/\K.lookup f=some #[oc,od,.func fd,FF]/\codeIn K bT qual=true
 kp:keepIn K (.ref f)=true
section
variable{P:Fk}{w:FB}{K:Frag}{mg:Str->Option AC}{base:Db}
theorem Bh.ok{x qual:Str}{st:Fa}{f:AT}{fd:Ix}{N ps:!Str}{k:Nat}{sp:Sp}(F:Bh K x qual st f fd)(S:av N ps (ai st))(len:∀ vs H Q E,sp vs H Q E->vs.length=ps.length)(Fw:∀ (bT:AC) (A:Fr) (outer:!Env) (s:Cl) (H:Hp) (vs:!V) (Q:VK) (E:XK),dE k (A.deeper (envOfC qual (ai st) ↑s f bT))->sp vs H Q E ->
   ∃ t,sO (n9 aQ P w K mg base N qual (ai st) f bT A outer s H E).FA (bx st) t/\t { nx:=λ_ H'=>Q .cA H',rt:=Q } (start N vs) H):eV P w K mg base aQ (k+1) f fd ps sp:=by
 let(oc,od,kV,doc,pm,an,bT,ct,FF,rfl,lk,uY):=F.ex;show MH lk uY S len λA outer s H vs Q E hr Ik=>?_;let(t,h,q):=Fw bT A outer s H vs Q E hr Ik;exact#[t,h.FA,q]
theorem Bh.binds{x qual:Str}{st:Fa}{f:AT}{fd:Ix}{ps:!Str}(F:Bh K x qual st f fd)(h:∀ (kV doc pm:AC) (an:Option AT) (bT ct:AC) (us:!AC),us.length=ps.length->bindArgs (fnOf x qual (gH st) (bx st) (ai st) .none kV doc pm an bT ct) #[us,[]]=pure (ps.zip us)):Binds K fd ps []:=by
 let(oc,od,kV,doc,pm,an,bT,ct,FF,rfl,lk,uY):=F.ex;exact .all (h kV doc pm an bT ct)
theorem xj{x qual:Str}{st:Fa}{f:AT}{oc:AC}{od an:Option AT}{FF:Array (Option AC)}{kV doc pm bT ct:AC}(l:K.lookup f=some #[oc,od,.func (fnOf x qual (gH st) (bx st) (ai st) .none kV doc pm an bT ct),FF])(c:codeIn K bT qual=true)(k:keepIn K (.ref f)=true):Bh K x qual st f (fnOf x qual (gH st) (bx st) (ai st) .none kV doc pm an bT ct):=#[#[oc,od,kV,doc,pm,an,bT,ct,FF,U,l,c],k]
end
theorem dm{A:Fr}{k:Nat}(hr:dE k A):A.units+1 < cLine:=Nat.lt_of_le_of_lt (Nat.add_le_add_left (by decide:1<=64) _) hr.units
section
variable{X:Cx}
theorem pv(i:Nat){x:Str}{pos:Pos}(hN:(X.N[i]?=some x)⁻¹)(hv:LR X.env.scope x:=by first | exact Or.inl U | exact Or.inr (Or.inl U) | exact Or.inr (Or.inr U))(hd: ~~~(Yg x))(uY: ~~~((x == ("__classdict__":Str))=false)):PE X (.Name x pos) (bG i):=xZ hN hv hd uY
end
theorem vg{A B:Prop}(h:B):if false=true then A else B:=by
 rw[if_neg VN];exact h
theorem pI{A B:Prop}(h:A):if true=true then A else B:=by
 rw[if_pos U];exact h
theorem Jz{c A B:Prop}[Decidable c](h1:c->A)(h2:¬ c->B):if c then A else B:=by
 by_cases h:c
 .rw[if_pos h];exact h1 h
 .rw[if_neg h];exact h2 h
def fQ(H H':Hp):Prop:=∀ b o,H b=some o->H' b=some o
theorem fQ.trans{H H1 H2:Hp}(a:fQ H H1)(b:fQ H1 H2):fQ H H2:=λc o h=>b c o (a c o h)
theorem fQ.free{H H':Hp}(e:fQ H H'){l:AT}(h:H' l=Option.none):H l=Option.none:=by
 cases q:H l with
 | none=>rfl
 | some o =>
  rw[e l o q] at h;cases h
theorem fQ.seq{K:Frag}{H H':Hp}{a:AT}{xs:!V}(e:fQ H H')(h:eM K H a xs):eM K H' a xs:=by
 rcases h with (h | ⟨o,h⟩) | h
 .exact .inl (.inl (e _ _ h))
 .exact .inl (.inr #[o,e _ _ h])
 .exact .inr h
section
variable{X:Cx}
end
section
variable{κ:Type}[DecidableEq κ]
end
def gu(env:Env):!(Str×Gc)->!(Str×AT)->!(Str×AT)
 | [],acc=>acc
 | (n,k)::r,acc=>if k == .free then gu env r ((n,(env.cells.lookup n).getD 0)::acc) else gu env r acc
def m9(env:Env)(x:Str×Gc)(cs:!(Str×AT)):Sem (ForInStep (!(Str×AT))) :=
 if x.2 == .free then do
  let a <- cellOf env x.1
  pure (ForInStep.yield ((x.1,a)::cs))
 else pure (ForInStep.yield cs)
theorem nK{env:Env}:∀ (l:!(Str×Gc)) (acc:!(Str×AT)),(∀ x∈l,x.2=.free->(env.cells.lookup x.1).isSome=true) ->
  (forIn l acc (m9 env):Sem (!(Str×AT)))=pure (gu env l acc)
 | [],acc,_=>rfl
 | (n,k)::r,acc,h=>by
  have ih:=λacc'=>nK (env:=env) r acc' λx hx=>h x (Vy _ hx);rw[List.forIn_cons];by_cases hk:k=.free
  .subst hk;let(c,hc):=WZ.mp (h (n,.free) Vx U);have e:cellOf env n=pure c:=by
    unfold cellOf;rw[hc]
   have e2:m9 env (n,Gc.free) acc=pure (ForInStep.yield ((n,c)::acc)):=by
    change (if (Gc.free == Gc.free)=true then (cellOf env n >>= λa=>pure (ForInStep.yield ((n,a)::acc))) else pure (ForInStep.yield acc))=_;rw[if_pos (),e]
    rfl
   have e3:gu env ((n,Gc.free)::r) acc=gu env r ((n,c)::acc):=by
    change (if (Gc.free == Gc.free)=true then gu env r ((n,(env.cells.lookup n).getD 0)::acc) else gu env r acc)=_;rw[if_pos (),hc]
    rfl
   rw[e2,e3,<- ih]
   rfl
  .have hb:(k == Gc.free)=false:=by simpa using hk
   have e2:m9 env (n,k) acc=pure (ForInStep.yield acc):=by
    change (if (k == Gc.free)=true then (cellOf env n >>= λa=>pure (ForInStep.yield ((n,a)::acc))) else pure (ForInStep.yield acc))=_;rw[if_neg (by simp[hb])]
   have e3:gu env ((n,k)::r) acc=gu env r acc:=by
    change (if (k == Gc.free)=true then gu env r ((n,(env.cells.lookup n).getD 0)::acc) else gu env r acc)=_;rw[if_neg (by simp[hb])]
   rw[e2,e3,<- ih]
   rfl
theorem ki{scope:Scope}{env:Env}(h:∀ x∈scope.names,x.2=.free->(env.cells.lookup x.1).isSome=true):closureFor scope env=pure (gu env scope.names []):=by
 rw[<- nK scope.names [] h];unfold closureFor;have:(λ(x:Str×Gc) (r:!(Str×AT))=>m9 env x r)=m9 env:=rfl
 first
  | (simp only[m9];rfl)
  | (show (forIn scope.names [] _ >>= λr=>pure r)=_;rw[bind_pure];rfl)
  | rfl
theorem jx{env:Env}{x:Str}{c:AT}:∀ {l:!(Str×Gc)} {acc:!(Str×AT)},(∀ y∈l,y.2=.free->(env.cells.lookup y.1).isSome=true) ->
  (gu env l acc).lookup x=some c->env.cells.lookup x=some c\/acc.lookup x=some c
 | [],acc,_,h=>.inr h
 | (n,k)::r,acc,hl,h=>by
  have hl':=λy hy=>hl y (Vy _ hy);unfold gu at h;by_cases hk:k=.free
  .subst hk;rw[if_pos ()] at h;let(d,hd):=WZ.mp (hl (n,.free) Vx U);rw[hd] at h;rcases jx hl' h with q | q
   .exact .inl q
   .rw[W6] at q;cases e:x == n with
    | true =>
     rw[e] at q;have e':x=n:=eq_of_beq e;subst e';left;rw[hd];exact q
    | false =>
     rw[e] at q;exact .inr q
  .rw[if_neg (by simpa using hk)] at h;exact jx hl' h
theorem pG{env:Env}{x:Str}:∀ {l:!(Str×Gc)} {acc:!(Str×AT)},(acc.lookup x).isSome=true->((gu env l acc).lookup x).isSome=true
 | [],acc,h=>h
 | (n,k)::r,acc,h=>by
  unfold gu;split
  .refine pG ?_;rw[W6];cases e:x == n with
   | true=>rfl
   | false=>exact h
  .exact pG h
theorem o3{env:Env}{x:Str}:∀ {l:!(Str×Gc)} {acc:!(Str×AT)},(x,Gc.free)∈l->((gu env l acc).lookup x).isSome=true
 | (n,k)::r,acc,h=>by
  unfold gu;rcases VG.mp h with e | h'
  .cases e;rw[if_pos ()];exact pG (by rw[W6,beq_self_eq_true];rfl)
  .split<;>exact o3 h'
def QP(env:Env)(x:Str×Gc):Str×Gc:=if (x.2 == Gc.free&&env.scope.kind == .function&&env.kindOf x.1 == some .cell)=true then (x.1,Gc.cell) else (x.1,x.2)
theorem qR{env:Env}{x:Str}{k:Gc}:∀ {names:!(Str×Gc)},(names.map (QP env)).lookup x=some k->names.lookup x=some k\/(names.lookup x=some .free/\k=.cell)
 | [],h=>by simp at h
 | (n,k0)::r,h=>by
  have ih:=@qR env x k r;rw[VE] at h;by_cases hc:(k0 == Gc.free&&env.scope.kind == .function&&env.kindOf n == some .cell)=true
  .have e:QP env (n,k0)=(n,Gc.cell):=if_pos hc;rw[e,W6] at h;rw[W6];cases e:x == n with
   | true =>
    rw[e] at h;have hk:k0=.free:=by
     rw[V1,V1] at hc;exact eq_of_beq hc.1.1
    subst hk;right;exact#[U,(V5 h).symm]
   | false =>
    rw[e] at h;exact ih h
  .have e:QP env (n,k0)=(n,k0):=if_neg hc;rw[e,W6] at h;rw[W6];cases e:x == n with
   | true =>
    rw[e] at h;exact .inl h
   | false =>
    rw[e] at h;exact ih h
theorem gj{env:Env}{x:Str}{scope:Scope}{k:Gc}(h:(relabel scope env).names.lookup x=some k) :
  scope.names.lookup x=some k\/(scope.names.lookup x=some .free/\k=.cell):=qR (env:=env) h
section
variable{prog:Fk}{w:FB}{A:Fr}{R:Result->Cl->Prop}{s:Cl}
theorem uq{elt target iter:Ch}{ifs:!Ch}{scope:Scope}{pos:Pos}{it acc:AC}{env:Env}(I:Nat->Cl->Prop)(turn:∀ n s,I n s->Da (model prog w) A (pyNext it) (λr s₁=>match r with
   | none=>R (.ok .next) s₁
   | some v=>Da (model prog w) A (letOwnedTupleGo target it v) (λ_ s₁'=>Da (model prog w) A (assign target env v) (λ_ s₂ =>
     Da (model prog w) A (forIn ifs true λc r=>if r=true then do let ok <- isTrue c env (eval c env);pure (ForInStep.yield ok) else pure (ForInStep.yield r)) (λok s₃ =>
      if ok=true then Da (model prog w) A (eval elt env) (λx s₄ =>
       Da (model prog w) A (call (.builtin "list.append") [acc,x]) (λ_ s₅=>∃ m,m < n/\I m s₅) (notedBy (model prog w) A env λe s'=>R (.error e) s') s₄) (notedBy (model prog w) A env λe s'=>R (.error e) s') s₃
      else ∃ m,m < n/\I m s₃) (notedBy (model prog w) A env λe s'=>R (.error e) s') s₂) (notedBy (model prog w) A env λe s'=>R (.error e) s') s₁') (notedBy (model prog w) A env λe s'=>R (.error e) s') s₁)
   (notedBy (model prog w) A env λe s'=>R (.error e) s') s)(n:Nat)(h:I n s) :
  codeAny (model prog w) A (.compLoop (.ListComp elt [#[target,iter,ifs,0]] scope pos) 0 it acc env) R s:=by
 show codeAny_loop U I (λn s hI=>?_) n h;change Da _ A ((compTurn (.ListComp elt [#[target,iter,ifs,0]] scope pos) 0 it acc env).onRaise (λx=>do noteFrame x env;theTreesLotGoes x)) _ _ s;show wpAny_noted ?_;rw[compTurn_list];show BT (wpAny_standAt (BT (KM (turn n s hI) (λr s₁ h₁=>?_) λ_ _ h'=>h')));cases r with
 | none=>exact EQ h₁
 | some v =>
  show BT (KM h₁ (λ_ s₁' h₁'=>?_) λ_ _ h'=>h');show BT (KM h₁' (λ_ s₂ h₂=>BT (KM h₂ (λok s₃ h₃=>?_) λ_ _ h'=>h')) λ_ _ h'=>h');cases ok with
  | false=>exact EQ #[U,h₃]
  | true =>
   exact BT (BT (KM h₃ (λx s₄ h₄=>BT (KM h₄ (λ_ s₅ h₅=>EQ (EQ #[U,h₅])) λ_ _ h'=>h')) λ_ _ h'=>h'))
end
def lift(nt:Nat)(us:!Nat)(σ:St):St:=List.replicate nt none++us.map λj=>(σ[j]?).join
def vJ(ts:!Str)(us:!Nat)(N:!Str):!Str:=ts++us.map λj=>N.getD j ""
def Cx.comp(X:Cx)(ts:!Str)(us:!Nat)(scope:Scope)(C:AT)(s:Cl)(H:Hp)(fp:!AT):Cx :=
 { X with N:=vJ ts us X.N,s₀:=s,H₀:=H,env:=compEnvC scope (gu X.env scope.names []) C X.env,outer:=X.stack,ex:=fp,fn:=λ_=>false,pn:=[],xe:=λ_ _=>False }
def LZ(X:Cx)(ifs:!Ch)(t:TT):Prop :=
 ∀ (TD:Yc) (s:Cl) (σ:St) (H:Hp) (Q:Bool->Hp->Prop),Inv X TD σ H s->t σ H Q ->
  Da (model X.prog X.w) X.A (forIn ifs true λc r=>if r=true then do let ok <- isTrue c X.env (eval c X.env);pure (ForInStep.yield ok) else pure (ForInStep.yield r)) (TP X TD σ Q) X.xe s
def IH:TT:=λ_ H Q=>Q true H
theorem yT{X:Cx}:LZ X [] IH:=λ_ _ _ H _ I h=>wpAny_tests_nil #[H,I,h]
theorem zC{X:Cx}{c:Ch}{t:TT}(hc:PT X c t):LZ X [c] t:=λTD s σ H Q I h=>wpAny_tests_one (hc TD s σ H Q I h)
structure bF(X:Cx)(ts:!Str)(us:!Nat)(scope:Scope):Prop where
 kind:scope.kind=.function
 K1:(scope.names.all λx=>x.2 != .cell)=true
 loc:(scope.names.all λx=>x.2 != .local||scope.names.lookup x.1 == some .local)=true
 free:(scope.names.all λx=>x.2 != .free||(X.env.cells.lookup x.1).isSome)=true
 Vq:(ts.all λx=>scope.names.lookup x == some .local)=true
 UL:(us.all λj=>match X.N[j]? with | some x=>scope.names.lookup x == some .free&&(X.env.kindOf x == some .cell||X.env.kindOf x == some .free) | none=>false)=true
section
variable{X:Cx}{ts:!Str}{us:!Nat}{scope:Scope}
theorem bF.nc(S:bF X ts us scope):∀ x∈scope.names,x.2≠.cell:=λx hx e=>by
 have q:=Wr.mp S.K1 x hx;rw[e] at q;exact absurd q ()
theorem bF.lc(S:bF X ts us scope):∀ x∈scope.names,x.2=.local->scope.names.lookup x.1=some .local:=λx hx e=>by
 have q:=Wr.mp S.loc x hx;rw[e] at q;have q':(scope.names.lookup x.1 == some .local)=true:=by simpa using q
 exact eq_of_beq q'
theorem bF.fr(S:bF X ts us scope):∀ x∈scope.names,x.2=.free->(X.env.cells.lookup x.1).isSome=true:=λx hx e=>by
 have q:=Wr.mp S.free x hx;rw[e] at q;simpa using q
theorem bF.OI(S:bF X ts us scope){j:Nat}(hj:j∈us):∃ x,X.N[j]?=some x/\scope.names.lookup x=some .free/\(X.env.kindOf x=some .cell\/X.env.kindOf x=some .free):=by
 have q:=Wr.mp S.UL j hj;cases e:X.N[j]? with
 | none=>rw[e] at q;exact absurd (show false=true from q) VN
 | some x =>
  rw[e] at q;have q:(scope.names.lookup x == some .free&&(X.env.kindOf x == some .cell||X.env.kindOf x == some .free))=true:=q;rw[V1,Bool.or_eq_true] at q;exact#[x,U,eq_of_beq q.1,q.2.imp eq_of_beq eq_of_beq]
theorem Dn{TD:Yc}{σ:St}{H:Hp}{s:Cl}{fp:!AT}{h₁:Db}{t:Nat}{m:Str->Option AC}(S:bF X ts us scope)(I:Inv X TD σ H s)(hf:∀ b∈fp,fX X TD H b)(BJ:∀ b∈fp,b < ↑s)(oo:h₁.Ns ↑s m)(keep:∀ b o,s.heap.get? b=some o->h₁.get? b=some o) :
  Inv (X.comp ts us scope ↑s s H fp) [] (lift ts.length us σ) H { s with heap:=h₁,toks:=t }:=by
 have cl:∀ x c,(gu X.env scope.names []).lookup x=some c->X.env.cells.lookup x=some c:=λx c e=>by
  rcases jx S.fr e with q | q
  .exact q
  .simp at q
 have kd:∀ x,((relabel scope X.env).names.lookup x=some .cell\/(relabel scope X.env).names.lookup x=some .free)->scope.names.lookup x=some .free:=λx hx=>by
  rcases hx with hx | hx
  .rcases gj hx with q | q
   .exact absurd U (S.nc _ (WD q))
   .exact q.1
  .rcases gj hx with q | q
   .exact q
   .cases q.2
 have ok:(X.comp ts us scope ↑s s H fp).Ok:=by
  show#[I.ok.mod,S.kind,I.ok.glob,I.ok.blt,VB _,λx y c e1 e2=>I.ok.inj x y c (cl x c e1) (cl y c e2),λx hx=>?_,λx c e=>?_,I.ok.hd,I.ok.frames,.inl U,λb hb=>?_,I.bs,VF I.ok.Ij I.sz,λb o e hb=>?_,λb hb hb2=>?_,I.stack,I.zi]
  .have q:=kd x hx;exact WZ.mp (o3 (WD q))
  .cases (show (false:Bool)=true from e)
  .let(f0,f1,f2,f3,f4,f5):=hf b hb;exact#[VW (BJ b hb),λx c e=>f4 x c (cl x c e)]
  .let(f0,f1,f2,f3,f4,f5):=hf b hb;rcases f3 with z | z
   .exact I.ok.CW b o e z
   .exact absurd (VZ (VL e) (VF I.ok.Ij z)) (WL _)
  .let(f0,f1,f2,f3,f4,f5):=hf b hb;rcases VG.mp (I.xg b hb2) with z | z
   .exact f1 z
   .exact f2 z
 show#[ok,U,I.bare,Un.kept keep,#[m,oo,λi x v h1 h2 h3=>?_],λx c e=>?_,I.aZ.fresh (Nat.le_refl _),λx c e=>I.jl x c (cl x c e),λp hp=>absurd (show p∈([]:Yc) from hp) (by simp),I.aZ.kept keep,?_]
 .have h1:(vJ ts us X.N)[i]?=some x:=h1;have h2:(lift ts.length us σ)[i]?=some (some v):=h2;by_cases hi:i < ts.length
  .unfold lift at h2;rw[List.getElem?_append_left (by simpa using hi),List.getElem?_replicate] at h2;split at h2<;>cases h2
  .have u1:ts.length<=i:=Xu hi;unfold lift at h2;unfold vJ at h1;rw[List.getElem?_append_right (by simpa using u1),List.length_replicate,List.getElem?_map] at h2;rw[List.getElem?_append_right u1,V0] at h1;cases ej:us[i - ts.length]? with
   | none=>rw[ej] at h1;cases h1
   | some j =>
    rw[ej] at h1 h2;let(y,hy,hyf,hyk):=S.OI (V8 ej);have e1:X.N.getD j ""=x:=V5 h1;have e2:X.N.getD j ""=y:=by rw[WS,hy];rfl
    have exy:y=x:=e2.symm.trans e1;subst exy;have e3:(σ[j]?).join=some v:=V5 h2;have e4:σ[j]?=some (some v):=by
     cases q:σ[j]? with
     | none=>rw[q] at e3;cases e3
     | some z =>
      rw[q] at e3;have:z=some v:=e3;rw[this]
    let(m0,hn0,hl0):=I.loc;have hvis:LR X.env.scope y:=.inr hyk;let(u,r,l):=hl0 j y v hy e4 hvis;show#[u,r,?_];rcases l with ⟨k1,_⟩ | ⟨k1,c,hc,hcell⟩
    .rcases hyk with z | z
     .rw[k1] at z;cases z
     .rw[k1] at z;cases z
    .refine .inr #[?_,c,?_,?_]
     .have h3:(relabel scope X.env).names.lookup y=some .local\/(relabel scope X.env).names.lookup y=some .cell\/(relabel scope X.env).names.lookup y=some .free:=h3;rcases h3 with z | z
      .rcases gj z with q | q
       .rw[hyf] at q;cases q
       .cases q.2
      .exact z
     .let(c',hc'):=WZ.mp (o3 (env:=X.env) (acc:=[]) (WD hyf));have q:=cl y c' hc';rw[hc] at q;cases q;exact hc'
     .let(o,ho,hd):=hcell;exact#[o,keep c o ho,hd]
 .let(v,o,ho,hd):=I.cell x c (cl x c e);exact#[v,o,keep c o ho,hd]
 .show (lift ts.length us σ).length=(vJ ts us X.N).length;unfold lift vJ;rw[Vw,Vw,List.length_replicate,Vv,Vv]
def D7(σ σ':St):Prop:=∀ (i:Nat) (v:V),σ[i]?=some (some v)->σ'[i]?=some (some v)
theorem B4{nt i:Nat}{us:!Nat}{σ:St}{x:Option V}(hi:i < nt):D7 (lift nt us σ) ((lift nt us σ).set i x):=λj v e=>by
 by_cases hj:j=i
 .subst hj;unfold lift at e;rw[List.getElem?_append_left (by simpa using hi),List.getElem?_replicate] at e;split at e<;>cases e
 .rw[V4 (Ne.symm hj)];exact e
def xY(nt:Nat)(us:!Nat)(σ:St)(g:TG)(ti:TT)(te:TE)(J:It)(H1:Hp)(Q:VK):Prop :=
 ∀ D,H1 D=none->∃ W:Nat->Nat->!V->Hp->Prop,(∃ m,W 0 m [] (upd H1 D (.lst [])))/\∀ i m ys H2,W i m ys H2->H2 D=some (.lst ys) /\
  ((J.stop i H2/\Q (.ref D) H2)\/(J.go i H2/\ys.length < Ev/\∀ x H3,J.OM i H2 x H3->g x (lift nt us σ) H3 λσ4 H4=>D7 (lift nt us σ) σ4/\ti σ4 H4 λb H5 =>
    if b=true then te σ4 H5 λy H6=>H6 D=some (.lst ys)/\∃ m',m' < m/\W (i+1) m' (ys++[y]) (upd H6 D (.lst (ys++[y]))) else ∃ m',m' < m/\W (i+1) m' ys H5))
def wV(nt:Nat)(us:!Nat)(wi:TI)(g:TG)(ti:TT)(te:TE):TE:=λσ H Q=>wi σ H λJ H1=>xY nt us σ g ti te J H1 Q
theorem pU{tg elt iter:Ch}{ifs:!Ch}{pos:Pos}{g:TG}{ti:TT}{te:TE}{TD:Yc}{σ:St}{H:Hp}{s:Cl}{it:AT}{fp:!AT}{tn:Nat->Db->Prop}{J:It}{Q:VK}{E:Yb}{RR:AC->AT->Result->Cl->Prop}(S:bF X ts us scope)(hc:X.calm=true)(I:Inv X TD σ H s)(T:Turn X.prog X.w X.K tg J fp it tn)(st:tn 0 s.heap)(hf:∀ b∈fp,fX X TD H b)(hg:∀ C s H fp,PG (X.comp ts us scope C s H fp) tg g)(BM:∀ C s H fp,LZ (X.comp ts us scope C s H fp) ifs ti)(he:∀ C s H fp,PE (X.comp ts us scope C s H fp) elt te)(q:xY ts.length us σ g ti te J H Q)(Us:∀ D C s' H',Inv X TD σ H' s'->(∃ m,s'.heap.Ns C m)->fX X TD H' C->Q (.ref D) H'->RR (.ref D) C (.ok .next) s') :
  Da (model X.prog X.w) X.A (newList []) (λacc s₃=>Da (model X.prog X.w) X.A (newFunctionEnv scope X.env.globals (gu X.env scope.names []) [] X.env.qual none .none (some X.env)) (λcenv s₄ =>
   codeAny (model X.prog X.w) X.A (.compStart (.ListComp elt [#[tg,iter,ifs,0]] scope pos) 0 (.ref it) acc { cenv with scope:=relabel scope X.env }) (RR acc cenv.locals) s₄) E s₃) E s:=by
 show Re (wpAny_newFunctionEnv S.nc (by intro y hy;simp at hy) (λh₁ hns₁ hsb₁=>?_) S.kind);dsimp only at hns₁ hsb₁ ⊢;have I3:Inv X TD σ (upd H ↑s (.lst [])) { s with heap:=s.heap.push { cls:=.type "list",data:=.seq ([]:!AC).toArray } }:=I.Nn (its:=[]) (ys:=[]) (t':=s.toks) .nil (VT _);have BJ:∀ b∈fp,b < ↑s:=λb hb=>by
  let(o,e,_):=T.obj 0 _ st b hb;exact VL e
 have hf3:∀ b∈fp,fX X TD (upd H ↑s (.lst [])) b:=λb hb=>by
  let(f0,fr):=hf b hb;exact#[by rw[aw (VW (BJ b hb))];exact f0,fr]
 generalize hs3:({ s with heap:=s.heap.push { cls:=.type "list",data:=.seq ([]:!AC).toArray } }:Cl)=s3 at I3;have hs3h:s3.heap=s.heap.push { cls:=.type "list",data:=.seq ([]:!AC).toArray }:=by rw[<- hs3]
 have keep:∀ b o,s3.heap.get? b=some o->h₁.get? b=some o:=λb o e=>by
  rw[hs3h] at e;exact hsb₁.extBut b o (VW (VL e)) (Vz _ e)
 have keep0:∀ b o,s.heap.get? b=some o->h₁.get? b=some o:=λb o e=>keep b o (by rw[hs3h];exact Vz _ e);let(W,(m0,w0),turn):=q ↑s (I.aZ.fresh (VB _));have hC:(s.heap.push { cls:=.type "list",data:=.seq ([]:!AC).toArray }).objs.size=↑s3:=by rw[hs3h]
 have hfl3:∀ b∈fp,b < ↑s3:=λb hb=>by
  rw[hs3h,Wl];exact Xo (BJ b hb)
 have hns3:h₁.Ns ↑s3 (λx=>([]:!(Str×AC)).reverse.lookup x):=by rw[<- hC];exact hns₁
 have I4:∀ t,Inv (X.comp ts us scope ↑s3 s3 (upd H ↑s (.lst [])) fp) [] (lift ts.length us σ) (upd H ↑s (.lst [])) { s3 with heap:=h₁,toks:=t }:=λt=>Dn S I3 hf3 hfl3 hns3 keep;have LN:tn 0 h₁:=T.keep 0 _ _ st λb _ o e=>keep0 b o e;have loop:∀ s₄:Cl,(∃ t,s₄={ s3 with heap:=h₁,toks:=t }) ->
   codeAny (model X.prog X.w) X.A (.compLoop (.ListComp elt [#[tg,iter,ifs,0]] scope pos) 0 (.ref it) (.ref ↑s) (compEnvC scope (gu X.env scope.names []) ↑s3 X.env)) (RR (.ref ↑s) ↑s3) s₄:=by
  rintro s₄ ⟨t4,rfl⟩;have stat:∀ {H':Hp},(∀ b∈fp,H' b=none)->∀ b∈fp,fX (X.comp ts us scope ↑s3 s3 (upd H ↑s (.lst [])) fp) [] H' b:=λ{H'} hn b hb=>by
   have ok:=(I4 0).ok;exact#[hn b hb,(ok.P8 b hb).1,ok.Ei b hb,.inl hb,(ok.P8 b hb).2,λp hp=>absurd (show p∈([]:Yc) from hp) (by simp)]
  show uq (λn s'=>∃ i ys H',Inv (X.comp ts us scope ↑s3 s3 (upd H ↑s (.lst [])) fp) [] (lift ts.length us σ) H' s'/\tn i s'.heap/\(∀ b∈fp,H' b=none)/\W i n ys H') ?_ m0
   #[0,[],_,I4 t4,LN,λb hb=>(hf3 b hb).1,w0]
  rintro n s5 ⟨i,ys,H5,I5,st5,fr5,w5⟩;let(hD,hturn):=turn i n ys H5 w5;rcases hturn with ⟨stop,qn⟩ | ⟨go,hlen,step⟩
  .refine b3 (T.done (X.comp ts us scope ↑s3 s3 (upd H ↑s (.lst [])) fp) U U U hc i [] s5 (lift ts.length us σ) H5 _ I5 (stat fr5) st5 stop) λr s6 z9q=>?_;let(hr,I6):=z9q;subst hr;have I7:Inv X TD σ H5 s6:=I3.O2 (ch:=fp) I6.os I6.base I6.aZ I6.bare λb hb=>by
    let(f0,f1,f2,f3,f4,f5):=hf3 b hb;exact#[f3,f1,f4,f5]
   let(m6,hn6,_):=I6.loc;exact Us _ _ s6 H5 I7 #[m6,hn6] (I3.rB (VB _) I6.free) qn
  .refine b3 (T.item (X.comp ts us scope ↑s3 s3 (upd H ↑s (.lst [])) fp) U U U hc i [] s5 (lift ts.length us σ) H5 _ I5 (stat fr5) st5 go) λr s6 z0q=>?_;let(u,hr,h6):=z0q;subst hr;show b3 h6 λ_ s7 z1q=>?_;let(x,H7,I7,r7,y7,st7,fr7):=z1q;have I7':=I7.pinned (stat fr7) (T.obj _ _ st7);show KM (hg _ _ _ _ _ s7 (lift ts.length us σ) H7 x u _ I7' r7 (step x H7 y7)) (λ_ s8 #[σ8,H8,I8,kp8,q8]=>?_) λ_ _ z=>False.elim z;show KM (BM _ _ _ _ _ s8 σ8 H8 _ I8 q8) (λb s9 #[H9,I9,q9]=>?_) λ_ _ z=>False.elim z;have fin:∀ {s':Cl} {H':Hp} {Q9:!V},Inv (X.comp ts us scope ↑s3 s3 (upd H ↑s (.lst [])) fp) ([]++qZ fp s7.heap) σ8 H' s'->(∃ m',m' < n/\W (i+1) m' Q9 H') ->
     ∃ m,m < n/\∃ i ys H',Inv (X.comp ts us scope ↑s3 s3 (upd H ↑s (.lst [])) fp) [] (lift ts.length us σ) H' s'/\tn i s'.heap/\(∀ b∈fp,H' b=none)/\W i m ys H':=λ{s' H' Q9} J' z2q=>by
    let(m',hm,w'):=z2q;show#[m',hm,i+1,Q9,H',J'.lQ.weak ?_ kp8,T.keep _ _ _ st7 λb hb o e=>(J'.pin (b,o) (V6 _ (V6 _ (iX hb e)))).1,λb hb=>?_,w']
    .rw[J'.len,I7.len]
    .let(o,e,d):=T.obj _ _ st7 b hb;exact (J'.pin (b,o) (V6 _ (V6 _ (iX hb e)))).2.1
   cases b with
   | false =>
    rw[if_neg VN] at q9 ⊢;exact fin I9 q9
   | true =>
    rw[if_pos U] at q9 ⊢;show KM (he _ _ _ _ _ s9 σ8 H9 _ I9 q9) (λyv s10 #[y,H10,I10,r10,hD10,q10]=>?_) λ_ _ z=>False.elim z;show KM (sH (X:=X.comp ts us scope ↑s3 s3 (upd H ↑s (.lst [])) fp) _ s10 σ8 H10 (.ref ↑s) [y] (.ref ↑s) [yv] (λ_ H'=>∃ m',m' < n/\W (i+1) m' (ys++[y]) H') I10 U (.cons r10 .nil) #[_,ys,y,U,U,hD10,hlen,q10]) (λ_ s11 #[_,H11,I11,_,q11]=>?_) λ_ _ z=>False.elim z;exact fin I11 q11
 have e4:({ s with heap:=h₁,toks:=s.toks+([]:!(Str×AC)).length }:Cl)={ s3 with heap:=h₁,toks:=s.toks+([]:!(Str×AC)).length }:=by rw[<- hs3]
 first
  | (rw[e4,hC];exact codeAny_compStart_list (loop _ #[_,rfl]) (T.self _ 0 _ _ _ LN (loop _ #[_,rfl])))
  | (have L4:=codeAny_compStart_list (elt:=elt) (target:=tg) (iter:=iter) (ifs:=ifs) (rest:=[]) (scope:=scope) (pos:=pos) (loop _ #[s.toks+([]:!(Str×AC)).length,U]) (T.self _ 0 _ _ _ LN (loop _ #[s.toks+([]:!(Str×AC)).length,U]))
     subst hs3;exact L4)
theorem Aj{tg elt iter:Ch}{ifs:!Ch}{pos:Pos}{wi:TI}{g:TG}{ti:TT}{te:TE}(S:bF X ts us scope)(hc:X.calm=true)(hi:PI X tg iter wi)(hg:∀ C s H fp,PG (X.comp ts us scope C s H fp) tg g)(BM:∀ C s H fp,LZ (X.comp ts us scope C s H fp) ifs ti)(he:∀ C s H fp,PE (X.comp ts us scope C s H fp) elt te)(hs:Yi iter X.env:=by intro _;rfl):PE X (.ListComp elt [#[tg,iter,ifs,0]] scope pos) (wV ts.length us wi g ti te):=by
 intro TD s σ H Q I h;rw[eval_ListComp];show wpAny_comprehension_free (use:=none) U hs (ki S.fr) S.kind S.lc (b3 (hi TD s σ H _ I h) λv s1 h1=>b3 h1 λP6 s2 h2=>?_);let(it,fp,tn,J,H2,e,I2,T,HK,f2,q):=h2;subst e;show pU (RR:=λacc C=>compPost (model X.prog X.w) X.A X.xe none (EP X TD σ Q) acc C) S hc I2 T HK f2 hg BM he q ?_;intro D C s' H' I' hn F q';let(m,hn):=hn;let(f0,f1,f2,f3,f4,f5):=F;show#[m,hn,λh' sb=>?_];have I8:Inv X TD σ H' { s' with heap:=h' }:=I'.turned (t':=s'.toks) (λb o hb e=>(sb.2 b hb).trans e) f0 f1 f3 f4 f5;exact#[.ref D,H',I8,U,q']
theorem yC{i:Nat}{x:Str}{tg elt iter:Ch}{ifs:!Ch}{pos px DP:Pos}{wi:TI}{g:TG}{ti:TT}{te:TE}(hN:X.N.Nodup)(u1:X.N[i]?=some x)(hx:X.env.scope.names.lookup x=some .local)(S:bF X ts us scope)(hc:X.calm=true)(hi:PI X tg iter wi)(hg:∀ C s H fp,PG (X.comp ts us scope C s H fp) tg g)(BM:∀ C s H fp,LZ (X.comp ts us scope C s H fp) ifs ti)(he:∀ C s H fp,PE (X.comp ts us scope C s H fp) elt te)(Om:(swapsWith (.ListComp elt [#[tg,iter,ifs,0]] scope pos) (some (.Name x px)) DP.line X.env=pure true)⁻¹)(hs:Yi iter X.env:=by intro _;rfl):PS X (.Assign [.Name x px] (.ListComp elt [#[tg,iter,ifs,0]] scope pos) DP) (kc (wV ts.length us wi g ti te) (dU i)):=by
 intro TD s σ H D I h;rw[exec_Assign_Name_used _ _ _ _ Om];show BT (wpAny_standAt (BT ?_));change Da _ _ (do let _ <- comprehension (.ListComp elt [#[tg,iter,ifs,0]] scope pos) scope X.env _ (newList []) false (eval iter X.env) (some (assign (.Name x px) X.env))) _ _ s;show BT (KM (wpAny_comprehension_free (use:=some (assign (.Name x px) X.env)) (Q:=λ_ s'=>SP X TD D .next s') U hs (ki S.fr) S.kind S.lc
  (b3 (hi TD s σ H _ I h) λv s1 h1=>b3 h1 λP6 s2 h2=>?_)) (λ_ s' hq=>EQ (EQ hq)) λ_ _ e=>e)
 let(it,fp,tn,J,H2,e,I2,T,HK,f2,q):=h2;subst e;show pU (RR:=λacc C=>compPost (model X.prog X.w) X.A X.xe (some (assign (.Name x px) X.env)) (λ_ s'=>SP X TD D .next s') acc C) S hc I2 T HK f2 hg BM he q ?_;intro L C s' H' I' hn F q';let(m,hn):=hn;let(f0,f1,f2,f3,f4,f5):=F;change Da _ _ (assign (.Name x px) X.env (.ref L)) _ _ s';show wpAny_assign_Name (su I' hN u1 (.inl hx) (v:=.ref L) U (λDY I'' hsb=>?_) (.inr hx));let(a,sb,ha):=hsb;have wN:C≠a:=by
  rcases ha with z | z
  .rw[z];exact f1
  .exact λw=>f4 x a z w.symm
 show#[m,hn.sameBut sb wN,λh' sb'=>?_];have I8:Inv X TD (σ.set i (some (.ref L))) H' { DY with heap:=h' }:=I''.turned (t':=DY.toks) (λb o hb e=>(sb'.2 b hb).trans e) f0 f1 f3 f4 f5;exact#[_,H',I8,q']
end
end L2
namespace PySem
open Sem (wp)
namespace F
theorem Ay:typeLookup (.type "list_reverseiterator") "__len__"=pure none:=by rw[typeLookup_type,builtinLookup_eq_fast];kernel_rfl
theorem E9:typeLookup (.type "list_reverseiterator") "__length_hint__"=pure (some (.builtin "list_reverseiterator.__length_hint__")):=by rw[typeLookup_type,builtinLookup_eq_fast];kernel_rfl
end F
section
variable{prog:Fk}{w:FB}{A:Fr}{E:Yb}{s:Cl}
theorem u6{R:Result->Cl->Prop}{I:AT}{fp wr:!AT}{n:Nat}{P:Nat->AC->Prop}{St:Nat->Db->Prop}(W:Walks prog w A.in1 I fp wr n P St)(hT:∀ i h,St i h->∃ o,h.get? I=some o/\o.cls=.type "list_reverseiterator")(S:AT)(res:AC)(c₀:Nat)(n5:St 0 s.heap)(Jh:S∉fp)(hI:I∈fp)(hS:s.heap.get? S=some { cls:=.type "list",data:=.seq #v[] c₀ })(hR:∀ h' tk acc' c',(∀ b o,b≠S->b∉wr->s.heap.get? b=some o->h'.get? b=some o)->h'.get? S=some { cls:=.type "list",dict:=none,data:=.seq acc' c',slots:=#v[] } ->
   ItemsOf P acc' n->R (.ok (.ret res)) { s with heap:=h',toks:=tk })(hn:n<=Ev) :
  Da (model prog w) A.in1 (FM.List.listExtendWith (.ref S) (.ref I) res)
   (λfin s'=>match fin with | .done f=>R (.ok f) s' | .again c'=>c'.quiet=true/\codeAny (model prog w) A c' R s') (λe s'=>R (.error e) s') s:=by
 have hSI:S≠I:=λe=>Jh (e▸hI);have hTs:s.TypeIs (.ref I) "list_reverseiterator":=hT 0 _ n5;unfold FM.List.listExtendWith;show BT (wpAny_typeOf hTs ?_);have h1:FM.List.listSameRef (.ref S) (.ref I)=false:=by simp[FM.List.listSameRef,hSI]
 have h2:(AC.type "list_reverseiterator" == AC.type "list")=false:=by decide
 have h3:(AC.type "list_reverseiterator" == AC.type "tuple")=false:=by decide
 simp only[h1,h2,h3,Bool.or_false,Bool.false_eq_true,if_false];show BT (W.self 0 _ _ _ n5 ?_);show BT (KK ?_);unfold FM.List.listLengthHint;show BT (wpAny_specialOf hTs F.Ay ?_);change Da _ A.in1 (specialOf (AC.ref I) (Str.ofString "__length_hint__") >>= _) _ _ _;show BT (wpAny_specialOf hTs F.E9 ?_);generalize hid:("list_reverseiterator.__length_hint__":String)=id0
 wp_delta
 rw[show splitId id0=some ("list_reverseiterator","__length_hint__") from by subst hid;decide+kernel];subst hid;show BT (wpAny_isInstance (b:=true) hTs (by rw[isSubtype_type];kernel_rfl) ?_);show EQ ?_;rw[if_neg ()];show EQ #[plainId_quiet F.plain_extend_loop _,codeAny_extend_loopS W.toS hn _ Jh _ n 0 _ _ _ U (VT _) n5 hS (ItemsOf.nil P) λs' acc' c' hm hS' hacc=>?_];rw[Moved.eq_with hm];show hR s'.heap s'.toks acc' c' (λb ob hb hw e=>hm.heap b ob (λhmem=>?_) e) hS' hacc;rcases VG.mp hmem with e' | hmem
 .exact hb e'
 .exact hw hmem
theorem n6{Q:Yb}(hh:A.handled=none){I l:AT}{items:Array AC}(wN:l≠I)(hit:s.heap.IsRevIter I l ((items.size:Int) - 1))(hl:s.heap.IsList l items)(hQ:∀ h' tk acc' c',(∀ b o,b≠I->s.heap.get? b=some o->h'.get? b=some o)->h'.get? ↑s=some { cls:=.type "list",dict:=none,data:=.seq acc' c',slots:=#v[] } ->
   ItemsOf (λi v=>items[items.size - 1 - i]?=some v) acc' items.size->Q (.ref ↑s) { s with heap:=h',toks:=tk })(hn:items.size<=Ev) :
  Da (model prog w) A (call (.type "list") [.ref I]) Q E s:=by
 have hIlt:I < ↑s:=by let(o,e,_):=hit;exact VL e
 have hllt:l < ↑s:=by let(o,e,_):=hl;exact VL e
 show callType_codes (Q₁:=λobj s₁=>obj=.ref ↑s/\s₁={ s with heap:=s.heap.push { cls:=.type "list",data:=.seq #v[] } }) F.called_list (F.typeCall_list_1 _) F.entry_list_init
  (code_list_new _ #[U,U]) λobj s₁ h₁=>?_
 let(rfl,rfl):=h₁;have hS:(s.heap.push { cls:=.type "list",data:=.seq #v[] }).get? ↑s=some { cls:=.type "list",data:=.seq #v[] }:=VP _ U;show#[#[_,hS,U],F.args_list_init_2 _ _,?_];change Da _ _ (do let old <- FM.List.listItems (.ref ↑s);FM.List.listUpdate (.ref ↑s) (λ_=>#v[]);letGo old.toList.reverse;FM.List.listExtendWith (.ref ↑s) (.ref I) .none) _ _ _;show BT ?_;unfold FM.List.listItems;show BT (PP hS U (EQ ?_));change Da _ _ (updateSeq ↑s (λ_=>#v[]) >>= λ_=>letGo (#v[]:Array AC).toList.reverse >>= λ_=>FM.List.listExtendWith (.ref ↑s) (.ref I) .none) _ _ _;show BT (wpAny_updateSeq hS U ?_);have hS₂:=Wt (Obj.mapSeq (λ_=>(#v[]:Array AC))) hS U;have oth:∀ b o,b≠↑s->s.heap.get? b=some o->((s.heap.push { cls:=.type "list",data:=.seq #v[] }).update ↑s (Obj.mapSeq (λ_=>(#v[]:Array AC)))).get? b=some o :=
  λb o hb e=>(Wq _ _ (Ne.symm hb)).trans (Vz _ e)
 show BT (wpAny_letGo ?_);have W:=Walks.listRev (prog:=prog) (w:=w) (A:=A.in1.in1) hh I l wN items;show u6 (A:=A.in1) W (λi h st=>let #[o,e,c,_]:=st.2.1;#[o,e,c]) ↑s .none _ ?_ ?_ (by simp) hS₂ (λh' tk acc' c' kp e hacc=>?_) hn
 .refine#[VT _,?_,?_]
  .have e0:(items.size:Int) - 1 - ((0:Nat):Int)=(items.size:Int) - 1:=by cbv
   rw[e0];exact hit.at λo e=>oth I o (VW hIlt) e
  .exact hl.at λo e=>oth l o (VW hllt) e
 .intro hm;rcases VG.mp hm with e | hm
  .exact absurd e (W7 hIlt)
  .exact absurd (VH.mp hm) (W7 hllt)
 .exact#[U,hQ h' tk acc' c' (λb o hb eb=>kp b o (Nat.ne_of_lt (Db.lt_size eb)) (by simpa using hb) (oth b o (Nat.ne_of_lt (Db.lt_size eb)) eb)) e hacc]
end
end PySem
namespace L2
open PySem PySem.Spec PyProof.Rows
section
variable{X:Cx}{tg:Ch}
end
section
variable{X:Cx}
theorem range_all(bs:!Bool):((List.range bs.length).all λi=>bs.getD i false)=bs.all id:=by
 rw[Xm,Wr,Wr];constructor
 .intro h b hb;let(i,hi,rfl):=Wh hb;have:=h i (WC.mpr hi);simpa [List.getD_eq_getElem?_getD,hi] using this
 .intro h i hi;have u1:=WC.mp hi;have:=h bs[i] (Xh u1);simpa [List.getD_eq_getElem?_getD,u1] using this
theorem pz(hc:X.calm=true):cT X (.builtin "all") (λxs H Q=>∃ (p:AT) (bs:!Bool),xs=[.ref p]/\eM X.K H p (bs.map V.bl)/\Q (.bl (bs.all id)) H):=by
 intro TD s σ H xs us Q I r h;let(p,bs,rfl,hq,q):=h;let(u,rfl,rx):=vals1 r;cases rx;let(its,rv,pl,hz):=I.list hq;have hp:p < ↑s:=by let(o,_,e,_):=pl;exact VL e
 have hlen:its.toArray.size=bs.length:=by rw[VQ,<- rv.length,Vv]
 show call_all_walk (wpAny_pyIter_list pl.isList ?_);show#[↑s,_,_,_,_,_,λi=>bs.getD i false,U,Walks.list (A:=X.A.in1) (I.ok.hd hc) ↑s p (VW hp) its.toArray,#[#[_,VP _ U,U,U],pl.isList.push _],?_,?_]
 .intro i v s' Q' E' hv hq';have hv':its[i]?=some v:=by simpa using hv
  have hi:i < bs.length:=by
   have:=(VC.mp hv').1;rw[VQ] at hlen;cbv
  let(u,hu,ru):=rv.get (i:=i) (x:=V.bl bs[i]) (by simp[hi]);rw[hv'] at hu;cases hu;cases (show v=AC.bool bs[i] from ru);have e:bs.getD i false=bs[i]:=by simp[List.getD_eq_getElem?_getD,hi]
  have hq'':Q' (bs.getD i false) s':=hq';rw[e] at hq'';exact wpAny_truthy_bool hq''
 .intro h' tk kp;have I':Inv X TD σ H { s with heap:=h',toks:=tk }:=I.kept (t':=tk) λb o e=>kp b o (by simpa using Nat.ne_of_lt (Db.lt_size e)) (Db.get?_push_of_some _ e);show#[.bl (bs.all id),H,I',?_,q];change AC.bool _=AC.bool _;rw[hlen,range_all]
def wq(K:Frag)(te:TE):TE:=λσ H Q=>te σ H λx H1=>∃ a xs,x=.ref a/\eM K H1 a xs/\∀ l,H1 l=none->Q (.ref l) (upd H1 l (.lst xs.reverse))
theorem A3{items acc:Array AC}(h:ItemsOf (λi v=>items[items.size - 1 - i]?=some v) acc items.size):acc.toList=items.toList.reverse:=by
 let(h1,h2):=h;apply Xc;intro i;by_cases hi:i < items.size
 .have u1:i < acc.size:=by cbv
  have e:acc[i]?=some acc[i]:=by simp[u1]
  have:=h2 i _ e;rw[List.getElem?_reverse (by simpa using hi)];rw[Wg,e,Wd,Wg];rw[<- this]
 .rw[List.getElem?_eq_none (by simpa using (by cbv:acc.size<=i)),List.getElem?_eq_none (by simpa using (by cbv:items.size<=i))]
theorem xo{e:Ch}{te:TE}{p p2 pos kR:Pos}(hc:X.calm=true)(OP:Gl X "list")(GR:X.mg "list"=none)(Vd:Gl X "reversed")(SH:X.mg "reversed"=none)(he:PE X e te)(hs:(GE [.Call (.Name "reversed" p2) [e] [] kR] X.env=[(false,eval (.Call (.Name "reversed" p2) [e] [] kR) X.env)])⁻¹)(xc:(GE [e] X.env=[(false,eval e X.env)])⁻¹) :
  PE X (.Call (.Name "list" p) [.Call (.Name "reversed" p2) [e] [] kR] [] pos) (wq X.K te):=by
 intro TD s σ H Q I h;show wpAny_Call_Name_kw (g0 I OP GR PyProof.Rows.boot_list ?_ () ());show PyProof.Rows.callWith_type1 ?_ hs U;rw[hs];change Da _ _ (spliced ((false,eval (.Call (.Name "reversed" p2) [e] [] kR) X.env)::Go pos [])) _ _ s;show Calls.spliced_cons ?_;show wpAny_Call_Name_kw (g0 I Vd SH PyProof.Rows.boot_reversed ?_ () ());show PyProof.Rows.callWith_type1 ?_ xc U;rw[xc];change Da _ _ (spliced ((false,eval e X.env)::Go kR [])) _ _ s;show Calls.spliced_cons (b3 (he TD s σ H _ I h) λu s1 z3q=>?_);let(x,H1,I1,r1,a,xs,ex,hq,q):=z3q;subst ex;cases r1;show Calls.spliced_nil ?_;let(its,rv,pl,hz):=I1.list hq;have hp:a < ↑s1:=by let(o,_,e,_):=pl;exact VL e
 have hlen:=rv.length;show call_reversed_list pl.isList ?_;show Calls.spliced_nil ?_;have I2:Inv X TD σ H1 { s1 with heap:=s1.heap.push (revObj a ((its.toArray.size:Int) - 1)) }:=I1.kept (t':=s1.toks) λb o e=>Vz _ e;show n6 (I.ok.hd hc) (items:=its.toArray) (VW hp) #[_,VP _ U,U,U] (pl.isList.push _) (λh' tk acc' c' kp e hacc=>?_) (by rw[VQ];cbv);have e2:=A3 hacc;have F:fX X TD H1 ↑s1:=I1.rB (VB _) (I1.aZ.fresh (VB _));let(f0,f1,f2,f3,f4,f5):=F;have hk:∀ b o,s1.heap.get? b=some o->h'.get? b=some o:=λb o eb=>kp b o (VW (VL eb)) (Vz _ eb);show#[.ref _,_,I1.laid (t':=tk) (h':=h') (o:=.lst xs.reverse) hk (by rw[Wl];exact Nat.le_succ _) ?_,U,q _ (I1.aZ.fresh (by rw[Wl];exact Nat.le_succ _))];show#[by rw[List.length_reverse];exact hz,acc'.toList,c',?_,by simpa using e];rw[e2];simpa using rv.reverse
theorem ye{ys:!Str}:∀ {us:!AC},Vals (ys.map V.str) us->StrsAre us ys:=by
 induction ys with
 | nil=>intro us r;rw[Wj] at r;cases r;exact .nil
 | cons n ns ih =>
  intro us r;rw[VE] at r;cases r with
  | cons r1 r2 =>
   let(t,e):=r1;subst e;exact .cons n t (ih r2)
def rJoin(K:Frag):V->!V->Hp->VK->Prop:=λx vs H Q=>∃ (z:Str) (p:AT) (zs:!Str),x=.str z/\vs=[.ref p]/\eM K H p (zs.map V.str)/\(zs.map (·.length)).sum+zs.length * z.length<=16777216/\Q (.str (Txt.join z zs)) H
theorem GW:Ib X "str.join" (rJoin X.K):=by
 intro TD s σ H x vs v us Q I rx rv h;let(z,p,zs,rfl,rfl,hq,hz,q):=h;let(t,rfl):=rx;let(u,rfl,ru):=rv.one;cases ru;let(its,r,pl,_):=I.list hq;exact PyProof.Rows.join_list pl.isList (by simpa using ye r) hz λt' k=>#[.str _,H,I.tok k,#[t',U],q]
def RI:V->Option Int->Option Int->Hp->VK->Prop:=λx lo hi H Q=>∃ z,x=.str z/\z.length<=Ev/\Q (.str (Txt.slice z lo hi)) H
theorem Kf:Mw X RI:=by
 intro TD s σ H x v vl vu lo hi sl Q I rx hs pl pu h;let(z,rfl,hz,q):=h;let(t,rfl):=rx;show#["str",_,F.slot_str_getitem.lookup,typeIs_str _ _ _,?_];have fin:∀ t' k,EP X TD σ Q (.str (Txt.slice z lo hi) t') { s with toks:=k }:=λt' k=>#[.str _,H,I.tok k,#[t',U],q];cases pl with
 | none =>
  cases pu with
  | none=>exact wpAny_getItem_str_slice (l:=none) (u:=none) (st:=none) hs U (post_val_or_str #[VF (Txt.slice_le z _ _) hz,fin])
  | int j uj=>exact wpAny_getItem_str_slice (l:=none) (u:=some (j,uj)) (st:=none) hs U (post_val_or_str #[VF (Txt.slice_le z _ _) hz,fin])
 | int i ui =>
  cases pu with
  | none=>exact wpAny_getItem_str_slice (l:=some (i,ui)) (u:=none) (st:=none) hs U (post_val_or_str #[VF (Txt.slice_le z _ _) hz,fin])
  | int j uj=>exact wpAny_getItem_str_slice (l:=some (i,ui)) (u:=some (j,uj)) (st:=none) hs U (post_val_or_str #[VF (Txt.slice_le z _ _) hz,fin])
theorem qW:ja X (Os .Mult) (λx y H Q=>∃ z n,x=.str z/\y=.int n/\MulOk z n/\Q (.str (Txt.mul z n)) H):=by
 intro TD s σ H x y v u Q I rx ry h;let(z,n,rfl,rfl,ok,q):=h;let(t,rfl):=rx;let(t',rfl):=ry;exact SB.mul ok λt' k=>#[.str _,H,I.tok k,#[t',U],q]
def Kb(K:Frag)(te:TE):TE:=λσ H Q=>te σ H λx H1=>∃ a xs,x=.ref a/\eM K H1 a xs/\∀ l,H1 l=none->Q (.ref l) (upd H1 l (.lst xs.reverse))
theorem Ec{e st:Ch}{te:TE}{p2 pos:Pos}(he:PE X e te)(n5:PE X st (tC (.int (-1)))):PE X (.Subscript e (.Slice none none (some st) p2) pos) (Kb X.K te):=by
 intro TD s σ H Q I h;show Subscript_ (b3 (he TD s σ H _ I h) λv s1 #[x,H1,I1,r1,a,xs,ex,hq,q]=>?_);subst ex;cases r1;show wpAny_Slice ?_;rw[evalPart_none];show EQ ?_;show EQ ?_;rw[evalPart_some];show b3 (n5 TD s1 σ H1 (λx H'=>x=.int (-1)/\H'=H1) I1 #[U,U]) λu s2 #[x,H2,I2,r2,ex,eH]=>?_;subst ex eH;let(t,rfl):=r2;let(its,r,ht,hz):=I2.list hq;have hlen:=r.length;have I3:Inv X TD σ H2 { s2 with heap:=s2.heap.push { cls:=.type "slice",data:=.fields #v[.none,.none,.int (-1) t] } }:=I2.kept (t':=s2.toks) λb ob q=>Vz _ q;change Da (model X.prog X.w) X.A (subscriptTail e (.Slice none none (some st) p2) (.ref a) (.ref ↑s2)) (EP X TD σ Q) X.xe { s2 with heap:=s2.heap.push { cls:=.type "slice",data:=.fields #v[.none,.none,.int (-1) t] } };show tail_any (ops:=[.ref a,.ref ↑s2]) (ht.isList.push _).typeIs slot_list_getitem.lookup ?_ (by with_unfolding_all rfl);show wpAny_getItem_list_slice (ht.isList.push _) (Db.IsSliceOf.new ..) .none .none (.int (-1) t) () ?_ (by rw[VQ];cbv);rw[PySem.W.krv_pick];show#[.ref _,_,I3.laid (t':=s2.toks) (o:=.lst xs.reverse) (λb ob q=>Vz _ q) (VB _) ?_,U,q _ (I3.aZ.fresh (VB _))];exact#[by rw[List.length_reverse];exact hz,_,0,by simpa using r.reverse,Db.get?_push_size _ U]
end
theorem QK{H:Hp}{a:AT}{o u:HO}:upd (upd H a o) a u=upd H a u:=Hw
theorem kx{K:Frag}{nt:Nat}{us:!Nat}{σ:St}{ti:TT}{te:TE}{a:AT}{xs:!V}{H1:Hp}{Q:VK}(p:V->Bool)(f:V->V)(hx:eM K H1 a xs)(hz:xs.length<=Ev)(P9:0 < nt)(hp:∀ x∈xs,∀ (H:Hp) (k:Bool->Hp->Prop),k (p x) H->ti ((lift nt us σ).set 0 (some x)) H k)(he:∀ x∈xs,p x=true->∀ (H:Hp) (k:VK),k (f x) H->te ((lift nt us σ).set 0 (some x)) H k)(hQ:∀ D,H1 D=none->Q (.ref D) (upd H1 D (.lst ((xs.filter p).map f)))):xY nt us σ (dU 0) ti te (Le K a) H1 Q:=by
 intro D hD;have hS:∀ ys,eM K (upd H1 D (.lst ys)) a xs:=λys=>fQ.seq (λb o e=>by rw[aw (aF e hD)];exact e) hx;show#[λi m ys H2=>i<=xs.length/\m=xs.length - i/\ys=((xs.take i).filter p).map f/\H2=upd H1 D (.lst ys),#[xs.length,Nat.zero_le _,by simp,by simp,U],?_];rintro i m ys H2 ⟨hi,rfl,rfl,rfl⟩;show#[aA,?_];by_cases jI:i < xs.length
 .refine .inr #[#[xs,xs[i],hS _,by simp[jI]],?_,?_]
  .rw[Vv];have h1:=V9 p (xs.take i);rw[Wy] at h1;cbv
  .rintro x H3 ⟨rfl,hy⟩;have hc':xs[i]?=some x:=hy xs (hS _);have hm:=V8 hc';show#[B4 P9,hp x hm _ _ ?_];cases e:p x with
   | true =>
    rw[if_pos U];show he x hm e _ _ #[aA,xs.length - (i+1),by cbv,jI,U,?_,QK];rw[XS,hc',Wk,VA];simp[e]
   | false =>
    rw[if_neg VN];show#[xs.length - (i+1),by cbv,jI,U,?_,U];rw[XS,hc',Wk,VA];simp[e]
 .have e:i=xs.length:=by cbv
  subst e;show .inl #[#[xs,hS _,VB _],?_];have:=hQ D hD;rw[List.take_of_length_le (VB _)];exact this
theorem fQ.upd{H:Hp}{a:AT}{o:HO}(h:H a=none):fQ H (upd H a o):=λb u e=>by rw[aw (aF e h)];exact e
theorem fQ.Pm{H H':Hp}{a:AT}{o:HO}(s:fQ H H')(h:H a=none):fQ H (L2.upd H' a o):=λb u e=>by rw[aw (aF e h)];exact s b u e
section
variable{X:Cx}
theorem fu{j p pos}:PE X (.UnaryOp .USub (.Constant (.int 1) j p) pos) (tC (.int (-1))):=λTD s σ H Q I h=>MN JX bX TD s σ H Q I #[1,U,h]
def zE:!Ch->!Str
 | []=>[]
 | .Constant (.str x) _ _::r=>x::zE r
 | _=>[]
def vi:!Ch->Bool
 | []=>true
 | .Constant (.str _) _ _::r=>vi r
 | _=>false
def Po(zs:!Str):TA:=λ_ H Q=>Q (zs.map V.str) H
theorem zw:∀ {es:!Ch},vi es=true->PA X es (Po (zE es))
 | [],h=>d6
 | e::r,h=>by
  cases e with
  | Constant c j pos =>
   cases c with
   | str x=>exact cq dA (zw (es:=r) h)
   | _=>cases h
  | _=>cases h
def Ez:Fa->!Ch
 | .Assign _ (.List es _) _=>es
 | .Assign _ (.BinOp _ _ (.List es _) _) _=>es
 | _=>[]
def rep1:Fa->!Ch->Fa
 | .Assign t (.List _ p) q,es=>.Assign t (.List es p) q
 | .Assign t (.BinOp a o (.List _ p) r) q,es=>.Assign t (.BinOp a o (.List es p) r) q
 | s,_=>s
def A0:Fa:=.Pass #[0,0,0,0]
def O3(b:!Fa)(i:Nat)(es:!Ch):!Fa:=b.set i (rep1 (b.getD i A0) es)
end
end L2
namespace PySem
open Sem (wp)
section
variable{prog:Fk}{w:FB}{A:Fr}{E:Yb}{h:Db}{g:Array GenState}{d:Drawn}{t:Nat}{os:OsState}
variable{nm q:Str}{C N:AT}{bs bm Vs:!AC}{UJ:Bool}{sn:!Str}{sub:!AC}{ab:Bool}{col:Option Bool}{dd:Option AT}{k0 k1 k2 k3 k5:Option AC}{B Bn newId Vr RC Vt:String}{Vp:!AC}
end
section
variable{M:Model}{A:Fr}{E:Yb}{s:Cl}
end
end PySem
namespace L2
open PySem PySem.Spec PyProof.Rows
section
variable{P:Fk}{w:FB}{H:Hp}{h:Db}{ea C d:AT}{dd:Option AT}{fr:Bool}{fs:!(Str×V)}
end
section
variable{X:Cx}{TD:Yc}{σ:St}{H:Hp}{s:Cl}{C f:AT}{k:Nat}{fd:Ix}{ps:!Str}{sp:Sp}{x:Str}{p pos:Pos}{e:Ch}{es:!Ch}{t:TA}
end
section
variable{X:Cx}{TD:Yc}{σ:St}{H:Hp}{s:Cl}{ea C d:AT}{dd:Option AT}{fr:Bool}{fs:!(Str×V)}{f:Str}{v:V}{A:Fr}{E:Yb}
end
section
variable{K:Frag}
end
section
variable{X:Cx}{TD:Yc}{σ:St}{H:Hp}{s:Cl}{ea C d:AT}{dd:Option AT}{fr:Bool}{fs:!(Str×V)}{f:Str}{v:V}{A:Fr}{E:Yb}
end
section
variable{X:Cx}{TD:Yc}{σ:St}{H:Hp}{s:Cl}{ea C T:AT}{dd:Option AT}{fr:Bool}{A:Fr}{E:Yb}{h':Db}
end
section
variable{X:Cx}{TD:Yc}{σ:St}{H:Hp}{s s':Cl}{ea C T:AT}{dd:Option AT}{E:XK}{e:AC}
end
section
variable{P:Fk}{w:FB}{K:Frag}{mg:Str->Option AC}{base:Db}{N:!Str}{qual:Str}{scope:Scope}{f:AT}{cd:AC}{A:Fr}{outer:!Env}{s:Cl}{H:Hp}{E E':XK}
end
section
variable{X:Cx}{TD:Yc}{σ:St}{H:Hp}{s:Cl}{ea C:AT}{dd:Option AT}{fr:Bool}
end
section
variable{X:Cx}{TD:Yc}{σ:St}{H:Hp}{s:Cl}{ev:AC}
end
section
variable{P:Fk}{w:FB}{K:Frag}{mg:Str->Option AC}{base:Db}
end
section
variable{X:Cx}
def IK(i j:Int):Prop:=0 < j/\j < 9223372036854775808
theorem cY:ja X (Os .FloorDiv) (rI IK λi j=>.int (i / j)):=Qc λi j _ _ _ _ _ hc q=>by
 have h1:(0:Int) < j:=hc.1;have h2:j < 9223372036854775808:=hc.2;show floordiv_int (by cbv) (by rw[Int.fdiv_eq_ediv_of_nonneg i (by cbv)];exact q) (.inl (PyProof.noPylong_of_log2 ?_));have h3:j.natAbs < 2 ^ 63:=by
  have:(2:Nat) ^ 63=9223372036854775808:=by decide
  cbv
 have h4:j.natAbs.log2 < 63:=(Nat.log2_lt (by cbv)).mpr h3;cbv
end
end L2
namespace cH
open PySem L2
abbrev kS:Key:=Sum.inr "seed"
abbrev kN:Key:=Sum.inr "number"
abbrev kL:Key:=Sum.inr "left"
theorem sn:¬ kS=kN:=by decide+kernel
theorem sl:¬ kS=kL:=by decide+kernel
theorem nl:¬ kN=kL:=by decide+kernel
def cE(a b:Int)(l:AT):!(Key×V):=[(kS,.int a),(kN,.int b),(kL,.ref l)]
theorem Cb(a b:Int)(l:AT):iw (cE a b l) (kS)=some (.int a):=gh U
theorem xl(a b:Int)(l:AT):iw (cE a b l) (kN)=some (.int b):=by
 unfold cE;rw[dG sn];exact gh U
theorem Fc(a b:Int)(l:AT):iw (cE a b l) (kL)=some (.ref l):=by
 unfold cE;rw[dG sl,dG nl];exact gh U
theorem Dw(a b c:Int)(l:AT):putK (cE a b l) (kS) (.int c)=cE c b l:=by
 unfold cE putK;simp only[List.any_cons,List.any_nil,List.map_cons,List.map_nil,decide_true,Bool.true_or,if_true,if_neg (Ne.symm sn),if_neg (Ne.symm sl)]
theorem xJ(a b c:Int)(l:AT):putK (cE a b l) (kN) (.int c)=cE a c l:=by
 unfold cE putK;simp only[List.any_cons,List.any_nil,List.map_cons,List.map_nil,decide_true,Bool.true_or,Bool.or_true,if_true,if_neg sn,if_neg (Ne.symm nl)]
theorem Lk(a b:Int)(l:AT):gZ [] (cE a b l)=cE a b l:=by
 have e1:putK [] kS (V.int a)=[(kS,V.int a)]:=pJ _ qT;have e2:putK [(kS,V.int a)] kN (V.int b)=[(kS,V.int a),(kN,V.int b)]:=pJ _ (by rw[dG sn];exact qT);have e3:putK [(kS,V.int a),(kN,V.int b)] kL (V.ref l)=[(kS,V.int a),(kN,V.int b),(kL,V.ref l)]:=pJ _ (by rw[dG sl,dG nl];exact qT);unfold gZ cE;simp only[List.foldl_cons,List.foldl_nil];rw[e1,e2,e3]
section
variable{H:Hp}{d l:AT}{a b:Int}
theorem p6(h:H d=some (.dK (cE a b l))):ie H d (.str "seed") (some (.int a)):=by
 have q:=ie.k (k:=kS) h;rw[Cb] at q;exact q
theorem p7(h:H d=some (.dK (cE a b l))):ie H d (.str "number") (some (.int b)):=by
 have q:=ie.k (k:=kN) h;rw[xl] at q;exact q
theorem wD(h:H d=some (.dK (cE a b l))):ie H d (.str "left") (some (.ref l)):=by
 have q:=ie.k (k:=kL) h;rw[Fc] at q;exact q
theorem Bl{c:Int}(h:H d=some (.dK (cE a b l))):mH H d (.str "seed") (.int c) (upd H d (.dK (cE c b l))):=by
 have q:=mH.k (k:=kS) (v:=.int c) h (by change 3 < Ev;decide);rw[Dw] at q;exact q
theorem nE{c:Int}(h:H d=some (.dK (cE a b l))):mH H d (.str "number") (.int c) (upd H d (.dK (cE a c l))):=by
 have q:=mH.k (k:=kN) (v:=.int c) h (by change 3 < Ev;decide);rw[xJ] at q;exact q
end
structure At(H:Hp)(d l:AT):Prop where
 ex:∃ (a b:Int) (ns:!Int),H d=some (.dK (cE a b l))/\H l=some (.lst (ns.map V.int))/\0<=a/\a < 2147483647/\0<=b/\∀ n∈ns,0<=n
def LX(d l:AT)(H H':Hp):Prop:=∀ c o,H c=some o->c≠d->c≠l->H' c=some o
theorem LX.refl(d l:AT)(H:Hp):LX d l H H:=λ_ _ h _ _=>h
theorem At.ne{H:Hp}{d l:AT}(h:At H d l):d≠l:=by
 let(a,b,ns,h1,h2,r):=h.ex;exact HY h1 h2 (by intro z;cases z)
def xu:Sp:=λvs H Q _=>∃ (d l:AT) (m:Int),vs=[.ref d,.int m]/\At H d l/\0 < m/\m < 9223372036854775808/\∀ (r:Int) (H':Hp),0<=r->r < m->At H' d l->LX d l H H'->Q (.int r) H'
def xH(K:Frag):Sp:=λvs H Q _=>∃ (a:AT) (ns:!Int) (base:Int),vs=[.ref a,.int base]/\eM K H a (ns.map V.int)/\ns.length<=63/\0<=base/\base < 1000000/\∀ (d l:AT) (H':Hp),H d=none->H l=none->At H' d l->fQ H H'->Q (.ref d) H'
section
variable{P:Fk}{w:FB}{K:Frag}{mg:Str->Option AC}{base:Db}
abbrev nD:!Str:=["_law_deal_here","_law_many","_law_number","_law_one","_law_other"]
def wR:TS :=
 qm (kc (lj (bG 0) (tC (.str "number"))) (dU 2))
  (qm (NU (pV (jF (uz λi j=>.bl (decide (j < i))) (bG 2) (tC (.int 0))))
    (qm (vX (bG 0) (tC (.str "number")) (jF (rI IK λi j=>.int (i / j)) (bG 2) (bG 1))) (FZ (jF (rI (λ_ j=>0 < j) λi j=>.int (i % j)) (bG 2) (bG 1)))) IY)
  (qm (kc (jF (rI (λ_ j=>0 < j) λi j=>.int (i % j)) (jF (uz λi j=>.int (i+j)) (jF (rI vk λi j=>.int (i * j)) (lj (bG 0) (tC (.str "seed"))) (tC (.int 48271))) (tC (.int 7919))) (tC (.int 2147483647))) (dU 3))
  (qm (vX (bG 0) (tC (.str "seed")) (jF (rI (λ_ j=>0 < j) λi j=>.int (i % j)) (jF (uz λi j=>.int (i+j)) (jF (rI vk λi j=>.int (i * j)) (bG 3) (tC (.int 40692))) (tC (.int 104729))) (tC (.int 2147483399))))
  (qm (kc (jF (rI (λ_ j=>0 < j) λi j=>.int (i % j)) (jF (rI vk λi j=>.int (i * j)) (lj (bG 0) (tC (.str "seed"))) (lj (bG 0) (tC (.str "seed")))) (tC (.int 2147483563))) (dU 4))
  (FZ (jF (rI (λ_ j=>0 < j) λi j=>.int (i % j)) (jF (uz λi j=>.int (i+j)) (jF (rI vk λi j=>.int (i * j)) (jF (rI (λ_ j=>0 < j) λi j=>.int (i % j)) (jF (rI vk λi j=>.int (i * j)) (bG 3) (bG 3)) (tC (.int 2147483629))) (tC (.int 2147483563))) (bG 4)) (bG 1)))))))
def Ol(K:Frag):TS :=
 qm (Dk (Nh (pV (jF QV (lj (bG 0) (tC (.str "number"))) (tC (.int 0)))) (pV (jF (uz λi j=>.bl (decide (j < i))) (FE (λxs H Q=>∃ p ys,xs=[.ref p]/\(eM K H p ys\/ir K H p ys)/\Q (.int ys.length) H) (nX (lj (bG 0) (tC (.str "left"))) xB)) (tC (.int 0)))))
  (vX (bG 0) (tC (.str "number")) (KW K "list" JW (lj (bG 0) (tC (.str "left")))))) wR
theorem Hm{st:Fa}{f:AT}{fd:Ix}(F:Bh K "_law_draw" "_law_draw" st f fd)(sc:av nD ["_law_deal_here","_law_many"] (ai st))(hb:∀ (bT:AC) (A:Fr) (outer:!Env) (s:Cl) (H:Hp) (E:XK),(A.deeper (PyProof.Rows.envOfC "_law_draw" (ai st) ↑s f bT)).units+1 < cLine ->
   sO (n9 aQ P w K mg base nD "_law_draw" (ai st) f bT A outer s H E).FA (bx st) (Ol K)) :
  eV P w K mg base aQ 1 f fd ["_law_deal_here","_law_many"] xu:=by
 show F.ok sc (λvs H Q E h=>?_) (λbT A outer s H vs Q E hr h=>?_)
 .let(d,l,m,rfl,_):=h
  rfl
 .let(d,l,m,rfl,D,hm,hm2,k):=h;show#[_,hb _ _ _ _ _ _ (dm hr),?_];let(a0,b0,ns0,hd0,hl0,ha0,ha0',hb0,hns0):=D.ex;have ndl:d≠l:=D.ne
  -- while
  show#[λμ σ H1=>∃ (b:Int) (ns:!Int),σ=[some (.ref d),some (.int m),none,none,none]/\H1 d=some (.dK (cE a0 b l))/\H1 l=some (.lst (ns.map V.int))/\0<=b/\(∀ n∈ns,0<=n)/\LX d l H H1/\μ=ns.length,
   #[ns0.length,b0,ns0,U,hd0,hl0,hb0,hns0,LX.refl _ _ _,U],?_]
  rintro μ σ H1 ⟨b,ns,rfl,hd,hl,hb,oo,bt,rfl⟩
  -- behind the loop
  have rest:wR
    { nx:=λ_ H'=>Q .cA H',rt:=Q } [some (.ref d),some (.int m),none,none,none] H1:=by
   show#[_,U,d,_,U,p7 hd,?_];show#[_,U,_,_,U,U,_,U,Jz (λhpos=>?_) (λhpos=>?_)]
   .have hpos:0 < b:=of_decide_eq_true hpos;show#[_,U,_,U,_,_,U,U,#[hm,hm2],_,U,d,_,U,nE hd,?_];show#[_,U,_,U,_,_,U,U,hm,?_];show k (b % m) _ (W0 _ (by cbv)) (WW _ hm) #[a0,b / m,ns,aA,by rw[aw (Ne.symm ndl)];exact hl,ha0,ha0',X6 hb (by cbv),oo] λc o e h1 h2=>?_;rw[aw h1];exact bt c o e h1 h2
   .refine#[_,U,d,_,U,p6 hd,_,_,U,U,.inr #[by decide,by decide],_,_,U,U,_,_,U,U,(by change (0:Int) < 2147483647;decide),?_];have h1:0<=(a0 * 48271+7919) % 2147483647:=W0 _ ();have h2:(a0 * 48271+7919) % 2147483647 < 2147483647:=WW _ ();show#[_,U,_,_,U,U,.inr #[by decide,by decide],_,_,U,U,_,_,U,U,(by change (0:Int) < 2147483399;decide),_,U,d,_,U,Bl hd,?_];have h3:0<=((a0 * 48271+7919) % 2147483647 * 40692+104729) % 2147483399:=W0 _ ();have h4:((a0 * 48271+7919) % 2147483647 * 40692+104729) % 2147483399 < 2147483399:=WW _ ();show#[_,U,d,_,U,p6 aA,_,U,d,_,U,p6 aA,_,_,U,U,.inl #[by cbv,by cbv],_,_,U,U,(by change (0:Int) < 2147483563;decide),?_];show#[_,U,_,U,_,_,U,U,.inl #[by cbv,by cbv],_,_,U,U,(by change (0:Int) < 2147483629;decide),_,_,U,U,.inr #[by decide,by decide],_,U,_,_,U,U,_,U,_,_,U,U,hm,?_];show k _ _ (W0 _ (by cbv)) (WW _ hm) #[_,b,ns,aA,by rw[aw (Ne.symm ndl)];exact hl,h3,by cbv,hb,oo] λc o e h1 h2=>?_;rw[aw h1];exact bt c o e h1 h2
  show#[_,U,d,_,U,p7 hd,U,_,U,?_];show Jz (λh0=>?_) (λh0=>?_)
  .refine#[_,U,d,_,U,wD hd,l,_,U,.inl (eM.of hl),_,_,U,U,_,U,?_];show Jz (λh1=>?_) (λh1=>?_)
   .have h1:(0:Int) < ((ns.map V.int).length:Int):=of_decide_eq_true h1;rw[Vv] at h1;obtain⟨init,x,rfl⟩:∃ init x,ns=init++[x]:=by
     rcases List.eq_nil_or_concat ns with e | ⟨i,x,e⟩
     .subst e;simp at h1
     .exact#[i,x,by simpa using e]
    show#[λσ' H'=>∃ (b:Int) (ns:!Int),σ'=[some (.ref d),some (.int m),none,none,none]/\H' d=some (.dK (cE a0 b l))/\H' l=some (.lst (ns.map V.int))/\0<=b/\(∀ n∈ns,0<=n)/\LX d l H H'/\ns.length < (init++[x]).length,?_,?_]
    .rintro σ' H' ⟨b',ns',e1,e2,e3,e4,e5,e6,e7⟩;exact#[ns'.length,e7,b',ns',e1,e2,e3,e4,e5,e6,U]
    .refine#[_,U,d,_,U,wD hd,.inl #[U,_,eM.of hl],l,_,.int x,U,U,hl,by simp,?_];have hd':(upd H1 l (.lst ((init++[x]).map V.int).dropLast)) d=some (.dK (cE a0 b l)):=by rw[aw ndl];exact hd
     show#[_,U,d,_,U,nE hd',?_];show#[x,init,U,aA,?_,oo x (by simp),λn hn=>oo n (by simp[hn]),λc o e h1 h2=>?_,by simp]
     .rw[aw (Ne.symm ndl),aA,VA,VE,Wj,List.dropLast_concat]
     .rw[aw h1,aw h2];exact bt c o e h1 h2
   .exact rest
  .exact rest
abbrev nL:!Str:=["_law_script","_law_base","_law_some","_law_number","_law_one"]
def Rc:!V->Hp->VK->Prop:=λxs H Q=>∃ i j,xs=[.int i,.int j]/\Q (.int (if j > i then j else i)) H
def Mu(K:Frag):TS :=
 qm (kc (wV 1 [] (Af K (SJ (Of K) (bG 0) (DC (bG 1)) (DC (tC (.int 63))))) (dU 0) IH (FE Rc (nX (bG 0) (nX (jF (uz λi j=>.int (i - j)) (tC (.int 0)) (bG 0)) xB)))) (dU 2))
 (qm (kc (jF (uz λi j=>.int (i+j)) (tC (.int 7919)) (bG 1)) (dU 3))
 (qm (PQ (Af K (bG 2)) (dU 4) (kc (jF (rI (λ_ j=>0 < j) λi j=>.int (i % j)) (jF (uz λi j=>.int (i+j)) (jF (rI vk λi j=>.int (i * j)) (bG 3) (tC (.int 48271))) (jF (rI (λ_ j=>0 < j) λi j=>.int (i % j)) (bG 4) (tC (.int 2147483629)))) (tC (.int 2147483647))) (dU 3)))
 (FZ (HZ [(tC (.str "seed"),bG 3),(tC (.str "number"),tC (.int 0)),(tC (.str "left"),wq K (wV 1 [] (Af K (bG 2)) (dU 0) (pV (jF (uz λi j=>.bl (decide (j<=i))) (bG 0) (jF (rI M8 λi j=>.int (i ^ j.toNat)) (tC (.int 10)) (tC (.int 18))))) (bG 0)))]))))
theorem Gq(ns:!Int)(lo hi:Option Int):∃ ms:!Int,qQ (ns.map V.int) lo hi=ms.map V.int/\ms.length<=ns.length:=by
 show#[(ns.drop (HT.b5 ns.length 0 lo)).take (HT.b5 ns.length ns.length hi - HT.b5 ns.length 0 lo),?_,?_]
 .unfold qQ;rw[Vv,<- List.map_drop,<- List.map_take]
 .rw[Wy,WU];cbv
def ou(i:Int):Int:=if 0 - i > i then 0 - i else i
theorem Gg(i:Int):0<=ou i:=by
 unfold ou;split<;>cbv
def HN:V->V
 | .int i=>.int (ou i)
 | v=>v
def JS:V->Bool
 | .int i=>decide ((10:Int) ^ (18:Int).toNat<=i)
 | _=>false
theorem Hk{st:Fa}{f:AT}{fd:Ix}(F:Bh K "_law_deal" "_law_deal" st f fd)(sc:av nL ["_law_script","_law_base"] (ai st))(hb:∀ (bT:AC) (A:Fr) (outer:!Env) (s:Cl) (H:Hp) (E:XK),sO (n9 aQ P w K mg base nL "_law_deal" (ai st) f bT A outer s H E).FA (bx st) (Mu K)) :
  eV P w K mg base aQ 1 f fd ["_law_script","_law_base"] (xH K):=by
 show F.ok sc (λvs H Q E h=>?_) (λbT A outer s H vs Q E hr h=>?_)
 .let(a,ns,bs,rfl,_):=h
  rfl
 .let(a,ns,bs,rfl,hS,hn,hb0,hb1,k):=h;show#[_,hb _ _ _ _ _ _,?_];let(ms,ems,hms):=Gq ns (some bs) (some 63);show#[_,U,_,U,_,U,_,U,a,_,U,hS,λp hp=>#[p,U,#[_,eM.of aA],?_]];rw[ems];show kx (xs:=ms.map V.int) (λ_=>true) HN (eM.of aA) (by rw[Vv];exact VF (VF hms hn) ()) () (λx hx H1 k1 q=>q) (λx hx _ H1 k1 q=>?_) (λD hD=>?_)
  .let(i,_,rfl):=VI.mp hx;exact#[_,U,_,U,_,_,U,U,_,_,U,q]
  .have hD0:H D=none:=(fQ.upd hp).free hD;have e1:((ms.map V.int).filter λ_=>true).map HN=(ms.map ou).map V.int:=by
    rw[List.filter_eq_self.mpr (by simp),List.map_map,List.map_map]
    rfl
   rw[e1];have s1:fQ H (upd (upd H p (.lst (ms.map V.int))) D (.lst ((ms.map ou).map V.int))):=(fQ.upd hp).trans (fQ.upd hD);generalize hH2:upd (upd H p (.lst (ms.map V.int))) D (.lst ((ms.map ou).map V.int))=H2 at s1;have hD2:H2 D=some (.lst ((ms.map ou).map V.int)):=by rw[<- hH2];exact aA
   -- number=7919+base
   show#[_,U,_,_,U,U,?_]
   -- for
   show#[_,U,D,U,#[_,eM.of hD2],EE (K:=K) (a:=D) (xs:=(ms.map ou).map V.int) (λi σ H3=>∃ (n:Int) (v:Option V),σ=[some (.ref a),some (.int bs),some (.ref D),some (.int n),v]/\0<=n/\n < 2147483647/\H3=H2)
    #[7919+bs,none,U,by cbv,by cbv,U] (λi σ H3 _ #[_,_,_,_,_,e]=>by rw[e];exact eM.of hD2) ?_ ?_]
   .rintro i y σ H3 hi ⟨n,v,rfl,h0,h1,rfl⟩;let(j,_,rfl):=VI.mp (V8 hi);show#[_,U,_,_,U,U,.inr #[by decide,by decide],_,U,_,_,U,U,(by change (0:Int) < 2147483629;decide),_,_,U,U,_,_,U,U,(by change (0:Int) < 2147483647;decide),?_];exact#[_,_,U,W0 _ (),WW _ (),U]
   .rintro σ H3 ⟨n,v,rfl,h0,h1,rfl⟩
    -- the dict
    intro d hd;have hd0:H d=none:=s1.free hd;have hDd:(upd H3 d (.dK [])) D=some (.lst ((ms.map ou).map V.int)):=by rw[aw (aF hD2 hd)];exact hD2
    show#[_,U,_,U,D,U,#[_,eM.of hDd],?_];show kx (xs:=(ms.map ou).map V.int) JS id (eM.of hDd) (by rw[Vv,Vv];exact VF (VF hms hn) ()) () (λx hx H1 k1 q=>?_) (λx hx _ H1 k1 q=>#[_,U,q]) (λD2 hD2'=>?_)
    .let(i,_,rfl):=VI.mp hx;exact#[_,U,_,_,U,U,#[by decide,by decide,by decide],_,_,U,U,_,U,q]
    .refine#[D2,_,U,eM.of aA,λl hl=>?_];have ndD2:d≠D2:=aF aA hD2';have ndl:d≠l:=aF (H:=upd (upd H3 d (.dK [])) D2 _) (by rw[aw ndD2];exact aA) hl;show#[by rw[aw ndl,aw ndD2];exact aA,cE n 0 l,U,(by change 3<=15;decide),?_];rw[Lk];have hD20:H D2=none:=(s1.trans (fQ.upd hd)).free hD2';have hl0:H l=none:=((s1.trans (fQ.upd hd)).trans (fQ.upd hD2')).free hl;have e3:∃ ks:!Int,((((ms.map ou).map V.int).filter JS).map id).reverse=ks.map V.int/\∀ n∈ks,0<=n:=by
      show#[((ms.map ou).filter λi=>JS (.int i)).reverse,?_,?_]
      .rw[List.map_id,List.filter_map,X1]
       rfl
      .intro n hn';let(i,_,rfl):=VI.mp (Wo.mp (List.mem_reverse.mp hn')).1;exact Gg i
     let(ks,e3,hks):=e3;rw[e3];show k d l _ hd0 hl0 #[n,0,ks,aA,by rw[aw (Ne.symm ndl)];exact aA,h0,h1,Int.le_refl _,hks] ?_;exact (((s1.trans (fQ.upd hd)).trans (fQ.upd hD2')).Pm hl0).Pm hd0
end
theorem jU(c:Nat):(#[#v[c]]:Str).length=1:=rfl
theorem cB(x y:Str):(x++y).length=x.length+y.length:=by
 first
  | exact XT x y
  | (show (x.cps++y.cps).size=x.cps.size+y.cps.size;exact Array.size_append)
theorem join_ones:∀ (cs:!Nat),(Txt.join ("":Str) (cs.map λc=>(#[#v[c]]:Str))).length<=cs.length
 | []=>VB _
 | [c]=>VB _
 | c::d::r=>by
  have ih:=join_ones (d::r);have e:(Txt.join ("":Str) ((c::d::r).map λc=>(#[#v[c]]:Str)))=(#[#v[c]]:Str)++("":Str)++Txt.join ("":Str) ((d::r).map λc=>(#[#v[c]]:Str)):=by
   unfold Txt.join;rw[W8,W8]
   rfl
  rw[e,cB,cB];have:("":Str).length=0:=rfl;rw[jU];change _<=(d::r).length+1;cbv
theorem v3:∀ (cs:!Nat),((cs.map λc=>(#[#v[c]]:Str)).map (·.length)).sum=cs.length
 | []=>rfl
 | c::r=>by
  rw[VE,VE,We,v3 r,VD];have:(#[#v[c]]:Str).length=1:=rfl;cbv
abbrev NA:Str:="abcdefghijklmnopqrstuvwxyz"
def near:!Str:=["lets","asks","maker","tabs","too","news","zeros","casey","madex","defa","num","askedx"]
end cH
namespace DL
open PySem PySem.Spec L2
open PyProof.Rows hiding St
theorem dq{α β γ δ:Type}{P Q R:α->β->γ->δ->Prop}{C:Prop}(h:∃ a b c d,P a b c d/\Q a b c d/\R a b c d)(k:∀ a b c d,P a b c d->Q a b c d->R a b c d->C):C:=by
 let(a,b,c,d,h1,h2,h3):=h;exact k a b c d h1 h2 h3
set_option genInjectivity true in inductive D where
 | cA | bl (b:Bool) | int (i:Int) | str (x:Str) | fO (a:AT) | ty (n:String)
 | tup (ds:!D) | lst (ds:!D) | vv (ks:!Key) (vs:!D) | j9 (ks:!(!Key)) (vs:!D)
 | yR (ks:!(!Key)) (vs:!D)
def uP(o:Obj)(ts:!AT):Prop:=o.ExactDict/\∃ es ep,o.data=.dict es ep/\es.toList.map (·.key)=ts.map AC.ref
def TupAt(_K:Frag)(H:Hp)(M:AT->Prop)(a:AT)(xs:!V):Prop:=M a/\H a=some (.tup xs)
theorem TupAt.sq{K:Frag}{H:Hp}{M:AT->Prop}{a:AT}{xs:!V}(h:TupAt K H M a xs):ir K H a xs:=.of h.2
section
variable(K:Frag)(H:Hp)(M:AT->Prop)
mutual
noncomputable def Rep:D->V->Prop
 | .cA,v=>v=.cA
 | .bl b,v=>v=.bl b
 | .int i,v=>v=.int i
 | .str x,v=>v=.str x
 | .fO a,v=>v=.ref a
 | .ty n,v=>v=.ty n
 | .tup ds,v=>∃ a xs,v=.ref a/\TupAt K H M a xs/\ay ds xs
 | .lst ds,v=>∃ a xs,v=.ref a/\(M a/\H a=some (.lst xs))/\ay ds xs
 | .vv ks vs,v=>∃ (a:AT) (kvs:!(Key×V)),v=.ref a/\(M a/\H a=some (.dK kvs))/\kvs.map (·.1)=ks/\ay vs (kvs.map (·.2))
 | .j9 ks vs,v=>∃ (a:AT) (kvs:!(!Key×V)),v=.ref a/\(M a/\H a=some (.dT kvs))/\kvs.map (·.1)=ks/\ay vs (kvs.map (·.2))
 | .yR ks vs,v=>∃ (a:AT) (o:Obj) (kvs:!(!Key×V)) (ts:!AT),v=.ref a/\(M a/\H a=some (.fB o (.dT kvs)))/\uP o ts/\Paired (λk t=>M t/\H t=some (.tup (k.map kV))) ks ts/\kvs.map (·.1)=ks/\ay vs (kvs.map (·.2))
noncomputable def ay:!D->!V->Prop
 | [],xs=>xs=[]
 | d::ds,xs=>∃ x r,xs=x::r/\Rep d x/\ay ds r
end
def cz:D->HO->Prop
 | .lst ds,.lst xs=>ay K H M ds xs
 | .vv ks vs,.dK kvs=>kvs.map (·.1)=ks/\ay K H M vs (kvs.map (·.2))
 | .j9 ks vs,.dT kvs=>kvs.map (·.1)=ks/\ay K H M vs (kvs.map (·.2))
 | _,_=>False
end
section
variable{K:Frag}{H H':Hp}{M M':AT->Prop}
theorem TupAt.mono(hM:∀ b,M b->M' b)(hH:∀ b o,M b->H b=some o->H' b=some o){a:AT}{xs:!V}(h:TupAt K H M a xs):TupAt K H' M' a xs:=#[hM a h.1,hH a _ h.1 h.2]
mutual
theorem Rep.mono(hM:∀ b,M b->M' b)(hH:∀ b o,M b->H b=some o->H' b=some o):∀ (d:D) (v:V),Rep K H M d v->Rep K H' M' d v
 | .cA,v,h=>h
 | .bl b,v,h=>h
 | .int i,v,h=>h
 | .str x,v,h=>h
 | .fO a,v,h=>h
 | .ty n,v,h=>h
 | .tup ds,v,h=>by
  let(a,xs,e,t,r):=h;exact#[a,xs,e,t.mono hM hH,ay.mono hM hH ds xs r]
 | .lst ds,v,h=>by
  let(a,xs,e,(m,t),r):=h;exact#[a,xs,e,#[hM a m,hH a _ m t],ay.mono hM hH ds xs r]
 | .vv ks vs,v,h=>by
  let(a,xs,e,(m,t),k,r):=h;exact#[a,xs,e,#[hM a m,hH a _ m t],k,ay.mono hM hH vs _ r]
 | .j9 ks vs,v,h=>by
  let(a,xs,e,(m,t),k,r):=h;exact#[a,xs,e,#[hM a m,hH a _ m t],k,ay.mono hM hH vs _ r]
 | .yR ks vs,v,h=>by
  let(a,o,xs,ts,e,(m,t),q,p,k,r):=h;exact#[a,o,xs,ts,e,#[hM a m,hH a _ m t],q,L2.Paired.D6 p λk t z=>#[hM t z.1,hH t _ z.1 z.2],k,ay.mono hM hH vs _ r]
theorem ay.mono(hM:∀ b,M b->M' b)(hH:∀ b o,M b->H b=some o->H' b=some o):∀ (ds:!D) (vs:!V),ay K H M ds vs->ay K H' M' ds vs
 | [],vs,h=>h
 | d::ds,vs,h=>by
  let(x,r,e,h1,h2):=h;exact#[x,r,e,Rep.mono hM hH d x h1,ay.mono hM hH ds r h2]
end
theorem cz.mono(hM:∀ b,M b->M' b)(hH:∀ b o,M b->H b=some o->H' b=some o){d:D}{o:HO}(h:cz K H M d o):cz K H' M' d o:=by
 unfold cz at h ⊢;split at h
 .exact ay.mono hM hH _ _ h
 .exact#[h.1,ay.mono hM hH _ _ h.2]
 .exact#[h.1,ay.mono hM hH _ _ h.2]
 .exact h.elim
theorem ay.length:∀ {ds:!D} {vs:!V},ay K H M ds vs->vs.length=ds.length
 | [],vs,h=>by
  have h:vs=[]:=h;rw[h];rfl
 | d::ds,vs,h=>by
  let(x,r,e,h1,h2):=h;rw[e,VD,VD,ay.length h2]
theorem ay.get:∀ {ds:!D} {vs:!V} {i:Nat} {d:D},ay K H M ds vs->ds[i]?=some d->∃ v,vs[i]?=some v/\Rep K H M d v
 | [],vs,i,d,h,e=>by simp at e
 | c::ds,vs,0,d,h,e=>by
  let(x,r,rfl,h1,h2):=h;simp at e;subst e;exact#[x,U,h1]
 | c::ds,vs,i+1,d,h,e=>by
  let(x,r,rfl,h1,h2):=h;let(v,h3,h4):=ay.get (i:=i) (d:=d) h2 (by simpa using e);exact#[v,by simpa using h3,h4]
theorem ay.append:∀ {ds es:!D} {vs ws:!V},ay K H M ds vs->ay K H M es ws->ay K H M (ds++es) (vs++ws)
 | [],es,vs,ws,h,h'=>by
  have h:vs=[]:=h;rw[h];exact h'
 | d::ds,es,vs,ws,h,h'=>by
  let(x,r,rfl,h1,h2):=h;exact#[x,r++ws,U,h1,ay.append h2 h']
theorem ay.take:∀ {ds:!D} {vs:!V} (n:Nat),ay K H M ds vs->ay K H M (ds.take n) (vs.take n)
 | [],vs,n,h=>by
  have h:vs=[]:=h;rw[h];simp[ay]
 | d::ds,vs,0,h=>by simp[ay]
 | d::ds,vs,n+1,h=>by
  let(x,r,rfl,h1,h2):=h;exact#[x,r.take n,U,h1,ay.take n h2]
theorem ay.drop:∀ {ds:!D} {vs:!V} (n:Nat),ay K H M ds vs->ay K H M (ds.drop n) (vs.drop n)
 | [],vs,n,h=>by
  have h:vs=[]:=h;rw[h];simp[ay]
 | d::ds,vs,0,h=>h
 | d::ds,vs,n+1,h=>by
  let(x,r,rfl,h1,h2):=h;exact ay.drop n h2
theorem ay.one{d:D}{v:V}(h:Rep K H M d v):ay K H M [d] [v]:=#[v,[],U,h,U]
theorem ay.reverse:∀ {ds:!D} {vs:!V},ay K H M ds vs->ay K H M ds.reverse vs.reverse
 | [],vs,h=>by
  have h:vs=[]:=h;rw[h]
  rfl
 | d::ds,vs,h=>by
  let(x,r,rfl,h1,h2):=h;rw[Xb,Xb];exact ay.append (ay.reverse h2) (ay.one h1)
theorem ay.set{d:D}{v:V}(r:Rep K H M d v):∀ {ds:!D} {vs:!V} (i:Nat),ay K H M ds vs->ay K H M (ds.set i d) (vs.set i v)
 | [],vs,i,h=>by
  have h:vs=[]:=h;rw[h]
  rfl
 | c::ds,vs,0,h=>by
  let(x,r',rfl,h1,h2):=h;exact#[v,r',U,r,h2]
 | c::ds,vs,i+1,h=>by
  let(x,r',rfl,h1,h2):=h;exact#[x,r'.set i v,U,h1,ay.set r i h2]
theorem ay.eraseIdx:∀ {ds:!D} {vs:!V} (i:Nat),ay K H M ds vs->ay K H M (ds.eraseIdx i) (vs.eraseIdx i)
 | [],vs,i,h=>by
  have h:vs=[]:=h;rw[h]
  rfl
 | c::ds,vs,0,h=>by
  let(x,r',rfl,h1,h2):=h;exact h2
 | c::ds,vs,i+1,h=>by
  let(x,r',rfl,h1,h2):=h;exact#[x,r'.eraseIdx i,U,h1,ay.eraseIdx i h2]
end
structure BC where
 own:AT->Prop
 inv:Hp->Prop
 loc:∀ H H',inv H->(∀ b o,(own b\/∃ φ,o=HO.ext φ)->H b=some o->H' b=some o)->inv H'
 JG:∀ H b,inv H->own b->∃ o,H b=some o
 nt:∀ H b xs,inv H->own b->H b≠some (.tup xs)
 qN:!AT:=[]
def BC.no:BC:=#[λ_=>False,λ_=>True,λ_ _ _ _=>trivial,λ_ _ _ h=>h.elim,λ_ _ _ _ h=>h.elim,[]]
def Nu(H:Hp)(b:AT):Prop:=H b=none\/∃ xs,H b=some (.tup xs)
def aW(d l:AT):BC where
 own:=λb=>b=d\/b=l
 inv:=λH=>cH.At H d l
 loc:=λH H' h k=>by
  let(a,b,ns,h1,h2,r):=h.ex;exact#[a,b,ns,k _ _ (.inl (.inl U)) h1,k _ _ (.inl (.inr U)) h2,r]
 JG:=λH b h e=>by
  let(a,_,ns,h1,h2,r):=h.ex;rcases e with rfl | rfl
  .exact#[_,h1]
  .exact#[_,h2]
 nt:=λH b xs h e=>by
  let(a,_,ns,h1,h2,r):=h.ex;rcases e with rfl | rfl
  .rw[h1];intro z;cases z
  .rw[h2];intro z;cases z
structure Ent where
 g:BC
 M0:AT->Prop
 H0:Hp
structure Base(c:Ent)(M:AT->Prop)(H:Hp):Prop where
 qe:c.g.inv H
 fr:∀ b o,c.H0 b=some o->¬ c.g.own b->H b=some o
 md:∀ b,M b->∃ o,H b=some o
 mo:∀ b,M b->¬ c.g.own b
 m0:∀ b,c.M0 b->M b
 mn:∀ b,M b->c.M0 b\/Nu c.H0 b
set_option genInjectivity true in inductive Sl where
 | no | dat (d:D) | own (k:Nat)
structure DS where
 sl:!Sl
 os:!(Option D)
def d4(s:DS)(as:!AT)(b:AT):Prop:=∃ (k:Nat) (d:D),s.os[k]?=some (some d)/\as[k]?=some b
structure aC(K:Frag)(c:Ent)(M:AT->Prop)(s:DS)(as:!AT)(σ:St)(H:Hp):Prop where
 base:Base c M H
 len:s.sl.length=σ.length
 gr:as.length=s.os.length
 dat:∀ (i:Nat) (d:D),s.sl[i]?=some (.dat d)->∃ v,σ[i]?=some (some v)/\Rep K H M d v
 own:∀ (i k:Nat),s.sl[i]?=some (.own k)->∃ a,as[k]?=some a/\σ[i]?=some (some (.ref a))
 obj:∀ (k:Nat) (d:D) (a:AT),s.os[k]?=some (some d)->as[k]?=some a->(∃ o,H a=some o/\cz K H M d o)/\¬ M a/\¬ c.g.own a/\c.H0 a=none
 inj:∀ (k l:Nat) (d e:D) (a:AT),s.os[k]?=some (some d)->s.os[l]?=some (some e)->as[k]?=some a->as[l]?=some a->k=l
 lt:∀ (k:Nat) (a:AT),c.g.qN[k]?=some a->as[k]?=some a
structure Ext(c:Ent)(as:!AT)(M:AT->Prop)(s:DS)(H:Hp)(M':AT->Prop)(s':DS)(H':Hp):Prop where
 sub:∀ b,M b->M' b
 new:∀ b,M' b->M b\/Nu H b\/d4 s as b
 keep:∀ b o,H b=some o->¬ c.g.own b->¬ d4 s as b->H' b=some o
 jt:∀ b,d4 s' as b->d4 s as b
section
variable{K:Frag}{c:Ent}{M M' M1 M2:AT->Prop}{s s' s1 s2:DS}{as:!AT}{σ:St}{H H' H1 H2:Hp}{a p:AT}{o:HO}{d:D}{v:V}
theorem aC.nM(L:aC K c M s as σ H)(h:d4 s as a):¬ M a/\¬ c.g.own a/\c.H0 a=none/\∃ o,H a=some o:=by
 let(k,d,h1,h2):=h;let((o,q,_),q1,q2,q3):=L.obj k d a h1 h2;exact#[q1,q2,q3,o,q]
theorem Base.zD(B:Base c M H)(h:H a=none):c.H0 a=none:=by
 cases e:c.H0 a with
 | none=>rfl
 | some o =>
  exfalso;by_cases q:c.g.own a
  .let(o',h'):=c.g.JG H a B.qe q;rw[h] at h';cases h'
  .have:=B.fr a o e q;rw[h] at this;cases this
theorem Ext.Cs(E:Ext c as M s H M' s' H')(L:aC K c M s as σ H):∀ b o,M b->H b=some o->H' b=some o:=λb o m h =>
 E.keep b o h (L.base.mo b m) λq=>(L.nM q).1 m
theorem Ext.rep(E:Ext c as M s H M' s' H')(L:aC K c M s as σ H)(r:Rep K H M d v):Rep K H' M' d v:=Rep.mono E.sub (E.Cs L) d v r
theorem Ext.vK(E:Ext c as M s H M' s' H')(L:aC K c M s as σ H){ds:!D}{vs:!V}(r:ay K H M ds vs):ay K H' M' ds vs:=ay.mono E.sub (E.Cs L) ds vs r
theorem Ext.refl:Ext c as M s H M s H:=#[λ_ h=>h,λ_ h=>.inl h,λ_ _ h _ _=>h,λ_ h=>h]
theorem Ext.trans(E1:Ext c as M s H M1 s1 H1)(B1:Base c M1 H1)(E2:Ext c as M1 s1 H1 M2 s2 H2):Ext c as M s H M2 s2 H2 where
 sub:=λb h=>E2.sub b (E1.sub b h)
 new:=λb h=>by
  rcases E2.new b h with h | h | h
  .exact E1.new b h
  .cases q:H b with
   | none=>exact .inr (.inl (.inl q))
   | some o =>
    by_cases g:c.g.own b
    .rcases h with h | ⟨xs,h⟩
     .let(o',h'):=c.g.JG H1 b B1.qe g;rw[h] at h';cases h'
     .exact absurd h (c.g.nt H1 b xs B1.qe g)
    .by_cases w:d4 s as b
     .exact .inr (.inr w)
     .have:=E1.keep b o q g w;rcases h with h | ⟨xs,h⟩
      .rw[h] at this;cases this
      .rw[h] at this;cases this;exact .inr (.inl (.inr #[xs,q]))
  .exact .inr (.inr (E1.jt b h))
 keep:=λb o h g w=>E2.keep b o (E1.keep b o h g w) g λq=>w (E1.jt b q)
 jt:=λb h=>E1.jt b (E2.jt b h)
theorem aC.laid(L:aC K c M s as σ H)(hp:H p=none):aC K c M s as σ (upd H p o):=by
 have kp:∀ b u,H b=some u->upd H p o b=some u:=λb u e=>by rw[aw (aF e hp)];exact e
 show#[#[c.g.loc H _ L.base.qe λb u _ e=>kp b u e,λb u e g=>kp b u (L.base.fr b u e g),λb m=>?_,L.base.mo,L.base.m0,L.base.mn],L.len,L.gr,λi d e=>?_,L.own,λk d a e1 e2=>?_,L.inj,L.lt]
 .let(u,e):=L.base.md b m;exact#[u,kp b u e]
 .let(v,h1,h2):=L.dat i d e;exact#[v,h1,Rep.mono (λ_ h=>h) (λb u _ e=>kp b u e) d v h2]
 .let((u,q,r),q1):=L.obj k d a e1 e2;exact#[#[u,kp _ _ q,cz.mono (λ_ h=>h) (λb u _ e=>kp b u e) r],q1]
theorem Ext.laid(hp:H p=none):Ext c as M s H M s (upd H p o):=#[λ_ h=>h,λ_ h=>.inl h,λb u e _ _=>by rw[aw (aF e hp)];exact e,λ_ h=>h]
theorem aC.Eu(L:aC K c M s as σ H)(ha:H a=some o)(g:¬ c.g.own a)(w:¬ d4 s as a)(h0:Nu c.H0 a):aC K c (λb=>M b\/b=a) s as σ H:=by
 have mk:∀ b u,M b->H b=some u->H b=some u:=λ_ _ _ e=>e;show#[#[L.base.qe,L.base.fr,λb m=>?_,λb m=>?_,λb m=>.inl (L.base.m0 b m),λb m=>?_],L.len,L.gr,λi d e=>?_,L.own,λk d b e1 e2=>?_,L.inj,L.lt]
 .rcases m with m | rfl
  .exact L.base.md b m
  .exact#[o,ha]
 .rcases m with m | rfl
  .exact L.base.mo b m
  .exact g
 .rcases m with m | rfl
  .exact L.base.mn b m
  .exact .inr h0
 .let(v,h1,h2):=L.dat i d e;exact#[v,h1,Rep.mono (λ_ h=>.inl h) mk d v h2]
 .let((u,q,r),q1,q2):=L.obj k d b e1 e2;show#[#[u,q,cz.mono (λ_ h=>.inl h) mk r],λm=>?_,q2];rcases m with m | rfl
  .exact q1 m
  .exact w #[k,d,e1,e2]
theorem aC.grown(L:aC K c M s as σ H)(ha:H a=some o)(g:¬ c.g.own a)(w:¬ d4 s as a)(h0:c.H0 a=none):aC K c (λb=>M b\/b=a) s as σ H:=L.Eu ha g w (.inl h0)
theorem cz.Az{xs:!V}(h:cz K H M d (.tup xs)):False:=by cases d<;>exact h
theorem cz.next{φ:Db->Prop}(h:cz K H M d (.ext φ)):False:=by cases d<;>exact h
theorem aC.JH{xs:!V}(L:aC K c M s as σ H)(ha:H a=some (.tup xs)):aC K c (λb=>M b\/b=a) s as σ H:=by
 have g:¬ c.g.own a:=λg=>c.g.nt H a xs L.base.qe g ha;show L.Eu ha g (λ#[k,d,h1,h2]=>?_) ?_
 .let((o,q,r),_):=L.obj k d a h1 h2;rw[ha] at q;cases q;exact r.Az
 .cases e:c.H0 a with
  | none=>exact .inl e
  | some o =>
   have:=L.base.fr a o e g;rw[ha] at this;cases this;exact .inr #[xs,e]
theorem aC.fresh(L:aC K c M s as σ H)(hp:H p=none):aC K c (λb=>M b\/b=p) s as σ (upd H p o):=by
 show (L.laid (o:=o) hp).grown aA (λg=>?_) (λw=>?_) (L.base.zD hp)
 .let(u,e):=c.g.JG H p L.base.qe g;rw[hp] at e;cases e
 .let(_,_,_,u,e):=L.nM w;rw[hp] at e;cases e
theorem Ext.fresh(hp:H p=none):Ext c as M s H (λb=>M b\/b=p) s (upd H p o):=#[λ_ h=>.inl h,λb h=>by
 rcases h with h | rfl
 .exact .inl h
 .exact .inr (.inl (.inl hp)),λb u e _ _=>by rw[aw (aF e hp)];exact e,λ_ h=>h]
theorem qG(hp:H p=none)(r:Rep K H M d v):Rep K (upd H p o) (λb=>M b\/b=p) d v:=Rep.mono (λ_ h=>.inl h) (λb u _ e=>by rw[aw (aF e hp)];exact e) d v r
theorem iR(hp:H p=none){ds:!D}{vs:!V}(r:ay K H M ds vs):ay K (upd H p o) (λb=>M b\/b=p) ds vs:=ay.mono (λ_ h=>.inl h) (λb u _ e=>by rw[aw (aF e hp)];exact e) ds vs r
theorem cz.rep(h:cz K H M d o)(ha:H a=some o)(m:M a):Rep K H M d (.ref a):=by
 unfold cz at h;split at h
 .exact#[a,_,U,#[m,ha],h]
 .exact#[a,_,U,#[m,ha],h.1,h.2]
 .exact#[a,_,U,#[m,ha],h.1,h.2]
 .exact h.elim
end
abbrev aV:=DS->(D->DS->Prop)->Prop
abbrev mF:=DS->(Bool->DS->Prop)->Prop
abbrev fW:=DS->(!D->DS->Prop)->Prop
structure kG where
 nx:DS->Prop
 rt:D->Prop
 rf:D->Prop:=λ_=>False
 bk:DS->Prop:=λ_=>False
 ct:DS->Prop:=λ_=>False
 rs:D->DS->Prop:=λ_ _=>False
abbrev kI:=kG->DS->Prop
section
variable(K:Frag)(c:Ent)
def tE(t:aV):TE:=λσ H Q=>∃ M s as R,aC K c M s as σ H/\t s R/\∀ d s',R d s'->∀ M' H' v,aC K c M' s' as σ H'->Ext c as M s H M' s' H'->Rep K H' M' d v->Q v H'
def tN(t:aV):TE:=λσ H Q=>∃ M s as R,aC K c M s as σ H/\t s R/\∀ d s',R d s'->∀ M' H' a o,aC K c M' s' as σ H'->Ext c as M s H M' s' H'->H' a=some o->cz K H' M' d o->¬ M' a->¬ c.g.own a->¬ d4 s' as a->c.H0 a=none->(H a=none\/d4 s as a)->Q (.ref a) H'
def tT(t:mF):TT:=λσ H Q=>∃ M s as R,aC K c M s as σ H/\t s R/\∀ b s',R b s'->∀ M' H',aC K c M' s' as σ H'->Ext c as M s H M' s' H'->Q b H'
def tA(n:Nat)(t:fW):TA:=λσ H Q=>∃ M s as R,aC K c M s as σ H/\t s R/\∀ ds s',R ds s'->∀ M' H' vs,aC K c M' s' as σ H'->Ext c as M s H M' s' H'->ay K H' M' ds vs->ds.length=n->Q vs H'
def dW(M:AT->Prop)(H:Hp)(M':AT->Prop)(H':Hp):Prop:=∀ b,M b->M' b/\∀ o,H b=some o->H' b=some o
structure zu(M:AT->Prop)(H:Hp)(R:kG)(E:Ends):Prop where
 nx:∀ s as M' σ H',R.nx s->aC K c M' s as σ H'->dW M H M' H'->E.nx σ H'
 bk:∀ s as M' σ H',R.bk s->aC K c M' s as σ H'->dW M H M' H'->E.bk σ H'
 ct:∀ s as M' σ H',R.ct s->aC K c M' s as σ H'->dW M H M' H'->E.ct σ H'
 rt:∀ d M' H' v,R.rt d->Base c M' H'->Rep K H' M' d v->E.rt v H'
 rf:∀ d M' H' a o,R.rf d->Base c M' H'->H' a=some o->cz K H' M' d o->¬ M' a->¬ c.g.own a->c.H0 a=none->E.rt (.ref a) H'
 rs:∀ d s as M' σ H' v,R.rs d s->aC K c M' s as σ H'->Rep K H' M' d v->E.rt v H'
def tS(t:kI):TS:=λE σ H=>∃ M s as R,aC K c M s as σ H/\t R s/\zu K c M H R E
end
structure DE(X:Cx)(c:Ent)(e:Ch)(t:aV):Prop where
 pe:PE X e (tE X.K c t)
structure DN(X:Cx)(c:Ent)(e:Ch)(t:aV):Prop where
 pe:PE X e (tN X.K c t)
structure DT(X:Cx)(c:Ent)(e:Ch)(t:mF):Prop where
 pt:PT X e (tT X.K c t)
structure DW(X:Cx)(c:Ent)(e:Ch)(t:mF):Prop where
 pw:PW X e (tT X.K c t)
structure DA(X:Cx)(c:Ent)(es:!Ch)(t:fW):Prop where
 pa:PA X es (tA X.K c es.length t)
structure vz(X:Cx)(c:Ent)(st:Fa)(t:kI):Prop where
 ps:PS X st (tS X.K c t)
structure yM(X:Cx)(c:Ent)(st:!Fa)(t:kI):Prop where
 ps:sO X st (tS X.K c t)
section
variable{X:Cx}
theorem _root_.L2.PE.imp{e:Ch}{t t':TE}(h:PE X e t)(w:∀ σ H Q,t' σ H Q->t σ H Q):PE X e t':=λTD s σ H Q I q=>h TD s σ H Q I (w σ H Q q)
theorem _root_.L2.PT.imp{e:Ch}{t t':TT}(h:PT X e t)(w:∀ σ H Q,t' σ H Q->t σ H Q):PT X e t':=λTD s σ H Q I q=>h TD s σ H Q I (w σ H Q q)
theorem _root_.L2.PW.imp{e:Ch}{t t':TT}(h:PW X e t)(w:∀ σ H Q,t' σ H Q->t σ H Q):PW X e t':=λwh TD s σ H Q I q=>h wh TD s σ H Q I (w σ H Q q)
theorem _root_.L2.PA.imp{es:!Ch}{t t':TA}(h:PA X es t)(w:∀ σ H Q,t' σ H Q->t σ H Q):PA X es t':=λpos TD s σ H Q I q=>h pos TD s σ H Q I (w σ H Q q)
theorem _root_.L2.PS.imp{st:Fa}{t t':TS}(h:PS X st t)(w:∀ E σ H,t' E σ H->t E σ H):PS X st t':=λTD s σ H E I q=>h TD s σ H E I (w E σ H q)
theorem _root_.L2.sO.imp{st:!Fa}{t t':TS}(h:sO X st t)(w:∀ E σ H,t' E σ H->t E σ H):sO X st t':=λTD s σ H E I q=>h TD s σ H E I (w E σ H q)
end
section
variable{X:Cx}{c:Ent}{a b e:Ch}{es:!Ch}{ta tb te:aV}{t:fW}{pos:Pos}
theorem Ext.plus{as:!AT}{M M':AT->Prop}{s s':DS}{H H':Hp}{a:AT}(E:Ext c as M s H M' s' H')(n:H a=none\/d4 s as a):Ext c as M s H (λb=>M' b\/b=a) s' H' :=
 #[λb h=>.inl (E.sub b h),λb h=>by
  rcases h with h | rfl
  .exact E.new b h
  .exact .inr (n.imp .inl id),E.keep,E.jt]
theorem DN.de(h:DN X c e te):DE X c e te:=#[h.pe.imp λσ H Q zz=>dq zz λM s as R L q k =>
 #[M,s,as,R,L,q,λd s' r M' H' a o L' E ha ro nm ng nw h0 hn =>
  k d s' r _ H' (.ref a) (L'.grown ha ng nw h0) (E.plus hn) ((ro.mono (λ_ h=>.inl h) λ_ _ _ e=>e).rep ha (.inr U))]]
def JP(i:Nat):aV:=λs Q=>∃ d,s.sl[i]?=some (.dat d)/\Q d s
theorem dv{i:Nat}(h:PE X e (bG i)):DE X c e (JP i):=#[h.imp λσ H Q z6q=>by
 let(M,s,as,R,L,(d,e,q),k):=z6q;let(v,h1,h2):=L.dat i d e;exact#[v,h1,k d s q M H v L .refl h2]]
def Ma(d:D):aV:=λs Q=>Q d s
def Rx:D->V->Prop
 | .cA,v=>v=.cA
 | .bl b,v=>v=.bl b
 | .int i,v=>v=.int i
 | .str x,v=>v=.str x
 | .fO a,v=>v=.ref a
 | .ty n,v=>v=.ty n
 | _,_=>False
theorem Rx.rep{d:D}{v:V}{K:Frag}{H:Hp}{M:AT->Prop}(h:Rx d v):Rep K H M d v:=by
 cases d<;>first | exact h | exact h.elim
theorem dc{d:D}{v:V}(h:PE X e (tC v))(r:Rx d v):DE X c e (Ma d):=#[h.imp λσ H Q zz=>dq zz λM s as R L q k=>k d s q M H v L .refl r.rep]
theorem ag{i j}:DE X c (.Constant (.int i) j pos) (Ma (.int i)):=dc bX U
theorem vY{i j}:DE X c (.Constant (.bool i) j pos) (Ma (.bl i)):=dc MW U
theorem qc{j}:DE X c (.Constant .none j pos) (Ma .cA):=dc J0 U
theorem aj{i j}:DE X c (.Constant (.str i) j pos) (Ma (.str i)):=dc dA U
def Ag:fW:=λs Q=>Q [] s
def uR(ta:aV)(tr:fW):fW:=λs Q=>ta s λd s1=>tr s1 λds s2=>Q (d::ds) s2
theorem ae:DA X c [] Ag:=#[d6.imp λσ H Q zz=>dq zz λM s as R L q k=>k [] s q M H [] L .refl U U]
theorem aa(ha:DE X c e te)(hr:DA X c es t)(hs:(Ye X.env e es)⁻¹):DA X c (e::es) (uR te t) :=
 #[(cq ha.pe hr.pa hs).imp λσ H Q zz=>dq zz λM s as R L q k =>
   #[M,s,as,_,L,q,λd s1 q1 M1 H1 x L1 E1 r1=>#[M1,s1,as,_,L1,q1,λds s2 q2 M2 H2 xs Lb E2 r2 hl =>
    k _ s2 q2 M2 H2 _ Lb (E1.trans L1.base E2) #[x,xs,U,E2.rep L1 r1,r2] (by rw[VD,VD,hl])]]]
def Og(t:fW):aV:=λs Q=>t s λds s1=>Q (.tup ds) s1
def NO(t:fW):aV:=λs Q=>t s λds s1=>Q (.lst ds) s1
theorem IG{n:Nat}(h:(n<=1000:Bool)=true):n<=Ev:=VF (of_decide_eq_true h) ()
theorem aK{x1}(h:DA X c es t)(hn:((es.length<=1000:Bool)=true)⁻¹):DE X c (.Tuple es x1 pos) (Og t):=#[(Ll h.pa).imp λσ H Q zz=>dq zz λM s as R L q k =>
 #[M,s,as,_,L,q,λds s1 q1 M1 H1 xs L1 E1 r1 hl=>#[by rw[r1.length,hl];exact IG hn,λp hp =>
  k _ s1 q1 _ _ _ (L1.fresh hp) (E1.trans L1.base (Ext.fresh hp)) #[p,xs,U,#[.inr U,aA],iR hp r1]]]]
theorem notM{K:Frag}{M:AT->Prop}{s:DS}{as:!AT}{σ:St}{H:Hp}{p:AT}(L:aC K c M s as σ H)(hp:H p=none):¬ M p/\¬ c.g.own p/\¬ d4 s as p/\c.H0 p=none:=by
 show#[λm=>?_,λg=>?_,λw=>?_,L.base.zD hp]
 .let(u,e):=L.base.md p m;rw[hp] at e;cases e
 .let(u,e):=c.g.JG H p L.base.qe g;rw[hp] at e;cases e
 .let(_,_,_,u,e):=L.nM w;rw[hp] at e;cases e
theorem gU{K:Frag}{as:!AT}{M M1:AT->Prop}{s s1:DS}{σ:St}{H H1:Hp}{p:AT}{o:HO}{Q:VK}{d:D}(L:aC K c M s as σ H)(L1:aC K c M1 s1 as σ H1)(E1:Ext c as M s H M1 s1 H1)(hp:H1 p=none)(r:cz K H1 M1 d o)(k:∀ M' H' a o,aC K c M' s1 as σ H'->Ext c as M s H M' s1 H'->H' a=some o->cz K H' M' d o->¬ M' a->¬ c.g.own a->¬ d4 s1 as a->c.H0 a=none->(H a=none\/d4 s as a)->Q (.ref a) H'):Q (.ref p) (upd H1 p o):=by
 let(n1,n2,n3,n4):=notM L1 hp;show k M1 (upd H1 p o) p o (L1.laid hp) (E1.trans L1.base (Ext.laid hp)) aA (r.mono (λ_ h=>h) λb u _ e=>by rw[aw (aF e hp)];exact e) n1 n2 n3 n4 ?_;cases q:H p with
 | none=>exact .inl U
 | some u =>
  by_cases w:d4 s as p
  .exact .inr w
  .have:=E1.keep p u q n2 w;rw[hp] at this;cases this
theorem az(h:DA X c es t)(hn:((es.length<=1000:Bool)=true)⁻¹):DN X c (.List es pos) (NO t):=#[(Kn h.pa).imp λσ H Q zz=>dq zz λM s as R L q k =>
 #[M,s,as,_,L,q,λds s1 q1 M1 H1 xs L1 E1 r1 hl=>#[by rw[r1.length,hl];exact IG hn,λp hp =>
  gU L L1 E1 hp (d:=.lst ds) r1 (k _ s1 q1)]]]
def Uc(C:D->(D->Prop)->Prop)(ta:aV):aV:=λs Q=>ta s λa s1=>C a λd=>Q d s1
def BA(C:D->D->(D->Prop)->Prop)(ta tb:aV):aV:=λs Q=>ta s λa s1=>tb s1 λb s2=>C a b λd=>Q d s2
def nF(X:Cx)(c:Ent)(r:R2)(C:D->D->(D->Prop)->Prop):Prop:=∀ (M:AT->Prop) (s:DS) (as:!AT) (σ:St) (H:Hp) (x y:V) (dx dy:D) (k:D->Prop) (Q:VK),aC X.K c M s as σ H->Rep X.K H M dx x->Rep X.K H M dy y->C dx dy k ->
 (∀ d,k d->∀ M' H' v,aC X.K c M' s as σ H'->Ext c as M s H M' s H'->Rep X.K H' M' d v->Q v H')->r x y H Q
def K5(X:Cx)(c:Ent)(r:R2)(C:D->D->(D->Prop)->Prop):Prop:=∀ (M:AT->Prop) (s:DS) (as:!AT) (σ:St) (H:Hp) (x y:V) (dx dy:D) (k:D->Prop) (Q:VK),aC X.K c M s as σ H->Rep X.K H M dx x->Rep X.K H M dy y->C dx dy k ->
 (∀ d,k d->∀ p o,H p=none->cz X.K H M d o->Q (.ref p) (upd H p o))->r x y H Q
theorem GA{r:R2}{C:D->D->(D->Prop)->Prop}(k:nF X c r C){σ:St}{H:Hp}{Q:VK}:tE X.K c (BA C ta tb) σ H Q->jF r (tE X.K c ta) (tE X.K c tb) σ H Q:=λzz=>dq zz λM s as R L q kk =>
 #[M,s,as,_,L,q,λda s1 q1 M1 H1 x L1 E1 r1=>#[M1,s1,as,_,L1,q1,λdb s2 q2 M2 H2 y Lb E2 r2 =>
  k M2 s2 as σ H2 x y da db (λd=>R d s2) Q Lb (E2.rep L1 r1) r2 q2 λd rd M' H' v L' E' rv=>kk d s2 rd M' H' v L' ((E1.trans L1.base E2).trans Lb.base E') rv]]
theorem QE{r:R2}{C:D->D->(D->Prop)->Prop}(k:K5 X c r C){σ:St}{H:Hp}{Q:VK}:tN X.K c (BA C ta tb) σ H Q->jF r (tE X.K c ta) (tE X.K c tb) σ H Q:=λzz=>dq zz λM s as R L q kk =>
 #[M,s,as,_,L,q,λda s1 q1 M1 H1 x L1 E1 r1=>#[M1,s1,as,_,L1,q1,λdb s2 q2 M2 H2 y Lb E2 r2 =>
  k M2 s2 as σ H2 x y da db (λd=>R d s2) Q Lb (E2.rep L1 r1) r2 q2 λd rd p o hp ro=>gU L Lb (E1.trans L1.base E2) hp ro (kk d s2 rd)]]
theorem bc{op:Operator}{r:R2}{C:D->D->(D->Prop)->Prop}(ho:ja X (Os op) r)(k:nF X c r C)(ha:DE X c a ta)(hb:DE X c b tb):DE X c (.BinOp a op b pos) (BA C ta tb):=#[(cS ho ha.pe hb.pe).imp λ_ _ _=>GA k]
theorem bz{op:Operator}{r:R2}{C:D->D->(D->Prop)->Prop}(ho:ja X (Os op) r)(k:K5 X c r C)(ha:DE X c a ta)(hb:DE X c b tb):DN X c (.BinOp a op b pos) (BA C ta tb):=#[(cS ho ha.pe hb.pe).imp λ_ _ _=>QE k]
theorem jC{op:CmpOp}{r:R2}{C:D->D->(D->Prop)->Prop}(ho:ja X (KB op) r)(k:nF X c r C)(ha:DE X c a ta)(hb:DE X c b tb)(hm:behindInMarks op b=false):DE X c (.Compare a [op] [b] pos) (BA C ta tb):=#[(Gu ho ha.pe hb.pe hm).imp λ_ _ _=>GA k]
theorem AO{r:R2}{C:D->D->(D->Prop)->Prop}(ho:HW X r)(k:nF X c r C)(ha:DE X c a ta)(hb:DE X c b tb)(hs:lq b):DE X c (.Subscript a b pos) (BA C ta tb):=#[(Ii ho ha.pe hb.pe hs).imp λ_ _ _=>GA k]
def Ku(t:aV):mF:=λs Q=>t s λd s1=>∃ k,d=.bl k/\Q k s1
theorem jK{t:aV}{t':TE}(h:∀ {σ H Q},tE X.K c t σ H Q->t' σ H Q){σ:St}{H:Hp}{Q:Bool->Hp->Prop}:tT X.K c (Ku t) σ H Q->pV t' σ H Q:=λzz=>dq zz λM s as R L q kk =>
 h #[M,s,as,_,L,q,λd s1 z3r M' H' v L' E' rv=>by
  let(k,e,r):=z3r;subst e;exact#[k,rv,kk k s1 r M' H' L' E']]
theorem ax{op:CmpOp}{r:R2}{C:D->D->(D->Prop)->Prop}(ho:ja X (KB op) r)(k:nF X c r C)(ha:DE X c a ta)(hb:DE X c b tb)(hm:behindInMarks op b=false):DT X c (.Compare a [op] [b] pos) (Ku (BA C ta tb)) :=
 #[(iW ho ha.pe hb.pe hm).imp λ_ _ _=>jK (GA k)]
theorem fG(h:DE X c e te)(he:∀ whole,isTrue e X.env whole=(do let v <- whole;standAt e.pos;holding [v] (truthy v)):=by intro _;rfl):DT X c e (Ku te):=#[(JO h.pe he).imp λ_ _ _=>jK λq=>q]
def OT(t:mF):mF:=λs Q=>t s λb s1=>Q (not b) s1
theorem je{t:mF}(h:DT X c e t):DT X c (.UnaryOp .Not e pos) (OT t):=#[(Jd h.pt).imp λσ H Q zz=>dq zz λM s as R L q k=>#[M,s,as,_,L,q,λb s1 r M' H' L' E'=>k _ s1 r M' H' L' E']]
def Nb(t u:mF):mF:=λs Q=>t s λb s1=>if b=true then u s1 Q else Q false s1
def torD(t u:mF):mF:=λs Q=>t s λb s1=>if b=true then Q true s1 else u s1 Q
theorem DW.dt{t:mF}(h:DW X c e t):DT X c e t:=#[h.pw.pt]
section
variable{tA tB:mF}{rest:!Ch}
theorem i5(h:DT X c a tA):DW X c (.BoolOp .And [a] pos) tA:=#[pw_and1 h.pt]
theorem kW(h:DT X c a tA):DW X c (.BoolOp .Or [a] pos) tA:=#[pw_or1 h.pt]
theorem kZ(ha:DT X c a tA)(hb:DW X c (.BoolOp .And (b::rest) pos) tB):DW X c (.BoolOp .And (a::b::rest) pos) (Nb tA tB):=#[(pw_and ha.pt hb.pw).imp λσ H Q zz=>dq zz λM s as R L q k =>
 #[M,s,as,_,L,q,λx s1 r M1 H1 L1 E1=>by
  cases x with
  | true=>exact pI #[M1,s1,as,_,L1,(by simpa using r),λy s2 r2 M2 H2 Lb E2=>k y s2 r2 M2 H2 Lb (E1.trans L1.base E2)]
  | false=>exact vg (k false s1 (by simpa using r) M1 H1 L1 E1)]]
theorem kC(ha:DT X c a tA)(hb:DW X c (.BoolOp .Or (b::rest) pos) tB):DW X c (.BoolOp .Or (a::b::rest) pos) (torD tA tB):=#[(pw_or ha.pt hb.pw).imp λσ H Q zz=>dq zz λM s as R L q k =>
 #[M,s,as,_,L,q,λx s1 r M1 H1 L1 E1=>by
  cases x with
  | true=>exact pI (k true s1 (by simpa using r) M1 H1 L1 E1)
  | false=>exact vg #[M1,s1,as,_,L1,(by simpa using r),λy s2 r2 M2 H2 Lb E2=>k y s2 r2 M2 H2 Lb (E1.trans L1.base E2)]]]
def Mj(ta tb:aV):aV:=λs Q=>ta s λx s1=>∃ k,x=.bl k/\if k=true then tb s1 Q else Q (.bl false) s1
def Mt(ta:aV):aV:=λs Q=>ta s λx s1=>∃ k,x=.bl k/\Q (.bl (not k)) s1
theorem CF{op}(h:DE X c a ta):DE X c (.BoolOp op [a] pos) ta:=#[K2 h.pe]
theorem zO(ha:DE X c a ta)(hb:DE X c (.BoolOp .And (b::rest) pos) tb):DE X c (.BoolOp .And (a::b::rest) pos) (Mj ta tb):=#[(Lg ha.pe hb.pe).imp λσ H Q zz=>dq zz λM s as R L q k =>
 #[M,s,as,_,L,q,λx s1 z4r M1 H1 v L1 E1 rv=>by
  let(b,e,r):=z4r;subst e;show#[b,rv,?_];cases b with
  | true=>exact pI #[M1,s1,as,_,L1,(by simpa using r),λy s2 r2 M2 H2 w Lb E2 rw=>k y s2 r2 M2 H2 w Lb (E1.trans L1.base E2) rw]
  | false=>exact vg (k (.bl false) s1 (by simpa using r) M1 H1 _ L1 E1 U)]]
theorem ME(ha:DE X c a ta):DE X c (.UnaryOp .Not a pos) (Mt ta):=#[(Ls ha.pe).imp λσ H Q zz=>dq zz λM s as R L q k =>
 #[M,s,as,_,L,q,λx s1 z5r M1 H1 v L1 E1 rv=>by
  let(b,e,r):=z5r;subst e;exact#[b,rv,k _ s1 r M1 H1 _ L1 E1 U]]]
def RO(t:mF)(ta tb:aV):aV:=λs Q=>t s λk s1=>if k=true then ta s1 Q else tb s1 Q
theorem Ga{e:Ch}(hc:DT X c e tA)(ha:DE X c a ta)(hb:DE X c b tb):DE X c (.IfExp e a b pos) (RO tA ta tb):=#[(Fu hc.pt ha.pe hb.pe).imp λσ H Q zz=>dq zz λM s as R L q k =>
 #[M,s,as,_,L,q,λx s1 r M1 H1 L1 E1=>by
  cases x with
  | true=>exact pI #[M1,s1,as,_,L1,(by simpa using r),λy s2 r2 M2 H2 w Lb E2 rw=>k y s2 r2 M2 H2 w Lb (E1.trans L1.base E2) rw]
  | false=>exact vg #[M1,s1,as,_,L1,(by simpa using r),λy s2 r2 M2 H2 w Lb E2 rw=>k y s2 r2 M2 H2 w Lb (E1.trans L1.base E2) rw]]]
end
end
section
variable{K:Frag}{c:Ent}{M M' M1:AT->Prop}{s s' s1:DS}{as:!AT}{σ:St}{H H' H1:Hp}{a p:AT}{o:HO}{d:D}{v:V}
theorem dW.refl:dW M H M H:=λb m=>#[m,λ_ e=>e]
theorem dW.trans{M2:AT->Prop}{H2:Hp}(g1:dW M H M1 H1)(g2:dW M1 H1 M2 H2):dW M H M2 H2:=λb m=>#[(g2 b (g1 b m).1).1,λo e=>(g2 b (g1 b m).1).2 o ((g1 b m).2 o e)]
theorem Ext.grow(E:Ext c as M s H M' s' H')(L:aC K c M s as σ H):dW M H M' H':=λb m=>#[E.sub b m,λo e=>E.Cs L b o m e]
theorem dW.vK(G:dW M H M' H'){ds:!D}{vs:!V}(r:ay K H M ds vs):ay K H' M' ds vs:=ay.mono (λb m=>(G b m).1) (λb o m e=>(G b m).2 o e) ds vs r
theorem zu.grow{R:kG}{E:Ends}(k:zu K c M H R E)(G:dW M H M1 H1):zu K c M1 H1 R E :=
 #[λs as M' σ H' r L g=>k.nx s as M' σ H' r L (G.trans g),λs as M' σ H' r L g=>k.bk s as M' σ H' r L (G.trans g),λs as M' σ H' r L g=>k.ct s as M' σ H' r L (G.trans g),k.rt,k.rf,k.rs]
def DS.set(s:DS)(i:Nat)(x:Sl):DS:=#[s.sl.set i x,s.os]
def DS.put(s:DS)(k:Nat)(d:D):DS:=#[s.sl,s.os.set k (some d)]
theorem dH{α:Type}{l:!α}{i j:Nat}{x y:α}(h:(l.set i x)[j]?=some y):(i=j/\j < l.length/\y=x)\/(i≠j/\l[j]?=some y):=by
 by_cases e:i=j
 .subst e;by_cases hl:i < l.length
  .rw[Wm hl] at h;exact .inl #[U,hl,(V5 h).symm]
  .rw[WH (by rw[WE];cbv)] at h;cases h
 .rw[V4 e] at h;exact .inr #[e,h]
theorem aC.Mx(L:aC K c M s as σ H)(i:Nat)(r:Rep K H M d v):aC K c M (s.set i (.dat d)) as (σ.set i (some v)) H where
 base:=L.base
 len:=by change (s.sl.set i _).length=_;rw[WE,WE];exact L.len
 gr:=L.gr
 dat:=λj e h=>by
  rcases dH h with ⟨rfl,hl,q⟩ | ⟨ne,q⟩
  .cases q;exact#[v,Wm (by rw[<- L.len];exact hl),r]
  .let(w,h1,h2):=L.dat j e q;exact#[w,by rw[V4 ne];exact h1,h2]
 own:=λj k h=>by
  rcases dH h with ⟨rfl,hl,q⟩ | ⟨ne,q⟩
  .cases q
  .let(w,h1,h2):=L.own j k q;exact#[w,h1,by rw[V4 ne];exact h2]
 obj:=L.obj
 inj:=L.inj
 lt:=L.lt
def noRef(k:Nat):Nat->!Sl->Bool
 | _,[]=>true
 | 0,_::r=>noRef k (r.length+1) r
 | i+1,.own j::r=>(j != k)&&noRef k i r
 | i+1,_::r=>noRef k i r
theorem tL{k:Nat}:∀ {l:!Sl} {i j:Nat},l.length<=i->noRef k i l=true->l[j]?≠some (.own k)
 | [],i,j,hl,h,e=>by simp at e
 | x::r,0,j,hl,h,e=>by simp at hl
 | x::r,i+1,0,hl,h,e=>by
  simp at e;subst e;simp[noRef] at h
 | x::r,i+1,j+1,hl,h,e=>by
  show tL (l:=r) (i:=i) (j:=j) (by simpa using hl) ?_ (by simpa using e);cases x with
  | own q=>simp[noRef] at h;exact h.2
  | no=>exact h
  | dat q=>exact h
theorem wU{k:Nat}:∀ {l:!Sl} {i j:Nat},noRef k i l=true->i≠j->l[j]?≠some (.own k)
 | [],i,j,h,ne,e=>by simp at e
 | x::r,0,0,h,ne,e=>ne U
 | x::r,0,j+1,h,ne,e=>by
  have e':r[j]?=some (.own k):=by simpa using e
  exact tL (l:=r) (i:=r.length+1) (by cbv) h e'
 | x::r,i+1,0,h,ne,e=>by
  simp at e;subst e;simp[noRef] at h
 | x::r,i+1,j+1,h,ne,e=>by
  show wU (l:=r) (i:=i) (j:=j) ?_ (by cbv) (by simpa using e);cases x with
  | own q=>simp[noRef] at h;exact h.2
  | no=>exact h
  | dat q=>exact h
theorem aC.Q5(L:aC K c M s as σ H)(i k:Nat)(hk:k < s.os.length)(nr:noRef k i s.sl=true)(ha:H a=some o)(r:cz K H M d o)(nm:¬ M a)(ng:¬ c.g.own a)(nw:¬ d4 s as a)(h0:c.H0 a=none)(jI:c.g.qN.length<=k) :
  aC K c M #[s.sl.set i (.own k),s.os.set k (some d)] (as.set k a) (σ.set i (some (.ref a))) H where
 base:=L.base
 len:=by change (s.sl.set i _).length=_;rw[WE,WE];exact L.len
 gr:=by change (as.set k a).length=(s.os.set k _).length;rw[WE,WE];exact L.gr
 dat:=λj e h=>by
  rcases dH h with ⟨rfl,hl,q⟩ | ⟨ne,q⟩
  .cases q
  .let(w,h1,h2):=L.dat j e q;exact#[w,by rw[V4 ne];exact h1,h2]
 own:=λj l h=>by
  rcases dH h with ⟨rfl,hl,q⟩ | ⟨ne,q⟩
  .cases q;exact#[a,Wm (by rw[L.gr];exact hk),Wm (by rw[<- L.len];exact hl)]
  .let(w,h1,h2):=L.own j l q;show#[w,?_,by rw[V4 ne];exact h2];have:k≠l:=λz=>by
    subst z;exact wU nr ne q
   rw[V4 this];exact h1
 obj:=λl e b h1 h2=>by
  rcases dH h1 with ⟨rfl,hl,q⟩ | ⟨ne,q⟩
  .cases q;rw[Wm (by rw[L.gr];exact hl)] at h2;cases h2;exact#[#[o,ha,r],nm,ng,h0]
  .rw[V4 ne] at h2;exact L.obj l e b q h2
 inj:=λl m e f b h1 h2 g1 g2=>by
  rcases dH h1 with ⟨rfl,hl,q⟩ | ⟨ne,q⟩
  .rcases dH h2 with ⟨rfl,hl',q'⟩ | ⟨ne',q'⟩
   .rfl
   .rw[Wm (by rw[L.gr];exact hl)] at g1;cases g1;rw[V4 ne'] at g2;exact absurd #[m,f,q',g2] nw
  .rcases dH h2 with ⟨rfl,hl',q'⟩ | ⟨ne',q'⟩
   .rw[Wm (by rw[L.gr];exact hl')] at g2;cases g2;rw[V4 ne] at g1;exact absurd #[l,e,q,g1] nw
   .rw[V4 ne] at g1;rw[V4 ne'] at g2;exact L.inj l m e f b q q' g1 g2
 lt:=λl b h=>by
  have h1:=L.lt l b h;have hl:l < c.g.qN.length:=(VC.mp h).1;rw[V4 (by cbv)];exact h1
theorem aC.uJ{d0:D}{k:Nat}(L:aC K c M s as σ H)(hk:s.os[k]?=some (some d0))(ha:as[k]?=some a)(r:cz K H M d o):aC K c M (s.put k d) as σ (upd H a o):=by
 let((o0,q0,r0),nm,ng,h0):=L.obj k d0 a hk ha;have kp:∀ b u,b≠a->H b=some u->upd H a o b=some u:=λb u ne e=>by rw[aw ne];exact e
 have km:∀ b u,M b->H b=some u->upd H a o b=some u:=λb u m e=>kp b u (λz=>nm (z▸m)) e;show#[#[c.g.loc H _ L.base.qe λb u g e=>kp b u (λz=>g.elim (λg=>ng (z▸g)) λ#[φ,f]=>by subst f;rw[z,q0] at e;cases e;exact r0.next) e,λb u e g=>?_,λb m=>?_,L.base.mo,L.base.m0,L.base.mn],L.len,?_,λi e h=>?_,L.own,λl e b h1 h2=>?_,λl m e f b h1 h2 g1 g2=>?_,L.lt]
 .exact kp b u (λz=>by rw[z,h0] at e;cases e) (L.base.fr b u e g)
 .let(u,e):=L.base.md b m;exact#[u,km b u m e]
 .show as.length=(s.os.set k _).length;rw[WE];exact L.gr
 .let(w,h1,h2):=L.dat i e h;exact#[w,h1,Rep.mono (λ_ m=>m) km e w h2]
 .rcases dH h1 with ⟨rfl,hl,q⟩ | ⟨ne,q⟩
  .cases q;rw[ha] at h2;cases h2;exact#[#[o,aA,r.mono (λ_ m=>m) km],nm,ng,h0]
  .let((u,q1,q2),q3):=L.obj l e b q h2;show#[#[u,kp b u (λz=>?_) q1,q2.mono (λ_ m=>m) km],q3];subst z;exact ne (L.inj k l d0 e b hk q ha h2)
 .have back:∀ {l:Nat} {e:D},(s.put k d).os[l]?=some (some e)->∃ e',s.os[l]?=some (some e'):=λ{l e} h=>by
   rcases dH h with ⟨rfl,hl,q⟩ | ⟨ne,q⟩
   .exact#[d0,hk]
   .exact#[e,q]
  let(e',q1):=back h1;let(f',q2):=back h2;exact L.inj l m e' f' b q1 q2 g1 g2
theorem Ext.uJ{d0:D}{k:Nat}(hk:s.os[k]?=some (some d0))(ha:as[k]?=some a):Ext c as M s H M (s.put k d) (upd H a o) where
 sub:=λ_ m=>m
 new:=λ_ m=>.inl m
 keep:=λb u e g w=>by
  have ne:b≠a:=λz=>by
   subst z;exact w #[k,d0,hk,ha]
  rw[aw ne];exact e
 jt:=λb z6r=>by
  let(l,e,h1,h2):=z6r;rcases dH h1 with ⟨rfl,hl,q⟩ | ⟨ne,q⟩
  .exact#[k,d0,hk,h2]
  .exact#[l,e,q,h2]
theorem aC.slot{i k:Nat}{d0:D}(L:aC K c M s as σ H)(hi:s.sl[i]?=some (.own k))(hk:s.os[k]?=some (some d0)):∃ a o,as[k]?=some a/\σ[i]?=some (some (.ref a))/\H a=some o/\cz K H M d0 o:=by
 let(a,h1,h2):=L.own i k hi;let((o,q1,q2),_):=L.obj k d0 a hk h1;exact#[a,o,h1,h2,q1,q2]
end
section
variable{X:Cx}{c:Ent}{a b e:Ch}{es:!Ch}{ta tb te:aV}{st:Fa}{Ny:!Fa}{t u:kI}{pos:Pos}
def Kl:kI:=λR s=>R.nx s
def IM(t u:kI):kI:=λR s=>t { R with nx:=u R } s
theorem aD:yM X c [] Kl:=#[zN.imp λE σ H zz=>dq zz λM s as R L q k=>k.nx s as M σ H q L .refl]
theorem af(h1:vz X c st t)(h2:yM X c Ny u):yM X c (st::Ny) (IM t u):=#[(cK h1.ps h2.ps).imp λE σ H zz=>dq zz λM s as R L q k =>
 #[M,s,as,{ R with nx:=u R },L,q,#[λs' as' M' σ' H' r L' G=>#[M',s',as',R,L',r,k.grow G],k.bk,k.ct,k.rt,k.rf,k.rs]]]
theorem ah(h1:vz X c st t):yM X c [st] t:=#[jW h1.ps]
def ET(te:aV):kI:=λR s=>te s λ_ s1=>R.nx s1
theorem iA(he:DE X c e te)(hs:(swapsWith e none pos.line X.env=pure false)⁻¹):vz X c (.Expr e pos) (ET te):=#[(Hs he.pe hs).imp λE σ H zz=>dq zz λM s as R L q k =>
 #[M,s,as,_,L,q,λd s1 r M' H' v L' E' rv=>k.nx s1 as M' σ H' r L' (E'.grow L)]]
def HM(te:aV):kI:=λR s=>te s λd _=>R.rt d
theorem aX(he:DE X c e te):vz X c (.Return (some e) pos) (HM te):=#[(ni he.pe).imp λE σ H zz=>dq zz λM s as R L q k =>
 #[M,s,as,_,L,q,λd s1 r M' H' v L' E' rv=>k.rt d M' H' v r L'.base rv]]
def JD(te:aV):kI:=λR s=>te s λd _=>R.rf d
theorem bR(he:DN X c e te):vz X c (.Return (some e) pos) (JD te):=#[(ni he.pe).imp λE σ H zz=>dq zz λM s as R L q k =>
 #[M,s,as,_,L,q,λd s1 r M' H' a o L' E' ha ro nm ng nw h0 hn=>k.rf d M' H' a o r L'.base ha ro nm ng h0]]
def LM(i:Nat):kI:=λR s=>∃ k d,s.sl[i]?=some (.own k)/\s.os[k]?=some (some d)/\R.rf d
theorem d8{i:Nat}(he:PE X e (bG i)):vz X c (.Return (some e) pos) (LM i):=#[(ni he).imp λE σ H z3q=>by
 let(M,s,as,R,L,(k,d,h1,h2,q),kk):=z3q;let(a,g1,g2):=L.own i k h1;let((o,q1,q2),nm,ng,h0):=L.obj k d a h2 g1;exact#[_,g2,kk.rf d M H a o q L.base q1 q2 nm ng h0]]
def QS(tc:mF)(t u:kI):kI:=λR s=>tc s λb s1=>if b=true then t R s1 else u R s1
theorem bw{x:Ch}{l r:!Fa}{tc:mF}(hc:DT X c x tc)(ha:yM X c l t)(hb:yM X c r u):vz X c (.If x l r pos) (QS tc t u):=#[(HG hc.pt ha.ps hb.ps).imp λE σ H zz=>dq zz λM s as R L q k =>
 #[M,s,as,_,L,q,λb s1 r M' H' L' E'=>by
  cases b with
  | true=>exact pI #[M',s1,as,R,L',by simpa using r,k.grow (E'.grow L)]
  | false=>exact vg #[M',s1,as,R,L',by simpa using r,k.grow (E'.grow L)]]]
def Ex(i:Nat)(te:aV):kI:=λR s=>te s λd s1=>R.nx (s1.set i (.dat d))
theorem Jq{i:Nat}{SV:TE}(h:∀ {σ H Q},tE X.K c te σ H Q->SV σ H Q){E:Ends}{σ:St}{H:Hp}:tS X.K c (Ex i te) E σ H->kc SV (dU i) E σ H:=λzz=>dq zz λM s as R L q k =>
 h #[M,s,as,_,L,q,λd s1 r M' H' v L' E' rv=>k.nx _ as M' _ H' r (L'.Mx i rv) (E'.grow L)]
theorem gF{i:Nat}(h:PS X st (kc (tE X.K c te) (dU i))):vz X c st (Ex i te):=#[h.imp λE σ H=>Jq λq=>q]
def ltB{α:Type}:Nat->!α->Bool
 | 0,[]=>false
 | _+1,[]=>false
 | 0,_::_=>true
 | k+1,_::r=>ltB k r
theorem EM{α:Type}:∀ {k:Nat} {l:!α},ltB k l=true->k < l.length
 | 0,[],h=>by cases h
 | _+1,[],h=>by cases h
 | 0,_::_,_=>by simp
 | k+1,_::r,h=>by
  have:=EM (k:=k) (l:=r) h;simp;cbv
def HQ(i k:Nat)(te:aV):kI:=λR s=>te s λd s1=>(ltB k s1.os=true/\noRef k i s1.sl=true)/\R.nx #[s1.sl.set i (.own k),s1.os.set k (some d)]
theorem Kt{i k:Nat}(h:PS X st (kc (tN X.K c te) (dU i)))(jI:c.g.qN.length<=k:=by first | exact VT _ | exact VB _ | exact WK (VT _)):vz X c st (HQ i k te):=#[h.imp λE σ H zz=>dq zz λM s as R L q kk =>
 #[M,s,as,_,L,q,λd s1 #[#[hk,nr],r] M' H' a o L' E' ha ro nm ng nw h0 hn=>kk.nx _ _ M' _ H' r (L'.Q5 i k (EM hk) nr ha ro nm ng nw h0 jI) (E'.grow L)]]
abbrev pN:=D->DS->(DS->Prop)->Prop
abbrev yb:=!D->DS->(DS->Prop)->Prop
def tG(K:Frag)(c:Ent)(n:Nat)(g:pN):TG:=λv σ H Q=>∃ M s as d R,aC K c M s as σ H/\Rep K H M d v/\g d s R/\∀ s',R s'->∀ σ',aC K c M s' as σ' H->(∀ i,n<=i->σ'[i]?=σ[i]?)->s'.os=s.os->Q σ' H
def Vb(K:Frag)(c:Ent)(n:Nat)(g:yb):Gr:=λvs σ H Q=>∃ M s as ds R,aC K c M s as σ H/\ay K H M ds vs/\g ds s R/\∀ s',R s'->∀ σ',aC K c M s' as σ' H->(∀ i,n<=i->σ'[i]?=σ[i]?)->s'.os=s.os->Q σ' H
structure DG(X:Cx)(c:Ent)(n:Nat)(tg:Ch)(g:pN):Prop where
 pg:PG X tg (tG X.K c n g)
structure P7(X:Cx)(c:Ent)(n:Nat)(ts:!Ch)(g:yb):Prop where
 pg:IL X ts (Vb X.K c n g)
theorem _root_.L2.PG.imp{tg:Ch}{t t':TG}(h:PG X tg t)(w:∀ v σ H Q,t' v σ H Q->t v σ H Q):PG X tg t':=λTD s σ H v u Q I r q=>h TD s σ H v u Q I r (w v σ H Q q)
theorem _root_.L2.IL.imp{tg:!Ch}{t t':Gr}(h:IL X tg t)(w:∀ v σ H Q,t' v σ H Q->t v σ H Q):IL X tg t':=λTD s σ H v u Q I r q=>h TD s σ H v u Q I r (w v σ H Q q)
section
variable{n:Nat}{tg:Ch}{Iy:!Ch}{g:pN}{gs:yb}
def uI(i:Nat):pN:=λd s Q=>Q (s.set i (.dat d))
theorem kP{i:Nat}(h:PG X tg (dU i))(hi:i < n):DG X c n tg (uI i):=#[h.imp λv σ H Q z4q=>by let(M,s,as,d,R,L,r,q,k):=z4q;exact k _ q _ (L.Mx i r) (λj hj=>V4 (by cbv)) U]
def N5:yb:=λds s Q=>ds=[]/\Q s
def JT(g:pN)(gs:yb):yb:=λds s Q=>∃ d r,ds=d::r/\g d s λs1=>gs r s1 Q
theorem bQ:P7 X c n [] N5:=#[F8.imp λv σ H Q z5q=>by
 let(M,s,as,ds,R,L,r,(e,q),k):=z5q;subst e;exact#[r,k s q σ L (λ_ _=>rfl) U]]
theorem aq(h1:DG X c n tg g)(h2:P7 X c n Iy gs)(hs:((assignEach (tg::Iy) X.env).map (·.2)=assign tg X.env::(assignEach Iy X.env).map (·.2))⁻¹):P7 X c n (tg::Iy) (JT g gs) :=
 #[(B6 h1.pg h2.pg hs).imp λv σ H Q z6q=>by
   let(M,s,as,ds,R,L,r,(d,dr,e,q),k):=z6q;subst e;let(x,xr,rfl,r1,r2):=r;exact#[x,xr,U,M,s,as,d,_,L,r1,q,λs1 q1 σ1 L1 e1 o1=>#[M,s1,as,dr,R,L1,r2,q1,λs2 q2 σ2 Lb e2 o2=>k s2 q2 σ2 Lb (λi hi=>(e2 i hi).trans (e1 i hi)) (o2.trans o1)]]]
def PL(m:Nat)(gs:yb):pN:=λd s Q=>∃ ds,d=.tup ds/\ds.length=m/\gs ds s Q
theorem bO{k m:Nat}(hc:X.calm=true)(h:P7 X c n Iy gs)(hn:((assignEach Iy X.env).length=m)⁻¹)(n5:((assignEach Iy X.env).findIdx? (·.1)=none)⁻¹):DG X c n (.Tuple Iy k pos) (PL m gs) :=
 #[(Kj hc h.pg hn n5).imp λv σ H Q z7q=>by
   let(M,s,as,d,R,L,r,(ds,e,hl,q),kk):=z7q;subst e;let(a,xs,rfl,t,r):=r;exact#[a,xs,U,t.sq,r.length.trans hl,M,s,as,ds,R,L,r,q,kk]]
def NQ(te:aV)(g:pN):kI:=λR s=>te s λd s1=>g d s1 R.nx
theorem vV(he:DE X c e te)(hg:DG X c n tg g)(hs:(swapsWithSole [tg] e pos.line X.env=pure false)⁻¹)(hw:(swappedStores [tg] e X.env=pure none)⁻¹)(h1:((assignEach [tg] X.env).map (·.2)=[assign tg X.env])⁻¹):vz X c (.Assign [tg] e pos) (NQ te g):=#[(Dg he.pe hg.pg hs hw h1).imp λE σ H zz=>dq zz λM s as R L q k =>
 #[M,s,as,_,L,q,λd s1 r M' H' v L' E' rv=>#[M',s1,as,d,_,L',rv,r,λs2 q2 σ2 Lb _ _=>k.nx s2 as M' σ2 H' q2 Lb (E'.grow L)]]]
end
def UI(K:Frag)(M:AT->Prop)(H:Hp)(d:D)(x:V)(H':Hp):Prop :=
 (H'=H/\Rep K H M d x)\/∃ p o,H p=none/\H'=upd H p o/\Rep K H' (λb=>M b\/b=p) d x
def OS(K:Frag)(M:AT->Prop)(H:Hp)(ds:!D)(J:It):Prop:=∀ M1 H1,dW M H M1 H1 ->
 (∀ i,ds.length<=i->J.stop i H1)/\∀ i d,ds[i]?=some d->J.go i H1/\∀ x H2,J.OM i H1 x H2->UI K M1 H1 d x H2
def tI(K:Frag)(c:Ent)(t:fW):TI:=λσ H R=>∃ M s as R0,aC K c M s as σ H/\t s R0/\∀ ds s',R0 ds s'->∀ M' H' J,aC K c M' s' as σ H'->Ext c as M s H M' s' H'->OS K M' H' ds J->ds.length<=Ev->R J H'
structure DI(X:Cx)(c:Ent)(tg iter:Ch)(t:fW):Prop where
 pi:PI X tg iter (tI X.K c t)
def mM(g:pN)(tb:kI)(R:kG):!D->DS->Prop
 | [],s=>R.nx s
 | x::xs,s=>g x s λs1=>tb { R with nx:=λs'=>mM g tb R xs s',ct:=λs'=>mM g tb R xs s',bk:=R.nx } s1
def Im(ti:fW)(g:pN)(tb:kI):kI:=λR s=>ti s λxs s1=>mM g tb R xs s1
theorem drop_cons{α:Type}{l:!α}{i:Nat}{x:α}(h:l[i]?=some x):l.drop i=x::l.drop (i+1):=by
 let(hl,e):=VC.mp h;rw[Xf hl,e]
theorem NV{n:Nat}{tg iter:Ch}{body:!Fa}{ti:fW}{g:pN}{tb:kI}(hp:PassesOwn (model X.prog X.w) X.A X.env X.xe)(hc:X.calm=true)(hi:DI X c tg iter ti)(hg:DG X c n tg g)(hb:yM X c body tb)(hs:Yi iter X.env:=by intro _;rfl):vz X c (.For tg iter body [] pos) (Im ti g tb):=#[(D5 hp hc hi.pi hg.pg hb.ps hs).imp λE σ H zz=>dq zz λM s as R L q k=>by
 show#[M,s,as,_,L,q,λxs s1 q1 M1 H1 J L1 E1 io hlen=>?_];show#[λi m σ' H'=>i<=xs.length/\m=xs.length - i/\∃ M' s' as',aC X.K c M' s' as' σ' H'/\dW M1 H1 M' H'/\mM g tb R (xs.drop i) s',#[_,VT _,U,M1,s1,as,L1,.refl,q1],?_];rintro i m σ' H' ⟨hi,rfl,M',s',as',L',G',q'⟩;let(h1,h2):=io M' H' G';by_cases jI:i < xs.length
 .refine .inr ?_;have hx:xs[i]?=some xs[i]:=VO jI;let(hgo,hy):=h2 i _ hx;rw[drop_cons hx] at q';have next:∀ s2 as2 M2 σ2 H2,mM g tb R (xs.drop (i+1)) s2->aC X.K c M2 s2 as2 σ2 H2->dW M1 H1 M2 H2->∃ m',m' < xs.length - i/\(i+1<=xs.length/\m'=xs.length - (i+1)/\∃ M' s' as',aC X.K c M' s' as' σ2 H2/\dW M1 H1 M' H2/\mM g tb R (xs.drop (i+1)) s') :=
   λs2 as2 M2 σ2 H2 f L2 G2=>#[xs.length - (i+1),by cbv,jI,U,M2,s2,as2,L2,G2,f]
  show#[hgo,λσ2 H2=>∃ s2 as2 M2,mM g tb R (xs.drop (i+1)) s2/\aC X.K c M2 s2 as2 σ2 H2/\dW M1 H1 M2 H2,λσ2 H2 z8q=>by let(s2,as2,M2,f,L2,G2):=z8q;exact next s2 as2 M2 σ2 H2 f L2 G2,λx H2 y=>?_];have go:∀ M2,aC X.K c M2 s' as' σ' H2->Rep X.K H2 M2 xs[i] x->dW M1 H1 M2 H2->dW M H M2 H2->tG X.K c n g x σ' H2 λσ2 H2=>tS X.K c tb { nx:=λσ2 H2=>∃ s2 as2 M2,mM g tb R (xs.drop (i+1)) s2/\aC X.K c M2 s2 as2 σ2 H2/\dW M1 H1 M2 H2,rt:=E.rt,bk:=E.nx,ct:=λσ2 H2=>∃ s2 as2 M2,mM g tb R (xs.drop (i+1)) s2/\aC X.K c M2 s2 as2 σ2 H2/\dW M1 H1 M2 H2 } σ2 H2:=λM2 L2 r2 G2 G0 =>
   #[M2,s',as',_,_,L2,r2,q',λs3 q3 σ3 L3 _ _=>#[M2,s3,as',_,L3,q3,#[λs4 as4 M4 σ4 H4 f L4 G4=>#[s4,as4,M4,f,L4,G2.trans G4],λs4 as4 M4 σ4 H4 f L4 G4=>k.nx s4 as4 M4 σ4 H4 f L4 (G0.trans G4),λs4 as4 M4 σ4 H4 f L4 G4=>#[s4,as4,M4,f,L4,G2.trans G4],k.rt,k.rf,k.rs]]]
  rcases hy x H2 y with ⟨rfl,r⟩ | ⟨p,o,hp,rfl,r⟩
  .exact go M' L' r G' ((E1.grow L).trans G')
  .have G2:dW M' H' (λb=>M' b\/b=p) (upd H' p o):=λb mb=>#[.inl mb,λu e=>by rw[aw (aF e hp)];exact e];exact go _ (L'.fresh hp) r (G'.trans G2) (((E1.grow L).trans G').trans G2)
 .have e:i=xs.length:=by cbv
  subst e;rw[List.drop_length] at q';exact .inl #[h1 _ (VB _),k.nx s' as' M' σ' H' q' L' ((E1.grow L).trans G')]]
def G8(tc:mF)(tb:kI):kI:=λR s=>∃ W:Nat->DS->Prop,(∃ m,W m s)/\∀ m s,W m s->tc s λb s1=>if b=true then tb { R with nx:=λs'=>∃ m',m' < m/\W m' s',ct:=λs'=>∃ m',m' < m/\W m' s',bk:=R.nx } s1 else R.nx s1
theorem u9{x:Ch}{body:!Fa}{tc:mF}{tb:kI}(hp:PassesOwn (model X.prog X.w) X.A X.env X.xe)(hc:DT X c x tc)(hb:yM X c body tb):vz X c (.While x body [] pos) (G8 tc tb):=#[(vQ hp hc.pt hb.ps).imp λE σ H z9q=>by
 let(M,s,as,R,L,(W,(m0,w0),turn),k):=z9q;show#[λm σ' H'=>∃ M' s' as',aC X.K c M' s' as' σ' H'/\dW M H M' H'/\W m s',#[m0,M,s,as,L,.refl,w0],?_];rintro m σ' H' ⟨M',s',as',L',G',w'⟩;show#[M',s',as',_,L',turn m s' w',λb s1 q1 M1 H1 L1 E1=>?_];cases b with
 | true =>
  show pI #[λσ2 H2=>∃ s2 as2 M2,(∃ m',m' < m/\W m' s2)/\aC X.K c M2 s2 as2 σ2 H2/\dW M H M2 H2,λσ2 H2 z0q=>by let(s2,as2,M2,(m',hm,w2),L2,G2):=z0q;exact#[m',hm,M2,s2,as2,L2,G2,w2],?_];have G1:=G'.trans (E1.grow L');exact#[M1,s1,as',{ R with nx:=λs'=>∃ m',m' < m/\W m' s',ct:=λs'=>∃ m',m' < m/\W m' s',bk:=R.nx },L1,by simpa using q1,#[λs4 as4 M4 σ4 H4 f L4 G4=>#[s4,as4,M4,f,L4,G1.trans G4],λs4 as4 M4 σ4 H4 f L4 G4=>k.nx s4 as4 M4 σ4 H4 f L4 (G1.trans G4),λs4 as4 M4 σ4 H4 f L4 G4=>#[s4,as4,M4,f,L4,G1.trans G4],k.rt,k.rf,k.rs]]
 | false=>exact vg (k.nx s1 as' M1 σ' H1 (by simpa using q1) L1 (G'.trans (E1.grow L')))]
end
abbrev Yd:=!D->(D->Prop)->Prop
def cg(K:Frag)(g:BC)(t:Yd):Sp:=λvs H Q _=>∃ M ds R,Base #[g,M,H] M H/\ay K H M ds vs/\t ds R/\∀ d,R d->∀ M' H' v,Base #[g,M,H] M' H'->Rep K H' M' d v->Q v H'
def fZ(K:Frag)(g:BC)(t:Yd):Sp:=λvs H Q _=>∃ M ds R,Base #[g,M,H] M H/\ay K H M ds vs/\t ds R/\∀ d,R d->∀ M' H' a o,Base #[g,M,H] M' H'->H' a=some o->cz K H' M' d o->¬ M' a->¬ g.own a->H a=none->Q (.ref a) H'
section
variable{K:Frag}{c:Ent}{M M' M1:AT->Prop}{s s' s1:DS}{as:!AT}{σ:St}{H H' H1:Hp}
theorem Base.here(B:Base c M H):Base #[c.g,M,H] M H:=#[B.qe,λ_ _ e _=>e,B.md,B.mo,λ_ m=>m,λ_ m=>.inl m]
theorem Base.Ej(B:Base c M H):Base #[.no,M,H] M H:=#[trivial,λ_ _ e _=>e,B.md,λ_ _ h=>h,λ_ m=>m,λ_ m=>.inl m]
theorem Base.pS(B:Base c M H)(B':Base #[.no,M,H] M' H'):Base #[c.g,M,H] M' H' where
 qe:=c.g.loc H H' B.qe λb o _ e=>B'.fr b o e λz=>z
 fr:=λb o e _=>B'.fr b o e λz=>z
 md:=B'.md
 mo:=λb m g=>by
  rcases B'.mn b m with m | n | ⟨xs,n⟩
  .exact B.mo b m g
  .let(o,e):=c.g.JG H b B.qe g;have n:H b=none:=n;rw[n] at e;cases e
  .exact c.g.nt H b xs B.qe g n
 m0:=B'.m0
 mn:=B'.mn
theorem aC.after(L:aC K c M s as σ H)(B:Base #[c.g,M,H] M' H'):aC K c M' s as σ H' where
 base:=#[B.qe,λb o e g=>B.fr b o (L.base.fr b o e g) g,B.md,B.mo,λb m=>B.m0 b (L.base.m0 b m),λb m=>by
  rcases B.mn b m with m | n | ⟨xs,n⟩
  .exact L.base.mn b m
  .exact .inr (.inl (L.base.zD n))
  .have n:H b=some (.tup xs):=n;show .inr ?_;cases e:c.H0 b with
   | none=>exact .inl e
   | some o =>
    have:=L.base.fr b o e λg=>c.g.nt H b xs L.base.qe g n;rw[n] at this;cases this;exact .inr #[xs,e]]
 len:=L.len
 gr:=L.gr
 dat:=λi d e=>by
  let(v,h1,h2):=L.dat i d e;exact#[v,h1,Rep.mono B.m0 (λb o m e=>B.fr b o e (L.base.mo b m)) d v h2]
 own:=L.own
 obj:=λk d a h1 h2=>by
  let((o,q1,q2),nm,ng,h0):=L.obj k d a h1 h2;show#[#[o,B.fr a o q1 ng,q2.mono B.m0 λb o m e=>B.fr b o e (L.base.mo b m)],λm=>?_,ng,h0];rcases B.mn a m with m | n | ⟨xs,n⟩
  .exact nm m
  .have n:H a=none:=n;rw[n] at q1;cases q1
  .have n:H a=some (.tup xs):=n;rw[n] at q1;cases q1;exact q2.Az
 inj:=L.inj
 lt:=L.lt
theorem Ext.after(B:Base #[c.g,M,H] M' H'):Ext c as M s H M' s H':=#[B.m0,λb m=>by
 rcases B.mn b m with m | n
 .exact .inl m
 .exact .inr (.inl n),λb o e g _=>B.fr b o e g,λ_ h=>h]
end
section
variable{X:Cx}{c:Ent}{k:Nat}{f:AT}{fd:Ix}{ps:!Str}{t:Yd}{x:Str}{p pos:Pos}{e:Ch}{es:!Ch}{ta:fW}
def iB(t:Yd)(ta:fW):aV:=λs Q=>ta s λds s1=>t ds λd=>Q d s1
theorem A5{σ:St}{H:Hp}{Q:VK}{n:Nat}{E:XK}:tE X.K c (iB t ta) σ H Q->yF (cg X.K c.g t) [] E (tA X.K c n ta) σ H Q:=λzz=>dq zz λM s as R L q kk =>
 #[M,s,as,_,L,q,λds s1 q1 M1 H1 vs L1 E1 r1 hl=>#[M1,ds,_,L1.base.here,by rw[VJ];exact r1,q1,λd rd M' H' v B rv=>kk d s1 rd M' H' v (L1.after B) (E1.trans L1.base (Ext.after B)) rv]]
theorem Hu{σ:St}{H:Hp}{Q:VK}{n:Nat}{E:XK}:tE X.K c (iB t ta) σ H Q->yF (cg X.K .no t) [] E (tA X.K c n ta) σ H Q:=λzz=>dq zz λM s as R L q kk =>
 #[M,s,as,_,L,q,λds s1 q1 M1 H1 vs L1 E1 r1 hl=>#[M1,ds,_,L1.base.Ej,by rw[VJ];exact r1,q1,λd rd M' H' v B rv=>kk d s1 rd M' H' v (L1.after (L1.base.pS B)) (E1.trans L1.base (Ext.after (L1.base.pS B))) rv]]
theorem Er{K:Frag}{as:!AT}{M M1 M':AT->Prop}{s s1:DS}{σ:St}{H H1 H':Hp}{a:AT}(L:aC K c M s as σ H)(L1:aC K c M1 s1 as σ H1)(E1:Ext c as M s H M1 s1 H1)(B:Base #[c.g,M1,H1] M' H')(ng:¬ c.g.own a)(hn:H1 a=none) :
  ¬ d4 s1 as a/\c.H0 a=none/\(H a=none\/d4 s as a):=by
 show#[λw=>?_,L1.base.zD hn,?_]
 .let(_,_,_,u,e):=L1.nM w;rw[hn] at e;cases e
 .cases q:H a with
  | none=>exact .inl U
  | some u =>
   by_cases w:d4 s as a
   .exact .inr w
   .have:=E1.keep a u q ng w;rw[hn] at this;cases this
theorem CV{σ:St}{H:Hp}{Q:VK}{n:Nat}{E:XK}:tN X.K c (iB t ta) σ H Q->yF (fZ X.K .no t) [] E (tA X.K c n ta) σ H Q:=λzz=>dq zz λM s as R L q kk =>
 #[M,s,as,_,L,q,λds s1 q1 M1 H1 vs L1 E1 r1 hl=>#[M1,ds,_,L1.base.Ej,by rw[VJ];exact r1,q1,λd rd M' H' a o B ha ro nm ng hn=>by
  have ng':¬ c.g.own a:=λg=>by
   let(u,e):=c.g.JG H1 a L1.base.qe g;rw[hn] at e;cases e
  let(z1,z2,z3):=Er L L1 E1 (L1.base.pS B) ng' hn;exact kk d s1 rd M' H' a o (L1.after (L1.base.pS B)) (E1.trans L1.base (Ext.after (L1.base.pS B))) ha ro nm ng' z1 z2 z3]]
section
variable(hr:dE k X.A)(hg:Gl X x)(hm:X.mg x=some (.ref f))(hk:keepIn X.K (.ref f)=true)(hb:Binds X.K fd ps [])(ha:DA X c (e::es) ta)
include hr hg hm hk hb ha
theorem Ln(F:eV X.prog X.w X.K X.mg X.base aQ k f fd ps (cg X.K c.g t))(kg: ~~~(Yg x))(he:(Ye X.env e es)⁻¹)(g6:(Yf X.env pos es)⁻¹) :
  DE X c (.Call (.Name x p) (e::es) [] pos) (iB t ta):=#[(jV F hr hg hm hk hb .nil (E:=E0) tF ha.pa kg he g6).imp λ_ _ _=>A5]
theorem F9(F:eV X.prog X.w X.K X.mg X.base aQ k f fd ps (cg X.K .no t))(kg: ~~~(Yg x))(he:(Ye X.env e es)⁻¹)(g6:(Yf X.env pos es)⁻¹) :
  DE X c (.Call (.Name x p) (e::es) [] pos) (iB t ta):=#[(jV F hr hg hm hk hb .nil (E:=E0) tF ha.pa kg he g6).imp λ_ _ _=>Hu]
theorem F1(F:eV X.prog X.w X.K X.mg X.base aQ k f fd ps (fZ X.K .no t))(kg: ~~~(Yg x))(he:(Ye X.env e es)⁻¹)(g6:(Yf X.env pos es)⁻¹) :
  DN X c (.Call (.Name x p) (e::es) [] pos) (iB t ta):=#[(jV F hr hg hm hk hb .nil (E:=E0) tF ha.pa kg he g6).imp λ_ _ _=>CV]
end
end
def fI(n nos:Nat)(ds:!D):DS:=#[ds.map .dat++List.replicate (n - ds.length) .no,List.replicate nos none]
theorem qA{K:Frag}{g:BC}{M:AT->Prop}{H:Hp}{N:!Str}{nos:Nat}{ds:!D}{vs:!V}(B:Base #[g,M,H] M H)(r:ay K H M ds vs)(hg:g.qN=[]):aC K #[g,M,H] M (fI N.length nos ds) (List.replicate nos 0) (L2.start N vs) H where
 base:=B
 len:=by
  have:=r.length;change (ds.map Sl.dat++List.replicate (N.length - ds.length) Sl.no).length=(vs.map some++List.replicate (N.length - vs.length) none).length;simp[this]
 gr:=by simp[fI]
 dat:=λi d h=>by
  have hl:=r.length;by_cases hi:i < ds.length
  .have h':(ds.map Sl.dat)[i]?=some (.dat d):=by
    rw[fI,List.getElem?_append_left (by simpa using hi)] at h;exact h
   rw[V0] at h';let(e,h1,h2):=Wb.mp h';cases h2;let(v,q1,q2):=r.get h1;show#[v,?_,q2];rw[L2.start,List.getElem?_append_left (by simp;cbv),List.getElem?_map,q1]
   rfl
  .rw[fI,List.getElem?_append_right (by simpa using hi)] at h;have:=VC.mp h;let(_,e):=this;simp at e
 own:=λi k h=>by
  by_cases hi:i < ds.length
  .rw[fI,List.getElem?_append_left (by simpa using hi),List.getElem?_map] at h;let(e,h1,h2):=Wb.mp h;cases h2
  .rw[fI,List.getElem?_append_right (by simpa using hi)] at h;let(_,e):=VC.mp h;simp at e
 obj:=λk d a h=>by
  let(_,e):=VC.mp h;simp[fI] at e
 inj:=λk l d e a h=>by
  let(_,e):=VC.mp h;simp[fI] at e
 lt:=λk a h=>by
  have h:g.qN[k]?=some a:=h;rw[hg] at h;cases h
section
variable{P:Fk}{w:FB}{K:Frag}{mg:Str->Option AC}{base:Db}
theorem Qn{x qual:Str}{st:Fa}{f:AT}{fd:Ix}{N ps:!Str}{k nos:Nat}{g:BC}{t:Yd}(F:Bh K x qual st f fd)(S:av N ps (ai st))(len:∀ ds R,t ds R->ds.length=ps.length)(hb:∀ (bT:AC) (A:Fr) (outer:!Env) (s:Cl) (H:Hp) (E:XK) (M:AT->Prop),dE k (A.deeper (envOfC qual (ai st) ↑s f bT)) ->
   ∃ tb,yM (n9 aQ P w K mg base N qual (ai st) f bT A outer s H E).FA #[g,M,H] (bx st) tb/\∀ ds R,t ds R->tb { nx:=λ_=>R .cA,rt:=R } (fI N.length nos ds))(hg:(g.qN=[])⁻¹):eV P w K mg base aQ (k+1) f fd ps (cg K g t):=by
 show F.ok S (λvs H Q E h=>?_) λbT A outer s H vs Q E hr h=>?_
 .let(M,ds,R,B,r,q,_):=h;rw[r.length];exact len ds R q
 .let(M,ds,R,B,r,q,kk):=h;let(tb,h1,h2):=hb bT A outer s H E M hr;exact#[_,h1.ps,M,_,_,_,qA B r hg,h2 ds R q,#[λs as M' σ H' r L _=>kk .cA r M' H' .cA L.base U,λ_ _ _ _ _ z=>z.elim,λ_ _ _ _ _ z=>z.elim,λd M' H' v r B' rv=>kk d r M' H' v B' rv,λ_ _ _ _ _ z=>z.elim,λ_ _ _ _ _ _ _ z=>z.elim]]
theorem L0{x qual:Str}{st:Fa}{f:AT}{fd:Ix}{N ps:!Str}{k nos:Nat}{g:BC}{t:Yd}(F:Bh K x qual st f fd)(S:av N ps (ai st))(len:∀ ds R,t ds R->ds.length=ps.length)(hb:∀ (bT:AC) (A:Fr) (outer:!Env) (s:Cl) (H:Hp) (E:XK) (M:AT->Prop),dE k (A.deeper (envOfC qual (ai st) ↑s f bT)) ->
   ∃ tb,yM (n9 aQ P w K mg base N qual (ai st) f bT A outer s H E).FA #[g,M,H] (bx st) tb/\∀ ds R,t ds R->tb { nx:=λ_=>False,rt:=λ_=>False,rf:=R } (fI N.length nos ds))(hg:(g.qN=[])⁻¹):eV P w K mg base aQ (k+1) f fd ps (fZ K g t):=by
 show F.ok S (λvs H Q E h=>?_) λbT A outer s H vs Q E hr h=>?_
 .let(M,ds,R,B,r,q,_):=h;rw[r.length];exact len ds R q
 .let(M,ds,R,B,r,q,kk):=h;let(tb,h1,h2):=hb bT A outer s H E M hr;exact#[_,h1.ps,M,_,_,_,qA B r hg,h2 ds R q,#[λ_ _ _ _ _ z=>z.elim,λ_ _ _ _ _ z=>z.elim,λ_ _ _ _ _ z=>z.elim,λ_ _ _ _ z=>z.elim,λd M' H' a o r B' ha ro nm ng h0=>kk d r M' H' a o B' ha ro nm ng h0,λ_ _ _ _ _ _ _ z=>z.elim]]
end
section
variable{K:Frag}{c:Ent}{M M' M1 M3 M6:AT->Prop}{s s' s1 s6:DS}{as:!AT}{σ σ4:St}{H H' H1 H3 H6:Hp}{a p q:AT}{o:HO}{d:D}{v:V}
def gL(nt:Nat)(us:!Nat)(s:DS):DS:=#[List.replicate nt .no++us.map λj=>s.sl.getD j .no,s.os]
theorem tf{nt:Nat}{us:!Nat}{i:Nat}{x:Sl}(hx:x≠.no)(h:(gL nt us s).sl[i]?=some x):∃ j,us[i - nt]?=some j/\nt<=i/\s.sl[j]?=some x:=by
 by_cases hi:i < nt
 .rw[gL,List.getElem?_append_left (by simpa using hi)] at h;let(_,e):=VC.mp h;simp at e;exact absurd e.symm hx
 .rw[gL,List.getElem?_append_right (by simpa using hi)] at h;simp only[List.length_replicate] at h;rw[V0] at h;let(j,h1,h2):=Wb.mp h;show#[j,h1,by cbv,?_];rw[WS] at h2;cases e:s.sl[j]? with
  | none=>rw[e] at h2;exact absurd h2.symm hx
  | some y=>rw[e] at h2;exact congrArg some h2
theorem wJ{nt:Nat}{us:!Nat}{i j:Nat}{v:V}(hj:us[i - nt]?=some j)(hi:nt<=i)(h:σ[j]?=some (some v)):(L2.lift nt us σ)[i]?=some (some v):=by
 rw[L2.lift,List.getElem?_append_right (by simpa using hi),List.length_replicate,List.getElem?_map,hj,Option.map_some,h]
 rfl
theorem aC.inner(L:aC K c M s as σ H)(nt:Nat)(us:!Nat):aC K c M (gL nt us s) as (L2.lift nt us σ) H where
 base:=L.base
 len:=by simp[gL,L2.lift]
 gr:=L.gr
 dat:=λi d h=>by
  let(j,h1,h2,h3):=tf (by intro z;cases z) h;let(v,g1,g2):=L.dat j d h3;exact#[v,wJ h1 h2 g1,g2]
 own:=λi k h=>by
  let(j,h1,h2,h3):=tf (by intro z;cases z) h;let(v,g1,g2):=L.own j k h3;exact#[v,g1,wJ h1 h2 g2]
 obj:=L.obj
 inj:=L.inj
 lt:=L.lt
theorem aC.outer(L:aC K c M s as σ H)(E:Ext c as M s1 H M6 s6 H6)(hs:s1.os=s.os)(L6:aC K c M6 s6 as σ4 H6):aC K c M6 #[s.sl,s6.os] as σ H6 where
 base:=L6.base
 len:=L.len
 gr:=L6.gr
 dat:=λi d h=>by
  let(v,g1,g2):=L.dat i d h;have E':Ext c as M s H M6 s6 H6:=#[E.sub,λb m=>by
   rcases E.new b m with h | h | ⟨k,e,h1,h2⟩
   .exact .inl h
   .exact .inr (.inl h)
   .exact .inr (.inr #[k,e,by rw[<- hs];exact h1,h2]),λb o e g w=>E.keep b o e g λ#[k,e,h1,h2]=>w #[k,e,by rw[<- hs];exact h1,h2],λb w=>by
   let(k,e,h1,h2):=E.jt b w;exact#[k,e,by rw[<- hs];exact h1,h2]]
  exact#[v,g1,E'.rep L g2]
 own:=L.own
 obj:=L6.obj
 inj:=L6.inj
 lt:=L6.lt
theorem Ext.os{s2 Tf:DS}(E:Ext c as M s H M' s' H')(hs:s.os=s2.os)(Ia:s'.os=Tf.os):Ext c as M s2 H M' Tf H':=#[E.sub,λb m=>by
   rcases E.new b m with h | h | ⟨k,e,h1,h2⟩
   .exact .inl h
   .exact .inr (.inl h)
   .exact .inr (.inr #[k,e,by rw[<- hs];exact h1,h2]),λb o e g w=>E.keep b o e g λ#[k,e,h1,h2]=>w #[k,e,by rw[<- hs];exact h1,h2],λb z7r=>by
   let(k,e,h1,h2):=z7r;let(k,e,h1,h2):=E.jt b #[k,e,by rw[Ia];exact h1,h2];exact#[k,e,by rw[<- hs];exact h1,h2]]
theorem aC.wr{ys:!V}(L:aC K c M s as σ H)(hq:H q=some (.lst ys))(nm:¬ M q)(ng:¬ c.g.own q)(nw:¬ d4 s as q)(h0:c.H0 q=none):aC K c M s as σ (upd H q o):=by
 have kp:∀ b u,b≠q->H b=some u->upd H q o b=some u:=λb u ne e=>by rw[aw ne];exact e
 have km:∀ b u,M b->H b=some u->upd H q o b=some u:=λb u m e=>kp b u (λz=>nm (z▸m)) e;show#[#[c.g.loc H _ L.base.qe λb u g e=>kp b u (λz=>g.elim (λg=>ng (z▸g)) λ#[φ,f]=>by subst f;rw[z,hq] at e;cases e) e,λb u e g=>kp b u (λz=>by rw[z,h0] at e;cases e) (L.base.fr b u e g),λb m=>?_,L.base.mo,L.base.m0,L.base.mn],L.len,L.gr,λi e h=>?_,L.own,λl e b h1 h2=>?_,L.inj,L.lt]
 .let(u,e):=L.base.md b m;exact#[u,km b u m e]
 .let(w,h1,h2):=L.dat i e h;exact#[w,h1,Rep.mono (λ_ m=>m) km e w h2]
 .let((u,q1,q2),q3):=L.obj l e b h1 h2;show#[#[u,kp b u (λz=>?_) q1,q2.mono (λ_ m=>m) km],q3];subst z;exact nw #[l,e,h1,h2]
theorem Ext.wr(hn:H q=none)(E:Ext c as M s H M' s' H'):Ext c as M s H M' s' (upd H' q o):=#[E.sub,E.new,λb u e g w=>by
 rw[aw (aF e hn)];exact E.keep b u e g w,E.jt]
theorem Ct(L:aC K c M s as σ H)(E1:Ext c as M s H M1 s1 H1)(ng:¬ c.g.own a)(hn:H1 a=none):H a=none\/d4 s as a:=by
 cases q:H a with
 | none=>exact .inl U
 | some u =>
  by_cases w:d4 s as a
  .exact .inr w
  .have:=E1.keep a u q ng w;rw[hn] at this;cases this
end
def b4(nt:Nat)(us:!Nat)(g:pN)(ti:mF)(te:aV):!D->!D->DS->(!D->DS->Prop)->Prop
 | [],acc,s,Q=>Q acc s
 | x::xs,acc,s,Q=>g x (gL nt us s) λs1=>ti s1 λb s2=>if b=true then te s2 λy s3=>b4 nt us g ti te xs (acc++[y]) #[s.sl,s3.os] Q else b4 nt us g ti te xs acc #[s.sl,s2.os] Q
def qO(nt:Nat)(us:!Nat)(tx:fW)(g:pN)(ti:mF)(te:aV):aV:=λs Q=>tx s λxs s1=>b4 nt us g ti te xs [] s1 λys s2=>Q (.lst ys) s2
structure N1(X:Cx)(c:Ent)(ifs:!Ch)(t:mF):Prop where
 Ti:LZ X ifs (tT X.K c t)
section
variable{X:Cx}{c:Ent}{e:Ch}{pos:Pos}
def cf:mF:=λs Q=>Q true s
theorem bD:N1 X c [] cf:=#[λTD s σ H Q I z4q=>by let(M,s',as,R,L,q,k):=z4q;exact yT TD s σ H Q I (k true s' q M H L .refl)]
theorem fK{t:mF}(h:DT X c e t):N1 X c [e] t:=#[zC h.pt]
end
section
variable{X:Cx}{c:Ent}{ts:!Str}{us:!Nat}{scope:Scope}{tg elt iter:Ch}{ifs:!Ch}{pos:Pos}{tx:fW}{g:pN}{ti:mF}{te:aV}
theorem yU{σ:St}{H:Hp}{Q:VK}:tN X.K c (qO ts.length us tx g ti te) σ H Q->wV ts.length us (tI X.K c tx) (tG X.K c ts.length g) (tT X.K c ti) (tE X.K c te) σ H Q:=λzz=>dq zz λM s as R L q k=>by
 show#[M,s,as,_,L,q,λxs s1 q1 M1 H1 J L1 E1 io hlen=>?_];intro A hA;let(n1,n2,n3,n4):=notM L1 hA;show#[λi m ys H2=>i<=xs.length/\m=xs.length - i/\ys.length<=i/\∃ M' s' zs,aC X.K c M' s' as σ H2/\Ext c as M1 s1 H1 M' s' H2/\H2 A=some (.lst ys)/\ay X.K H2 M' zs ys/\¬ M' A/\b4 ts.length us g ti te (xs.drop i) zs s' λys s2=>R (.lst ys) s2,
  #[_,VT _,U,VB _,M1,s1,[],L1.laid hA,Ext.laid hA,aA,U,n1,q1],?_]
 rintro i m ys H2 ⟨hi,rfl,hy,M',s',zs,L',E',hD,rz,nm,q'⟩;have nw:∀ {DY:DS},(∀ b,d4 DY as b->d4 s' as b)->¬ d4 DY as A:=λh w=>n3 (E'.jt A (h A w));show#[hD,?_];have G':dW M1 H1 M' H2:=E'.grow L1;let(h1,h2):=io M' H2 G';by_cases jI:i < xs.length
 .refine .inr ?_;have hx:xs[i]?=some xs[i]:=VO jI;let(hgo,hyl):=h2 i _ hx;rw[drop_cons hx] at q';show#[hgo,by cbv,λx H3 y=>?_];have go:∀ M3,aC X.K c M3 s' as σ H3->Rep X.K H3 M3 xs[i] x->Ext c as M' s' H2 M3 s' H3->H3 A=some (.lst ys)->¬ M3 A->tG X.K c ts.length g x (L2.lift ts.length us σ) H3 λσ4 H4=>D7 (L2.lift ts.length us σ) σ4/\tT X.K c ti σ4 H4 λb H5 =>
    if b=true then tE X.K c te σ4 H5 λy H6=>H6 A=some (.lst ys)/\∃ m',m' < xs.length - i/\(i+1<=xs.length/\m'=xs.length - (i+1)/\(ys++[y]).length<=i+1/\∃ M' s' zs,aC X.K c M' s' as σ (upd H6 A (.lst (ys++[y])))/\Ext c as M1 s1 H1 M' s' (upd H6 A (.lst (ys++[y])))/\upd H6 A (.lst (ys++[y])) A=some (.lst (ys++[y]))/\ay X.K (upd H6 A (.lst (ys++[y]))) M' zs (ys++[y])/\¬ M' A/\b4 ts.length us g ti te (xs.drop (i+1)) zs s' λys s2=>R (.lst ys) s2)
    else ∃ m',m' < xs.length - i/\(i+1<=xs.length/\m'=xs.length - (i+1)/\ys.length<=i+1/\∃ M' s' zs,aC X.K c M' s' as σ H5/\Ext c as M1 s1 H1 M' s' H5/\H5 A=some (.lst ys)/\ay X.K H5 M' zs ys/\¬ M' A/\b4 ts.length us g ti te (xs.drop (i+1)) zs s' λys s2=>R (.lst ys) s2):=by
   intro M3 L3 r3 E3 hD3 nm3;show#[M3,_,as,_,_,L3.inner ts.length us,r3,q',λs4 q4 σ4 L4 e4 o4=>#[λj v hj=>?_,M3,s4,as,_,L4,q4,λb s5 r5 M5 H5 L5 E5=>?_]]
   .by_cases hjn:j < ts.length
    .rw[L2.lift,List.getElem?_append_left (by simpa using hjn)] at hj;let(_,e):=VC.mp hj;simp at e
    .rw[e4 j (by cbv)];exact hj
   .have E5':Ext c as M3 s' H3 M5 #[s'.sl,s5.os] H5:=E5.os o4 U;have L5':aC X.K c M5 #[s'.sl,s5.os] as σ H5:=L3.outer E5 o4 L5;have F5:Ext c as M' s' H2 M5 #[s'.sl,s5.os] H5:=E3.trans L3.base E5';have hD5:H5 A=some (.lst ys):=E5'.keep A _ hD3 n2 (nw λ_ h=>h);have nm5:¬ M5 A:=λm=>by
     rcases E5'.new A m with m | (m | ⟨_,m⟩) | m
     .exact nm3 m
     .rw[hD3] at m;cases m
     .rw[hD3] at m;cases m
     .exact nw (λ_ h=>h) m
    cases b with
    | false =>
     rw[if_neg VN] at r5;show vg ?_;exact#[xs.length - (i+1),by cbv,jI,U,by cbv,M5,_,zs,L5',E'.trans L'.base F5,hD5,F5.vK L' rz,nm5,r5]
    | true =>
     rw[if_pos U] at r5;show pI ?_;show#[M5,s5,as,_,L5,r5,λy s6 r6 M6 H6 v L6 E6 rv=>?_];have E6':Ext c as M5 #[s'.sl,s5.os] H5 M6 #[s'.sl,s6.os] H6:=E6.os U U;have L6':aC X.K c M6 #[s'.sl,s6.os] as σ H6:=L5'.outer E6 U L6;have F6:Ext c as M' s' H2 M6 #[s'.sl,s6.os] H6:=F5.trans L5'.base E6';have hD6:H6 A=some (.lst ys):=E6'.keep A _ hD5 n2 (nw F5.jt);have nm6:¬ M6 A:=λm=>by
      rcases E6'.new A m with m | (m | ⟨_,m⟩) | m
      .exact nm5 m
      .rw[hD5] at m;cases m
      .rw[hD5] at m;cases m
      .exact nw F5.jt m
     have kM:∀ b u,M6 b->H6 b=some u->upd H6 A (.lst (ys++[v])) b=some u:=λb u mb e=>by
      have ne:b≠A:=λz=>by
       subst z;exact nm6 mb
      rw[aw ne];exact e
     show#[hD6,xs.length - (i+1),by cbv,jI,U,by simp;cbv,M6,_,zs++[y],L6'.wr hD6 nm6 n2 (nw F6.jt) n4,(E'.trans L'.base F6).wr hA,aA,?_,nm6,r6];exact ay.mono (λ_ h=>h) kM _ _ ((F6.vK L' rz).append (ay.one rv))
  rcases hyl x H3 y with ⟨rfl,r⟩ | ⟨p,o,hp,rfl,r⟩
  .exact go M' L' r .refl hD nm
  .have hpA:A≠p:=aF hD hp;exact go _ (L'.fresh hp) r (Ext.fresh hp) (by rw[aw hpA];exact hD) λm=>by
    rcases m with m | m
    .exact nm m
    .exact hpA m
 .have e:i=xs.length:=by cbv
  subst e;rw[List.drop_length] at q';show .inl #[h1 _ (VB _),k _ s' q' M' H2 A _ L' (E1.trans L1.base E') hD rz nm n2 (nw λ_ h=>h) n4 (Ct L E1 n2 hA)]
theorem LI(S:bF X ts us scope)(hc:X.calm=true)(hi:DI X c tg iter tx)(hg:∀ C s H fp,DG (X.comp ts us scope C s H fp) c ts.length tg g)(BM:∀ C s H fp,N1 (X.comp ts us scope C s H fp) c ifs ti)(he:∀ C s H fp,DE (X.comp ts us scope C s H fp) c elt te)(hs:Yi iter X.env:=by intro _;rfl):DN X c (.ListComp elt [#[tg,iter,ifs,0]] scope pos) (qO ts.length us tx g ti te) :=
 #[(Aj S hc hi.pi (λC s H fp=>(hg C s H fp).pg) (λC s H fp=>(BM C s H fp).Ti) (λC s H fp=>(he C s H fp).pe) hs).imp λ_ _ _=>yU]
theorem nj{i:Nat}{x:Str}{px DP:Pos}(hN:X.N.Nodup)(u1:X.N[i]?=some x)(hx:X.env.scope.names.lookup x=some .local)(S:bF X ts us scope)(hc:X.calm=true)(hi:DI X c tg iter tx)(hg:∀ C s H fp,DG (X.comp ts us scope C s H fp) c ts.length tg g)(BM:∀ C s H fp,N1 (X.comp ts us scope C s H fp) c ifs ti)(he:∀ C s H fp,DE (X.comp ts us scope C s H fp) c elt te)(Om:(swapsWith (.ListComp elt [#[tg,iter,ifs,0]] scope pos) (some (.Name x px)) DP.line X.env=pure true)⁻¹)(hs:Yi iter X.env:=by intro _;rfl):PS X (.Assign [.Name x px] (.ListComp elt [#[tg,iter,ifs,0]] scope pos) DP) (kc (tN X.K c (qO ts.length us tx g ti te)) (dU i)) :=
 (yC hN u1 hx S hc hi.pi (λC s H fp=>(hg C s H fp).pg) (λC s H fp=>(BM C s H fp).Ti) (λC s H fp=>(he C s H fp).pe) Om hs).imp λE σ H q=>yU q
theorem tV{i:Nat}{st:Fa}{te:aV}(h:PS X st (kc (tN X.K c te) (dU i))):PS X st (kc (tE X.K c te) (dU i)):=h.imp λE σ H zz=>dq zz λM s as R L q k =>
 #[M,s,as,R,L,q,λd s' r M' H' a o L' E ha ro nm ng nw h0 hn =>
  k d s' r _ H' (.ref a) (L'.grown ha ng nw h0) (E.plus hn) ((ro.mono (λ_ h=>.inl h) λ_ _ _ e=>e).rep ha (.inr U))]
end
end DL
namespace HT
open PySem PyProof.Rows
variable{prog:Fk}{w:FB}{A:Fr}{E:Yb}{s:Cl}
theorem j8{t sl:AT}{items:Array AC}{vl vu:AC}{lo hi:Option Int}{Q:Yb}(ht:IsTup s.heap t items)(hs:s.heap.IsSliceOf sl vl vu .none)(pl:IsPart vl lo)(pu:IsPart vu hi)(hw:b5 items.size 0 lo=0/\b5 items.size items.size hi=items.size)(h:Q (.ref t) s):Da (model prog w) A (getItem (.ref t) (.ref sl)) Q E s:=by
 let(os,hos,hcs,wb):=id hs;have hTs:s.TypeIs (.ref sl) "slice":=#[os,hos,hcs];unfold getItem
 try with_reducible show KK ?_
 first | show BT (EQ ?_) | skip
 show BT (wpAny_sequenceKey ht.typeIs () ?_);show BT (wpAny_callSpecial?_slot (name:=Str.ofString "__getitem__") ht.typeIs PyProof.Rows.slot_tuple_getitem
  (Ps PyProof.Rows.slot_tuple_getitem ht.typeIs entry_tuple_getitem ?_ (args_tuple_getitem _ _)))
 change Da _ _ (FM.Tuple.tupleItemsOf (.ref t) >>= _) _ _ s;show BT (tupleItemsOf_ ht ?_);show BT (wpAny_typeOf hTs ?_);rw[if_pos ()];show BT (hU hs pl pu ?_);have BB:(((b5 items.size 0 lo:Nat):Int) == 0&&(1:Int) == 1&&(b5 items.size items.size hi - b5 items.size 0 lo) == items.size)=true:=by
  rw[hw.1,hw.2];simp
 change Da _ _ (if (((b5 items.size 0 lo:Nat):Int) == 0&&(1:Int) == 1&&(b5 items.size items.size hi - b5 items.size 0 lo) == items.size)=true then _ else _) _ _ s;rw[if_pos BB];show BT (m:=FM.Tuple.tupleIsExact (.ref t)) (BT (wpAny_typeOf ht.typeIs (EQ ?_)));rw[if_pos ()];exact BT (wpAny_rule (EQ #[_,U,EQ h]))
end HT
namespace L2
open PySem PySem.Spec PyProof.Rows
section
variable{X:Cx}
def Pj(K:Frag):V->Option Int->Option Int->Hp->VK->Prop:=λx lo hi H Q=>∃ a xs,x=.ref a/\ir K H a xs /\
 ((HT.b5 xs.length 0 lo=0/\HT.b5 xs.length xs.length hi=xs.length)->Q (.ref a) H)/\(¬ (HT.b5 xs.length 0 lo=0/\HT.b5 xs.length xs.length hi=xs.length)->∀ p,H p=none->Q (.ref p) (upd H p (.tup (qQ xs lo hi))))
theorem GY:Mw X (Pj X.K):=by
 intro TD s σ H x v vl vu lo hi sl Q I rx hs pl pu h;let(a,xs,rfl,hx,q1,q2):=h;by_cases hw:HT.b5 xs.length 0 lo=0/\HT.b5 xs.length xs.length hi=xs.length
 .cases rx;let(its,r,ht,hz):=I.tuple hx;have hlen:its.toArray.size=xs.length:=by rw[VQ];exact r.length.symm
  exact#["tuple",_,PyProof.Rows.slot_tuple_getitem.lookup,ht.typeIs,HT.j8 ht hs pl pu (by rw[hlen];exact hw) #[.ref a,H,I,U,q1 hw]]
 .exact JE TD s σ H _ v vl vu lo hi sl Q I rx hs pl pu #[a,xs,U,hx,hw,q2 hw]
def RA(K:Frag)(tl:TE):TI:=λσ H R=>tl σ H λx H1=>∃ a,x=.ref a/\((∃ xs,eM K H1 a xs/\(xs.length<=Ev->R (Le K a) H1))\/∃ xs,ir K H1 a xs/\(xs.length<=Ev->R (Sg K a) H1))
theorem Lm{tg l:Ch}{tl:TE}(hl:PE X l tl):PI X tg l (RA X.K tl):=by
 intro TD s σ H R I h;show b3 (hl TD s σ H _ I h) λv s1 zz=>el2 zz λx H1 I1 r1 q1=>?_;let(a,e,q1):=q1;subst e;cases r1;have fp:∀ b∈[↑s1],fX X TD H1 b:=λb hb=>by
  have e:b=↑s1:=by simpa using hb
  subst e;exact I1.rB (VB _) (I1.aZ.fresh (VB _))
 rcases q1 with ⟨xs,hq,q⟩ | ⟨xs,hq,q⟩
 .let(its,rv,p,hz):=I1.list hq;show wpAny_pyIter_list p.isList ?_;exact#[↑s1,[↑s1],_,_,H1,U,I1.kept (t':=s1.toks) λb o e=>Vz _ e,sM a _,#[_,VP _ U,U,U],fp,q hz]
 .let(its,rv,p,hz):=I1.tuple hq;show wpAny_pyIter_tuple (show s1.heap.IsTuple a its.toArray from p) ?_;exact#[↑s1,[↑s1],_,_,H1,U,I1.kept (t':=s1.toks) λb o e=>Vz _ e,xM a _,#[_,VP _ U,U,U],fp,q hz]
end
end L2
namespace DL
open PySem PySem.Spec L2
open PyProof.Rows hiding St
section
variable{X:Cx}{c:Ent}
def cI(P:Int->Int->Prop)(f:Int->Int->Int):D->D->(D->Prop)->Prop:=λa b k=>∃ i j,a=.int i/\b=.int j/\P i j/\k (.int (f i j))
def Rp(f:Int->Int->Int):D->D->(D->Prop)->Prop:=λa b k=>∃ i j,a=.int i/\b=.int j/\k (.int (f i j))
def So(f:Int->Int->Bool):D->D->(D->Prop)->Prop:=λa b k=>∃ i j,a=.int i/\b=.int j/\k (.bl (f i j))
theorem A1{P:Int->Int->Prop}{f:Int->Int->Int}:nF X c (rI P λi j=>.int (f i j)) (cI P f):=λM s as σ H x y dx dy k Q L rx ry z8r kk=>by
 let(i,j,e1,e2,hp,hk):=z8r;subst e1;subst e2;exact#[i,j,rx,ry,hp,kk _ hk M H _ L .refl U]
theorem fC{f:Int->Int->Int}:nF X c (uz λi j=>.int (f i j)) (Rp f):=λM s as σ H x y dx dy k Q L rx ry z9r kk=>by
 let(i,j,e1,e2,hk):=z9r;subst e1;subst e2;exact#[i,j,rx,ry,kk _ hk M H _ L .refl U]
theorem nk{f:Int->Int->Bool}:nF X c (uz λi j=>.bl (f i j)) (So f):=λM s as σ H x y dx dy k Q L rx ry z0r kk=>by
 let(i,j,e1,e2,hk):=z0r;subst e1;subst e2;exact#[i,j,rx,ry,kk _ hk M H _ L .refl U]
def fv:D->V
 | .cA=>.cA
 | .bl b=>.bl b
 | .int i=>.int i
 | .str x=>.str x
 | .ty n=>.ty n
 | .fO a=>.ref a
 | _=>.ref 0
def fN:D->Bool
 | .cA=>true
 | .bl _=>true
 | .int _=>true
 | .str _=>true
 | _=>false
theorem Rep.flat{K:Frag}{H:Hp}{M:AT->Prop}{d:D}{v:V}(f:fN d=true)(r:Rep K H M d v):v=fv d:=by
 cases d<;>first | exact r | (cases f)
theorem lL{d:D}(f:fN d=true):jr (fv d)=true:=by
 cases d<;>first | rfl | (cases f)
theorem ay.flat{K:Frag}{H:Hp}{M:AT->Prop}:∀ {ds:!D} {vs:!V},ds.all fN=true->ay K H M ds vs->vs=ds.map fv/\vs.all jr=true
 | [],vs,f,r=>by
  have r:vs=[]:=r;subst r;exact#[U,U]
 | d::ds,vs,f,r=>by
  let(x,xr,rfl,r1,r2):=r;rw[List.all_cons,V1] at f;let(h1,h2):=ay.flat f.2 r2;have e:=r1.flat f.1;subst e;exact#[by rw[VE,h1],by rw[List.all_cons,h2,lL f.1];rfl]
def SY:D->D->(D->Prop)->Prop:=λa b k=>(fN a=true/\fN b=true/\DQ (fv a) (fv b)=true)/\k (.bl (decide (fv a=fv b)))
def Vn:D->D->(D->Prop)->Prop:=λa b k=>(fN a=true/\fN b=true/\DQ (fv a) (fv b)=true)/\k (.bl (not (decide (fv a=fv b))))
theorem bH:nF X c QV SY:=λM s as σ H x y dx dy k Q L rx ry z1r kk=>by
 let((f1,f2,hs),hk):=z1r;have e1:=rx.flat f1;have e2:=ry.flat f2;subst e1;subst e2;exact#[hs,kk _ hk M H _ L .refl U]
theorem Nc:nF X c Ui Vn:=λM s as σ H x y dx dy k Q L rx ry z2r kk=>by
 let((f1,f2,hs),hk):=z2r;have e1:=rx.flat f1;have e2:=ry.flat f2;subst e1;subst e2;exact#[hs,kk _ hk M H _ L .refl U]
def UT(neg:Bool):D->D->(D->Prop)->Prop:=λa b k=>∃ ds,(b=.lst ds\/b=.tup ds)/\(fN a=true/\ds.all fN=true)/\k (.bl (if neg then (not (xP (fv a) (ds.map fv))) else xP (fv a) (ds.map fv)))
theorem okIn{neg:Bool}:nF X c (KN X.K neg) (UT neg):=λM s as σ H x y dx dy k Q L rx ry z3r kk=>by
 let(ds,hb,(f1,f2),hk):=z3r;have e1:=rx.flat f1;subst e1;have go:∀ {p xs},ay X.K H M ds xs->(eM X.K H p xs\/ir X.K H p xs)->KN X.K neg (fv dx) (.ref p) H Q:=λ{p xs} r h=>by
  let(e,f):=r.flat f2;show#[p,xs,U,h,lL f1,f,?_];rw[e];exact kk _ hk M H _ L .refl U
 rcases hb with rfl | rfl
 .let(p,xs,rfl,(m,h),r):=ry;exact go r (.inl (.of h))
 .let(p,xs,rfl,h,r):=ry;exact go r (.inr h.sq)
theorem ay.at{K:Frag}{H:Hp}{M:AT->Prop}{ds:!D}{vs:!V}{i:Int}{d:D}(r:ay K H M ds vs)(h:jd ds i=some d):∃ v,jd vs i=some v/\Rep K H M d v:=by
 unfold jd at h ⊢;rw[r.length];cases e:AF ds.length i with
 | none=>rw[e] at h;cases h
 | some j =>
  rw[e] at h;exact r.get h
def Co:D->D->(D->Prop)->Prop:=λa b k=>∃ ds i d,a=.tup ds/\b=.int i/\jd ds i=some d/\k d
def J9:D->D->(D->Prop)->Prop:=λa b k=>∃ ds i d,a=.lst ds/\b=.int i/\jd ds i=some d/\k d
def RM:D->D->(D->Prop)->Prop:=λa b k=>∃ z i ch,a=.str z/\b=.int i/\z.length<=Ev/\jd z.cps.toList i=some ch/\k (.str #[#v[ch]])
theorem IE:nF X c (KR X.K) Co:=λM s as σ H x y dx dy k Q L rx ry z4r kk=>by
 let(ds,i,d,e1,e2,h,hk):=z4r;subst e1;subst e2;let(p,xs,rfl,t,r):=rx;let(v,h1,h2):=r.at h;exact#[p,xs,i,v,U,ry,t.sq,h1,kk _ hk M H _ L .refl h2]
theorem HR:nF X c (Gk X.K) J9:=λM s as σ H x y dx dy k Q L rx ry z5r kk=>by
 let(ds,i,d,e1,e2,h,hk):=z5r;subst e1;subst e2;let(p,xs,rfl,(m,t),r):=rx;let(v,h1,h2):=r.at h;exact#[p,xs,i,v,U,ry,.of t,h1,kk _ hk M H _ L .refl h2]
theorem CA:nF X c M9 RM:=λM s as σ H x y dx dy k Q L rx ry z6r kk=>by
 let(z,i,ch,e1,e2,hz,h,hk):=z6r;subst e1;subst e2;exact#[z,i,ch,rx,ry,hz,h,kk _ hk M H _ L .refl U]
def RH:D->D->(D->Prop)->Prop:=λa b k=>∃ xs ys,a=.lst xs/\b=.lst ys/\xs.length+ys.length<=Ev/\k (.lst (xs++ys))
theorem aT:K5 X c Oc RH:=λM s as σ H x y dx dy k Q L rx ry z7r kk=>by
 let(xs,ys,e1,e2,hl,hk):=z7r;subst e1;subst e2;let(p,vs,rfl,(m,t),r):=rx;let(p',vs',rfl,(m',t'),r'):=ry;exact#[p,p',vs,vs',U,U,t,t',by rw[r.length,r'.length];exact hl,λq hq=>kk _ hk q _ hq (r.append r')]
def Nk:D->D->(D->Prop)->Prop:=λa b k=>∃ xs ys,a=.tup xs/\b=.tup ys/\xs≠[]/\xs.length+ys.length<=Ev/\k (.tup (xs++ys))
theorem JU:nF X c (II X.K) Nk:=λM s as σ H x y dx dy k Q L rx ry z8r kk=>by
 let(xs,ys,e1,e2,hn,hl,hk):=z8r;subst e1;subst e2;let(p,vs,rfl,t,r):=rx;let(p',vs',rfl,t',r'):=ry;show#[p,p',vs,vs',U,U,t.sq,t'.sq,λz=>?_,by rw[r.length,r'.length];exact hl,λz=>?_,λz q hq=>?_]
 .have:=r.length;rw[z] at this;exact hn (Wf this.symm)
 .have:=r'.length;rw[z] at this;have e:ys=[]:=Wf this.symm;subst e;rw[VJ] at hk;exact kk _ hk M H _ L .refl #[p,vs,U,t,r]
 .exact kk _ hk _ _ _ (L.fresh hq) (Ext.fresh hq) #[q,vs++vs',U,#[.inr U,aA],iR hq (r.append r')]
abbrev Gw:=DS->(Option Int->DS->Prop)->Prop
def tO(K:Frag)(c:Ent)(t:Gw):TO:=λσ H Q=>∃ M s as R,aC K c M s as σ H/\t s R/\∀ o s',R o s'->∀ M' H',aC K c M' s' as σ H'->Ext c as M s H M' s' H'->Q o H'
structure DO(X:Cx)(c:Ent)(e:Option Ch)(t:Gw):Prop where
 po:PO X e (tO X.K c t)
theorem _root_.L2.PO.imp{e:Option Ch}{t t':TO}(h:PO X e t)(w:∀ σ H Q,t' σ H Q->t σ H Q):PO X e t':=λTD s σ H Q I q=>h TD s σ H Q I (w σ H Q q)
def Qv:Gw:=λs Q=>Q none s
def JI(te:aV):Gw:=λs Q=>te s λd s1=>∃ i,d=.int i/\Q (some i) s1
theorem cx:DO X c none Qv:=#[Gi.imp λσ H Q zz=>dq zz λM s as R L q k=>k none s q M H L .refl]
theorem bb{e:Ch}{te:aV}(h:DE X c e te):DO X c (some e) (JI te):=#[(uU h.pe).imp λσ H Q zz=>dq zz λM s as R L q k =>
 #[M,s,as,_,L,q,λd s1 z9r M' H' v L' E' rv=>by
  let(i,e,r):=z9r;subst e;exact#[i,rv,k (some i) s1 r M' H' L' E']]]
def cutD(xs:!D)(lo hi:Option Int):!D:=(xs.drop (HT.b5 xs.length 0 lo)).take (HT.b5 xs.length xs.length hi - HT.b5 xs.length 0 lo)
theorem ay.cut{K:Frag}{H:Hp}{M:AT->Prop}{ds:!D}{vs:!V}(lo hi:Option Int)(r:ay K H M ds vs):ay K H M (cutD ds lo hi) (qQ vs lo hi):=by
 unfold cutD qQ;rw[r.length];exact (r.drop _).take _
def NX(te:aV)(tl th:Gw)(k:!D->Option Int->Option Int->(D->Prop)->D->Prop):aV:=λs Q=>te s λa s1=>tl s1 λl s2=>th s2 λu s3=>∃ ds,k ds l u (λd=>Q d s3) a
def Uz:!D->Option Int->Option Int->(D->Prop)->D->Prop:=λds l u Q a=>a=.lst ds/\Q (.lst (cutD ds l u))
def QZ:!D->Option Int->Option Int->(D->Prop)->D->Prop:=λds l u Q a=>a=.tup ds/\Q (.tup (cutD ds l u))
theorem dI{e:Ch}{lo hi:Option Ch}{te:aV}{tl th:Gw}{p2 pos:Pos}(he:DE X c e te)(hl:DO X c lo tl)(hu:DO X c hi th):DN X c (.Subscript e (.Slice lo hi none p2) pos) (NX te tl th Uz):=#[(ll Ap he.pe hl.po hu.po).imp λσ H Q zz=>dq zz λM s as R L q k =>
 #[M,s,as,_,L,q,λd s1 q1 M1 H1 v L1 E1 rv=>#[M1,s1,as,_,L1,q1,λl s2 q2 M2 H2 Lb E2=>#[M2,s2,as,_,Lb,q2,λu s3 q3 M3 H3 Lc E3=>by
  let(ds,e,q):=q3;subst e;have E13:=E2.trans Lb.base E3;let(p,xs,rfl,(m,t),r):=E13.rep L1 rv;exact#[p,xs,U,.of t,λb hb=>gU (d:=.lst _) L Lc (E1.trans L1.base E13) hb (r.cut l u) (k _ s3 q)]]]]]
theorem dC{e:Ch}{lo hi:Option Ch}{te:aV}{tl th:Gw}{p2 pos:Pos}(he:DE X c e te)(hl:DO X c lo tl)(hu:DO X c hi th):DE X c (.Subscript e (.Slice lo hi none p2) pos) (NX te tl th QZ):=#[(ll GY he.pe hl.po hu.po).imp λσ H Q zz=>dq zz λM s as R L q k =>
 #[M,s,as,_,L,q,λd s1 q1 M1 H1 v L1 E1 rv=>#[M1,s1,as,_,L1,q1,λl s2 q2 M2 H2 Lb E2=>#[M2,s2,as,_,Lb,q2,λu s3 q3 M3 H3 Lc E3=>by
  let(ds,e,q):=q3;subst e;have E13:=E2.trans Lb.base E3;have E0:=E1.trans L1.base E13;let(p,xs,rfl,t,r):=E13.rep L1 rv;show#[p,xs,U,t.sq,λhw=>?_,λhw b hb=>?_]
  .have e:cutD ds l u=ds:=by
    unfold cutD;rw[<- r.length,hw.1,hw.2,Xp,r.length,X7,List.take_length]
   rw[e] at q;exact k _ s3 q M3 H3 _ Lc E0 #[p,xs,U,t,r]
  .exact k _ s3 q _ _ _ (Lc.fresh hb) (E0.trans Lc.base (Ext.fresh hb)) #[b,_,U,#[.inr U,aA],iR hb (r.cut l u)]]]]]
def Ri:D->(D->Prop)->Prop:=λa k=>∃ ds,a=.lst ds/\k (.lst ds.reverse)
theorem B8{e st:Ch}{te:aV}{p2 pos:Pos}(he:DE X c e te)(n5:PE X st (tC (.int (-1)))):DN X c (.Subscript e (.Slice none none (some st) p2) pos) (Uc Ri te):=#[(Ec he.pe n5).imp λσ H Q zz=>dq zz λM s as R L q k =>
 #[M,s,as,_,L,q,λd s1 z0r M1 H1 v L1 E1 rv=>by
  let(ds,e,q1):=z0r;subst e;let(p,xs,rfl,(m,t),r):=rv;exact#[p,xs,U,.of t,λb hb=>gU (d:=.lst _) L L1 E1 hb r.reverse (k _ s1 q1)]]]
def lV(C:Yd)(t:fW):aV:=λs Q=>t s λds s1=>C ds λd=>Q d s1
def AM(X:Cx)(c:Ent)(r:!V->Hp->VK->Prop)(C:Yd):Prop:=∀ (M:AT->Prop) (s:DS) (as:!AT) (σ:St) (H:Hp) (xs:!V) (ds:!D) (k:D->Prop) (Q:VK),aC X.K c M s as σ H->ay X.K H M ds xs->C ds k ->
 (∀ d,k d->∀ M' H' v,aC X.K c M' s as σ H'->Ext c as M s H M' s H'->Rep X.K H' M' d v->Q v H')->r xs H Q
def Lf(X:Cx)(c:Ent)(r:!V->Hp->VK->Prop)(C:Yd):Prop:=∀ (M:AT->Prop) (s:DS) (as:!AT) (σ:St) (H:Hp) (xs:!V) (ds:!D) (k:D->Prop) (Q:VK),aC X.K c M s as σ H->ay X.K H M ds xs->C ds k ->
 (∀ d,k d->∀ p o,H p=none->cz X.K H M d o->Q (.ref p) (upd H p o))->r xs H Q
section
variable{x:Str}{p pos:Pos}{e:Ch}{es:!Ch}{t:fW}{id T:String}{r:!V->Hp->VK->Prop}{C:Yd}
theorem Iv{n:Nat}(k:AM X c r C){σ:St}{H:Hp}{Q:VK}:tE X.K c (lV C t) σ H Q->FE r (tA X.K c n t) σ H Q:=λzz=>dq zz λM s as R L q kk =>
 #[M,s,as,_,L,q,λds s1 q1 M1 H1 vs L1 E1 r1 hl=>k M1 s1 as σ H1 vs ds (λd=>R d s1) Q L1 r1 q1 λd rd M' H' v L' E' rv=>kk d s1 rd M' H' v L' (E1.trans L1.base E') rv]
theorem Jr{n:Nat}(k:Lf X c r C){σ:St}{H:Hp}{Q:VK}:tN X.K c (lV C t) σ H Q->FE r (tA X.K c n t) σ H Q:=λzz=>dq zz λM s as R L q kk =>
 #[M,s,as,_,L,q,λds s1 q1 M1 H1 vs L1 E1 r1 hl=>k M1 s1 as σ H1 vs ds (λd=>R d s1) Q L1 r1 q1 λd rd p o hp ro=>gU L L1 E1 hp ro (kk d s1 rd)]
theorem cm(hc:cT X (.builtin id) r)(k:AM X c r C)(hg:Gl X x)(hm:X.mg x=none)(hv:bootBuiltins x=some (.builtin id))(ha:DA X c (e::es) t)(hn: ~~~(x≠"__name__"))(kg: ~~~(Yg x))(he:(Ye X.env e es)⁻¹)(g6:(Yf X.env pos es)⁻¹):DE X c (.Call (.Name x p) (e::es) [] pos) (lV C t):=#[(ee hc hg hm hv ha.pa hn kg he g6).imp λ_ _ _=>Iv k]
theorem ip(hc:cT X (.type T) r)(k:AM X c r C)(hg:Gl X x)(hm:X.mg x=none)(hv:bootBuiltins x=some (.type T))(ha:DA X c (e::es) t)(hn: ~~~(x≠"__name__"))(kg: ~~~(Yg x))(he:(Ye X.env e es)⁻¹)(g6:(Yf X.env pos es)⁻¹):DE X c (.Call (.Name x p) (e::es) [] pos) (lV C t):=#[(nh hc hg hm hv ha.pa hn kg he g6).imp λ_ _ _=>Iv k]
theorem d9(hc:cT X (.type T) r)(k:Lf X c r C)(hg:Gl X x)(hm:X.mg x=none)(hv:bootBuiltins x=some (.type T))(ha:DA X c (e::es) t)(hn: ~~~(x≠"__name__"))(kg: ~~~(Yg x))(he:(Ye X.env e es)⁻¹)(g6:(Yf X.env pos es)⁻¹):DN X c (.Call (.Name x p) (e::es) [] pos) (lV C t):=#[(nh hc hg hm hv ha.pa hn kg he g6).imp λ_ _ _=>Jr k]
end
theorem cV{K:Frag}{H:Hp}{M:AT->Prop}{d:D}{vs:!V}(r:ay K H M [d] vs):∃ v,vs=[v]/\Rep K H M d v:=by
 let(x,xr,rfl,r1,r2):=r;have r2:xr=[]:=r2;subst r2;exact#[x,U,r1]
theorem v8{K:Frag}{H:Hp}{M:AT->Prop}{d e:D}{vs:!V}(r:ay K H M [d,e] vs):∃ v w,vs=[v,w]/\Rep K H M d v/\Rep K H M e w:=by
 let(x,xr,rfl,r1,r2):=r;let(y,rfl,r3):=cV r2;exact#[x,y,U,r1,r3]
def C6:Yd:=λas k=>∃ ds,(as=[.lst ds]\/as=[.tup ds])/\k (.int ds.length)
theorem OX:AM X c (λxs H Q=>∃ p ys,xs=[.ref p]/\(eM X.K H p ys\/ir X.K H p ys)/\Q (.int ys.length) H) C6:=λM s as σ H xs ds k Q L r z1r kk=>by
 let(es,hb,hk):=z1r;rcases hb with rfl | rfl
 .let(v,rfl,p,ys,rfl,(m,h),r'):=cV r;show#[p,ys,U,.inl (.of h),?_];rw[r'.length];exact kk _ hk M H _ L .refl U
 .let(v,rfl,p,ys,rfl,h,r'):=cV r;show#[p,ys,U,.inr h.sq,?_];rw[r'.length];exact kk _ hk M H _ L .refl U
def NI:Yd:=λas k=>∃ z,as=[.str z]/\z.length<=Ev/\k (.int z.length)
theorem C7:AM X c (λxs H Q=>∃ z,xs=[.str z]/\z.length<=Ev/\Q (.int z.length) H) NI:=λM s as σ H xs ds k Q L r z2r kk=>by
 let(z,e,hz,hk):=z2r;subst e;let(v,rfl,e):=cV r;have e:v=.str z:=e;subst e;exact#[z,U,hz,kk _ hk M H _ L .refl U]
def Qz:Yd:=λas k=>∃ i j,as=[.int i,.int j]/\k (.int (if j > i then j else i))
theorem Ip:AM X c (λxs H Q=>∃ i j,xs=[.int i,.int j]/\Q (.int (if j > i then j else i)) H) Qz:=λM s as σ H xs ds k Q L r z3r kk=>by
 let(i,j,e,hk):=z3r;subst e;let(v,w,rfl,e1,e2):=v8 r;have e1:v=.int i:=e1;have e2:w=.int j:=e2;subst e1;subst e2;exact#[i,j,U,kk _ hk M H _ L .refl U]
def OH:Yd:=λas k=>(∃ i,as=[.int i]/\k (.int i))\/∃ b,as=[.bl b]/\k (.int (if b then 1 else 0))
theorem ur:AM X c (λxs H Q=>(∃ i,xs=[.int i]/\Q (.int i) H)\/∃ k,xs=[.bl k]/\Q (.int (if k then 1 else 0)) H) OH:=λM s as σ H xs ds k Q L r h kk=>by
 rcases h with ⟨i,rfl,hk⟩ | ⟨i,rfl,hk⟩
 .let(v,rfl,e1):=cV r;have e1:v=.int i:=e1;subst e1;exact .inl #[i,U,kk _ hk M H _ L .refl U]
 .let(v,rfl,e1):=cV r;have e1:v=.bl i:=e1;subst e1;exact .inr #[i,U,kk _ hk M H _ L .refl U]
def Pp:Yd:=λas k=>∃ ds,(as=[.lst ds]\/as=[.tup ds])/\k (.lst ds)
theorem dY:Lf X c (λxs H Q=>∃ p ys,xs=[.ref p]/\(eM X.K H p ys\/ir X.K H p ys)/\∀ l,H l=none->Q (.ref l) (upd H l (.lst ys))) Pp:=λM s as σ H xs ds k Q L r z4r kk=>by
 let(es,hb,hk):=z4r;rcases hb with rfl | rfl
 .let(v,rfl,p,ys,rfl,(m,h),r'):=cV r;exact#[p,ys,U,.inl (.of h),λl hl=>kk _ hk l _ hl r']
 .let(v,rfl,p,ys,rfl,h,r'):=cV r;exact#[p,ys,U,.inr h.sq,λl hl=>kk _ hk l _ hl r']
def Jv:Yd:=λas k=>∃ ds,(as=[.lst ds]\/as=[.tup ds])/\k (.tup ds)
theorem Pk:AM X c (λxs H Q=>∃ p ys,xs=[.ref p]/\((eM X.K H p ys/\∀ l,H l=none->Q (.ref l) (upd H l (.tup ys)))\/(ir X.K H p ys/\Q (.ref p) H))) Jv:=λM s as σ H xs ds k Q L r z5r kk=>by
 let(es,hb,hk):=z5r;rcases hb with rfl | rfl
 .let(v,rfl,p,ys,rfl,(m,h),r'):=cV r;exact#[p,ys,U,.inl #[.of h,λl hl=>kk _ hk _ _ _ (L.fresh hl) (Ext.fresh hl) #[l,ys,U,#[.inr U,aA],iR hl r']]]
 .let(v,rfl,p,ys,rfl,h,r'):=cV r;exact#[p,ys,U,.inr #[h.sq,kk _ hk M H _ L .refl #[p,ys,U,h,r']]]
def Qy:Yd:=λas k=>∃ bs:!Bool,as=[.lst (bs.map .bl)]/\k (.bl (bs.all id))
theorem Ab{K:Frag}{H:Hp}{M:AT->Prop}:∀ {bs:!Bool} {vs:!V},ay K H M (bs.map .bl) vs->vs=bs.map V.bl
 | [],vs,r=>r
 | b::bs,vs,r=>by
  let(x,xr,rfl,r1,r2):=r;have r1:x=.bl b:=r1;rw[r1,Ab r2,VE]
theorem Nt:AM X c (λxs H Q=>∃ (p:AT) (bs:!Bool),xs=[.ref p]/\eM X.K H p (bs.map V.bl)/\Q (.bl (bs.all id)) H) Qy:=λM s as σ H xs ds k Q L r z6r kk=>by
 let(bs,e,hk):=z6r;subst e;let(v,rfl,p,ys,rfl,(m,h),r'):=cV r;rw[Ab r'] at h;exact#[p,bs,U,.of h,kk _ hk M H _ L .refl U]
def OL(te:aV):fW:=λs Q=>te s λd s1=>∃ ds,(d=.lst ds\/d=.tup ds)/\Q ds s1
theorem aE{tg e:Ch}{te:aV}(he:DE X c e te):DI X c tg e (OL te):=#[λTD s σ H R I zz=>dq zz λM s0 as R0 L q k=>Lm he.pe TD s σ H R I
 #[M,s0,as,_,L,q,λd s1 z7r M1 H1 v L1 E1 rv=>by
  let(ds,hd,q1):=z7r;rcases hd with rfl | rfl
  .let(p,xs,rfl,(m,h),r):=rv;show#[p,U,.inl #[xs,.of h,λhl=>k ds s1 q1 M1 H1 _ L1 E1 (λM2 H2 G=>?_) (by rw[<- r.length];exact hl)]];have h2:H2 p=some (.lst xs):=(G p m).2 _ h;have r2:=G.vK r;show#[λi hi=>#[xs,.of h2,by rw[r.length];exact hi],λi d hd=>?_];let(v,g1,g2):=r2.get hd;show#[#[xs,v,.of h2,g1],λx H3 #[e,hx]=>.inl #[e,?_]];have:=hx xs (.of h2);rw[g1] at this;cases this;exact g2
  .let(p,xs,rfl,h,r):=rv;show#[p,U,.inr #[xs,h.sq,λhl=>k ds s1 q1 M1 H1 _ L1 E1 (λM2 H2 G=>?_) (by rw[<- r.length];exact hl)]];have h2:ir X.K H2 p xs:=(h.mono (λb m=>(G b m).1) λb o m e=>(G b m).2 o e).sq;have r2:=G.vK r;show#[λi hi=>#[xs,h2,by rw[r.length];exact hi],λi d hd=>?_];let(v,g1,g2):=r2.get hd;show#[#[xs,v,h2,g1],λx H3 #[e,hx]=>.inl #[e,?_]];have:=hx xs h2;rw[g1] at this;cases this;exact g2]]
def eF(lo:Int)(n:Nat):!D:=(List.range n).map λi=>.int (lo+(i:Nat))
def HC(t:fW):fW:=λs Q=>t s λds s1=>∃ j:Int,ds=[.int j]/\(-(2 ^ 62)<=j/\j<=16777216)/\Q (eF 0 j.toNat) s1
theorem D8{K:Frag}{M:AT->Prop}{H:Hp}{lo:Int}{n:Nat}:OS K M H (eF lo n) (Qr lo n):=λM1 H1 G =>
 #[λi hi=>by
  change n<=i;simpa [eF] using hi,λi d hd=>by
  unfold eF at hd;rw[V0] at hd;let(j,h1,h2):=Wb.mp hd;let(hl,e):=VC.mp h1;simp at hl e;subst e;subst h2;exact#[hl,λx H2 #[e,hx]=>.inl #[e,hx]]]
section
variable{tg a b:Ch}{t:fW}{p pos:Pos}
theorem dD(hg:Gl X "range")(hm:X.mg "range"=none)(ha:DA X c [a] t)(hs:(GE [a] X.env=[(false,eval a X.env)])⁻¹):DI X c tg (.Call (.Name "range" p) [a] [] pos) (HC t):=#[λTD s σ H R I zz=>dq zz λM s0 as R0 L q k=>A2 hg hm ha.pa hs TD s σ H R I
 #[M,s0,as,_,L,q,λds s1 z8r M1 H1 vs L1 E1 r _=>by
  let(j,e,(h1,h2),q1):=z8r;subst e;let(v,rfl,e):=cV r;have e:v=.int j:=e;subst e;exact#[j,U,h1,by cbv,k _ s1 q1 M1 H1 _ L1 E1 D8 (by simp[eF,Ev];cbv)]]]
end
end
section
variable{X:Cx}{c:Ent}
def S0:D->Bool
 | .lst _=>true
 | _=>false
def rC:D->Bool
 | .vv _ _=>true
 | .j9 _ _=>true
 | _=>false
theorem CM{K:Frag}{H:Hp}{M:AT->Prop}{d:D}{o:HO}(h:S0 d=true)(r:cz K H M d o):∃ xs,o=.lst xs:=by
 cases d<;>first | (cases h;done) | (cases o<;>first | exact#[_,U] | exact r.elim)
def Nv(i:Nat)(C:D->!D->(D->D->Prop)->Prop)(ta:fW):aV:=λs Q=>∃ k d0,s.sl[i]?=some (.own k)/\s.os[k]?=some (some d0)/\S0 d0=true/\ta s λds s1=>∃ d1,s1.os[k]?=some (some d1)/\C d1 ds λdr d2=>Q dr (s1.put k d2)
def GN(X:Cx)(r:V->!V->Hp->VK->Prop)(C:D->!D->(D->D->Prop)->Prop):Prop:=∀ (M:AT->Prop) (H:Hp) (a:AT) (o:HO) (d1:D) (ds:!D) (vs:!V) (k:D->D->Prop) (Q:VK),H a=some o->cz X.K H M d1 o->ay X.K H M ds vs->¬ M a->C d1 ds k ->
 (∀ dr d2,k dr d2->∀ o' v,cz X.K H M d2 o'->Rep X.K H M dr v->Q v (upd H a o'))->r (.ref a) vs H Q
theorem Mi{i n:Nat}{r:V->!V->Hp->VK->Prop}{C:D->!D->(D->D->Prop)->Prop}{ta:fW}(ok:GN X r C){σ:St}{H:Hp}{Q:VK}:tE X.K c (Nv i C ta) σ H Q->SR X.K "list" r (bG i) (tA X.K c n ta) σ H Q:=λz9q=>by
 let(M,s,as,R,L,(k,d0,h1,h2,h3,q),kk):=z9q;let(a,o,g1,g2,g3,g4):=L.slot h1 h2;let(xs,rfl):=CM h3 g4;show#[.ref a,g2,.inl #[U,xs,.of g3],M,s,as,_,L,q,λds s1 z0q M1 H1 vs L1 E1 r1 hl=>?_];let(d1,e1,q1):=z0q;let((o1,f1,f2),nm,ng,h0):=L1.obj k d1 a e1 g1;show ok M1 H1 a o1 d1 ds vs _ Q f1 f2 r1 nm q1 λdr d2 hk o' v ro rv=>?_;have E2:Ext c as M1 s1 H1 M1 (s1.put k d2) (upd H1 a o'):=Ext.uJ e1 g1;exact kk dr _ hk M1 _ v (L1.uJ e1 g1 ro) (E1.trans L1.base E2) (E2.rep L1 rv)
def Ir:fW:=λs Q=>Q [] s
theorem Li{i:Nat}{r:V->!V->Hp->VK->Prop}{C:D->!D->(D->D->Prop)->Prop}(ok:GN X r C){σ:St}{H:Hp}{Q:VK}:tE X.K c (Nv i C Ir) σ H Q->KW X.K "list" r (bG i) σ H Q:=λz1q=>by
 let(M,s,as,R,L,(k,d0,h1,h2,h3,d1,e1,q1),kk):=z1q;let(a,o,g1,g2,g3,g4):=L.slot h1 h2;let(xs,rfl):=CM h3 g4;show#[.ref a,g2,.inl #[U,xs,.of g3],?_];let((o1,f1,f2),nm,ng,h0):=L.obj k d1 a e1 g1;show ok M H a o1 d1 [] [] _ Q f1 f2 U nm q1 λdr d2 hk o' v ro rv=>?_;have E2:Ext c as M s H M (s.put k d2) (upd H a o'):=Ext.uJ e1 g1;exact kk dr _ hk M _ v (L.uJ e1 g1 ro) E2 (E2.rep L rv)
section
variable{o e:Ch}{es:!Ch}{i:Nat}{t:fW}{name:Str}{apos bV:Pos}{id:String}{r:V->!V->Hp->VK->Prop}{C:D->!D->(D->D->Prop)->Prop}
theorem pY(slot:Slot "list" name id)(Je:typeOf (.builtin id)=pure (.type "method_descriptor"))(hm:Qm X id r)(ok:GN X r C)(ho:PE X o (bG i))(ha:DA X c (e::es) t)(gf:(attributeBase o name X.env (eval o X.env)=eval o X.env)⁻¹)(qf:(((Go bV (GE (e::es) X.env)).all (λx=>(not x.1))&&(Rs bV (SL [] X.env)).all (λx=>x.1.isSome)
   && decide ((e::es).length+([]:!NE).length+(if ([]:!NE).isEmpty then 0 else 1) < 30))=true)⁻¹)(fz:((apos.endLine == bV.line)=true)⁻¹)(hs:(Ye X.env e es)⁻¹)(f9:((Go bV (GE es X.env)).any (·.1)=false)⁻¹) :
  DE X c (.Call (.Attribute o name apos) (e::es) [] bV) (Nv i C t):=#[(zy XN slot Je hm ho ha.pa gf qf fz hs f9).imp λ_ _ _=>Mi ok]
theorem zt(slot:Slot "list" name id)(Je:typeOf (.builtin id)=pure (.type "method_descriptor"))(hm:Qm X id r)(ok:GN X r C)(ho:PE X o (bG i))(gf:(attributeBase o name X.env (eval o X.env)=eval o X.env)⁻¹)(fz:((apos.endLine == bV.line)=true)⁻¹):DE X c (.Call (.Attribute o name apos) [] [] bV) (Nv i C Ir) :=
 #[(En XN slot Je hm ho gf fz).imp λ_ _ _=>Li ok]
end
def MV:D->!D->(D->D->Prop)->Prop:=λd ds k=>∃ xs x,d=.lst xs/\ds=[x]/\xs.length < Ev/\k .cA (.lst (xs++[x]))
theorem Oi:GN X yY MV:=λM H a o d ds vs k Q ha ro rv nm z9r kk=>by
 let(xs,x,e1,e2,hl,hk):=z9r;subst e1;subst e2;cases o with
 | lst ys =>
  have ro:ay X.K H M xs ys:=ro;let(v,rfl,rx):=cV rv;exact#[a,ys,v,U,U,ha,by rw[ro.length];exact hl,kk _ _ hk _ _ (show cz X.K H M (.lst _) (.lst _) from ro.append (.one rx)) U]
 | _=>exact ro.elim
def RQ:D->!D->(D->D->Prop)->Prop:=λd ds k=>∃ xs ys,d=.lst xs/\ds=[.lst ys]/\xs.length+ys.length<=Ev/\k .cA (.lst (xs++ys))
theorem pQ:GN X yu RQ:=λM H a o d ds vs k Q ha ro rv nm z0r kk=>by
 let(xs,ys,e1,e2,hl,hk):=z0r;subst e1;subst e2;cases o with
 | lst us =>
  have ro:ay X.K H M xs us:=ro;let(v,rfl,b,zs,rfl,(m,hb),rz):=cV rv;exact#[a,b,us,zs,U,U,ha,hb,by rw[ro.length,rz.length];exact hl,kk _ _ hk _ _ (show cz X.K H M (.lst _) (.lst _) from ro.append rz) U]
 | _=>exact ro.elim
theorem ay.snoc{K:Frag}{H:Hp}{M:AT->Prop}:∀ {ds:!D} {x:D} {vs:!V},ay K H M (ds++[x]) vs->∃ us v,vs=us++[v]/\ay K H M ds us/\Rep K H M x v
 | [],x,vs,r=>by
  let(v,rfl,h):=cV r;exact#[[],v,U,U,h]
 | d::ds,x,vs,r=>by
  let(y,yr,rfl,r1,r2):=r;let(us,v,rfl,h1,h2):=ay.snoc (ds:=ds) r2;exact#[y::us,v,U,#[y,us,U,r1,h1],h2]
def Rt:D->!D->(D->D->Prop)->Prop:=λd ds k=>∃ xs x,d=.lst (xs++[x])/\ds=[]/\k x (.lst xs)
theorem EJ:GN X JW Rt:=λM H a o d ds vs k Q ha ro rv nm z1r kk=>by
 let(xs,x,e1,e2,hk):=z1r;subst e1;subst e2;cases o with
 | lst us =>
  let(ws,v,rfl,r1,r2):=ay.snoc (show ay X.K H M (xs++[x]) us from ro);have rv:vs=[]:=rv;subst rv;show#[a,ws++[v],v,U,U,ha,by simp,?_];rw[List.dropLast_concat];exact kk _ _ hk _ _ (show cz X.K H M (.lst _) (.lst _) from r1) r2
 | _=>exact ro.elim
def KU:D->!D->(D->D->Prop)->Prop:=λd ds k=>∃ xs i j x,d=.lst xs/\ds=[.int i]/\(-(2 ^ 63)<=i/\i < 2 ^ 63)/\seqIndex? i xs.length=some j/\xs[j]?=some x/\k x (.lst (xs.eraseIdx j))
theorem uN:GN X E8 KU:=λM H a o d ds vs k Q ha ro rv nm z2q kk=>by
 let(xs,i,j,x,e1,e2,(h1,h2),h3,h4,hk):=z2q;subst e1;subst e2;cases o with
 | lst us =>
  have ro:ay X.K H M xs us:=ro;let(v,rfl,e):=cV rv;have e:v=.int i:=e;subst e;let(w,g1,g2):=ro.get h4;exact#[a,us,i,j,w,U,U,ha,h1,h2,by rw[ro.length];exact h3,g1,kk _ _ hk _ _ (show cz X.K H M (.lst _) (.lst _) from ro.eraseIdx j) g2]
 | _=>exact ro.elim
def KH:D->!D->(D->D->Prop)->Prop:=λd ds k=>∃ xs,d=.lst xs/\ds=[]/\k .cA (.lst [])
theorem GZ:GN X EC KH:=λM H a o d ds vs k Q ha ro rv nm z2r kk=>by
 let(xs,e1,e2,hk):=z2r;subst e1;subst e2;cases o with
 | lst us =>
  have rv:vs=[]:=rv;subst rv;exact#[a,us,U,U,ha,kk _ _ hk _ _ (show cz X.K H M (.lst _) (.lst _) from U) U]
 | _=>exact ro.elim
def Jg(i:Nat)(te ti:aV):kI:=λR s=>te s λd s1=>∃ k,s1.sl[i]?=some (.own k)/\ti s1 λdi s2=>∃ xs z j,s2.os[k]?=some (some (.lst xs))/\di=.int z/\AF xs.length z=some j/\R.nx (s2.put k (.lst (xs.set j d)))
theorem G6{i:Nat}{st:Fa}{te ti:aV}(h:PS X st (kc (tE X.K c te) (Pb (bG i) (tE X.K c ti) HE))):vz X c st (Jg i te ti):=#[h.imp λE σ H zz=>dq zz λM s as R L q kk =>
 #[M,s,as,_,L,q,λd s1 z3q M1 H1 v L1 E1 rv=>by
  let(k,h1,q1):=z3q;let(a,g1,g2):=L1.own i k h1;show#[.ref a,g2,M1,s1,as,_,L1,q1,λdi s2 z4q M2 H2 w Lb E2 rw=>?_];let(xs,z,j,h2,e,hj,q2):=z4q;subst e;let((o,f1,f2),nm,ng,h0):=Lb.obj k _ a h2 g1;cases o with
  | lst us =>
   have f2:ay X.K H2 M2 xs us:=f2;have rw:w=.int z:=rw;subst rw;have rv2:=E2.rep L1 rv;have hG:dW M H M2 (upd H2 a (.lst (us.set j v))):=(E1.grow L).trans ((E2.grow L1).trans ((Ext.uJ (c:=c) (M:=M2) (d:=.lst (xs.set j d)) h2 g1).grow Lb));exact#[a,us,z,j,U,U,f1,by rw[f2.length];exact hj,kk.nx _ as M2 σ _ q2 (Lb.uJ h2 g1 (show cz X.K H2 M2 (.lst _) (.lst _) from f2.set rv2 j)) hG]
  | _=>exact f2.elim]]
def MO(i:Nat):mF:=λs Q=>∃ k xs,s.sl[i]?=some (.own k)/\s.os[k]?=some (some (.lst xs))/\Q (not xs.isEmpty) s
theorem jD{α β:Type}{l:!α}{m:!β}(h:l.length=m.length):l.isEmpty=m.isEmpty:=by
 cases l<;>cases m<;>first | rfl | simp at h
theorem zK{i:Nat}{e:Ch}(he:PE X e (bG i))(hw:∀ whole,isTrue e X.env whole=(do let v <- whole;standAt e.pos;holding [v] (truthy v)):=by intro _;rfl):DT X c e (MO i):=#[(DX he hw).imp λσ H Q z5q=>by
 let(M,s,as,R,L,(k,xs,h1,h2,q),kk):=z5q;let(a,o,g1,g2,g3,g4):=L.slot h1 h2;cases o with
 | lst us =>
  have g4:ay X.K H M xs us:=g4;show#[_,g2,(not us.isEmpty),.inl #[us,.of g3,U],?_];rw[jD g4.length];exact kk _ s q M H L .refl
 | _=>exact g4.elim]
def fB(k:Nat)(d:D):Sl->Sl
 | .own j=>if j=k then .dat d else .own j
 | x=>x
def DS.freeze(s:DS)(k:Nat)(d:D):DS:=#[s.sl.map (fB k d),s.os.set k none]
def OV(i:Nat):aV:=λs Q=>∃ k d,s.sl[i]?=some (.own k)/\s.os[k]?=some (some d)/\Q d (s.freeze k d)
theorem QF{i:Nat}{e:Ch}(h:PE X e (bG i)):DE X c e (OV i):=#[h.imp λσ H Q z6q=>by
 let(M,s,as,R,L,(k,d,h1,h2,q),kk):=z6q;let(a,o,g1,g2,g3,g4):=L.slot h1 h2;let(_,nm,ng,h0):=L.obj k d a h2 g1;show#[_,g2,?_];have mk:∀ b u,M b->H b=some u->H b=some u:=λ_ _ _ e=>e;have ra:Rep X.K H (λb=>M b\/b=a) d (.ref a):=(g4.mono (λ_ m=>.inl m) mk).rep g3 (.inr U);have hos:∀ {l:Nat} {e:D},(s.freeze k d).os[l]?=some (some e)->l≠k/\s.os[l]?=some (some e):=λ{l e} h=>by
  rcases dH h with ⟨rfl,hl,q⟩ | ⟨ne,q⟩
  .cases q
  .exact#[λz=>ne z.symm,q]
 show kk d _ q (λb=>M b\/b=a) H (.ref a) #[#[L.base.qe,L.base.fr,λb m=>?_,λb m=>?_,λb m=>.inl (L.base.m0 b m),λb m=>?_],?_,?_,λj e he=>?_,λj l hj=>?_,λl e b e1 e2=>?_,λl m e f b e1 e2 f1 f2=>?_,L.lt] #[λ_ m=>.inl m,λb m=>?_,λ_ _ e _ _=>e,λb z7q=>by let(l,e,e1,e2):=z7q;exact#[l,e,(hos e1).2,e2]] ra
 .rcases m with m | rfl
  .exact L.base.md b m
  .exact#[o,g3]
 .rcases m with m | rfl
  .exact L.base.mo b m
  .exact ng
 .rcases m with m | rfl
  .exact L.base.mn b m
  .exact .inr (.inl h0)
 .show (s.sl.map _).length=_;rw[Vv];exact L.len
 .show as.length=(s.os.set k none).length;rw[WE];exact L.gr
 .have he:(s.sl.map (fB k d))[j]?=some (.dat e):=he;rw[V0] at he;let(x,hx,hy):=Wb.mp he;cases x with
  | no=>cases hy
  | dat y =>
   cases hy;let(v,w1,w2):=L.dat j e hx;exact#[v,w1,Rep.mono (λ_ m=>.inl m) mk e v w2]
  | own l =>
   replace hy:(if l=k then Sl.dat d else Sl.own l)=.dat e:=hy
   by_cases z:l=k
   .rw[if_pos z] at hy;cases hy;subst z;let(b,w1,w2):=L.own j l hx;rw[g1] at w1;cases w1;exact#[_,w2,ra]
   .rw[if_neg z] at hy;cases hy
 .have hj:(s.sl.map (fB k d))[j]?=some (.own l):=hj;rw[V0] at hj;let(x,hx,hy):=Wb.mp hj;cases x with
  | no=>cases hy
  | dat y=>cases hy
  | own l' =>
   replace hy:(if l'=k then Sl.dat d else Sl.own l')=.own l:=hy
   by_cases z:l'=k
   .rw[if_pos z] at hy;cases hy
   .rw[if_neg z] at hy;cases hy;exact L.own j l hx
 .let(ne,e1'):=hos e1;let((u,w1,w2),w3,w4):=L.obj l e b e1' e2;show#[#[u,w1,w2.mono (λ_ m=>.inl m) mk],λm=>?_,w4];rcases m with m | rfl
  .exact w3 m
  .exact ne (L.inj l k e d b e1' h2 e2 g1)
 .exact L.inj l m e f b (hos e1).2 (hos e2).2 f1 f2
 .rcases m with m | rfl
  .exact .inl m
  .exact .inr (.inr #[k,d,h2,g1])]
def PF(i:Nat):aV:=λs Q=>∃ k xs,s.sl[i]?=some (.own k)/\s.os[k]?=some (some (.lst xs))/\Q (.int xs.length) s
theorem uG{i:Nat}{e:Ch}(h:PE X e (FE (λxs H Q=>∃ p ys,xs=[.ref p]/\(eM X.K H p ys\/ir X.K H p ys)/\Q (.int ys.length) H) (nX (bG i) xB))):DE X c e (PF i):=#[h.imp λσ H Q z8q=>by
 let(M,s,as,R,L,(k,xs,h1,h2,q),kk):=z8q;let(a,o,g1,g2,g3,g4):=L.slot h1 h2;cases o with
 | lst us =>
  have g4:ay X.K H M xs us:=g4;show#[_,g2,a,us,U,.inl (.of g3),?_];rw[g4.length];exact kk _ s q M H _ L .refl U
 | _=>exact g4.elim]
def QH(i:Nat)(ti:aV):aV:=λs Q=>∃ k,s.sl[i]?=some (.own k)/\ti s λdi s1=>∃ xs z d,s1.os[k]?=some (some (.lst xs))/\di=.int z/\jd xs z=some d/\Q d s1
theorem NM{i:Nat}{e:Ch}{ti:aV}(h:PE X e (jF (Gk X.K) (bG i) (tE X.K c ti))):DE X c e (QH i ti):=#[h.imp λσ H Q z9q=>by
 let(M,s,as,R,L,(k,h1,q),kk):=z9q;let(a,g1,g2):=L.own i k h1;show#[_,g2,M,s,as,_,L,q,λdi s1 z0q M1 H1 v L1 E1 rv=>?_];let(xs,z,d,e1,e2,e3,q1):=z0q;subst e2;have rv:v=.int z:=rv;subst rv;let((o,f1,f2),nm,ng,h0):=L1.obj k _ a e1 g1;cases o with
 | lst us =>
  have f2:ay X.K H1 M1 xs us:=f2;let(w,w1,w2):=f2.at e3;exact#[a,us,z,w,U,U,.of f1,w1,kk _ s1 q1 M1 H1 w L1 E1 w2]
 | _=>exact f2.elim]
def Dh:D->Option Key
 | .int i=>some (.inl i)
 | .str x=>some (.inr x)
 | _=>none
def tY:!D->Option (!Key)
 | []=>some []
 | d::r=>match Dh d,tY r with
  | some k,some ks=>some (k::ks)
  | _,_=>none
theorem qM{K:Frag}{H:Hp}{M:AT->Prop}{d:D}{k:Key}{v:V}(h:Dh d=some k)(r:Rep K H M d v):v=kV k:=by
 cases d<;>first | (cases h;exact r) | cases h
theorem mU{K:Frag}{H:Hp}{M:AT->Prop}:∀ {ds:!D} {ks:!Key} {vs:!V},tY ds=some ks->ay K H M ds vs->vs=ks.map kV
 | [],ks,vs,h,r=>by
  cases h;exact r
 | d::ds,ks,vs,h,r=>by
  let(x,xr,rfl,r1,r2):=r;unfold tY at h;cases e1:Dh d with
  | none=>rw[e1] at h;cases h
  | some k =>
   cases e2:tY ds with
   | none=>rw[e1,e2] at h;cases h
   | some l =>
    rw[e1,e2] at h;cases h;rw[qM e1 r1,mU e2 r2,VE]
section
variable{κ:Type}[DecidableEq κ]
def cp:!κ->!D->κ->Option D
 | k::ks,d::ds,q=>if k=q then some d else cp ks ds q
 | _,_,_=>none
def mG(ks:!κ)(q:κ):Bool:=ks.any λk=>decide (k=q)
def i9:!κ->!D->κ->D->!D
 | k::ks,d::ds,q,x=>(if k=q then x else d)::i9 ks ds q x
 | _,_,_,_=>[]
def d7(ks:!κ)(q:κ):!κ:=if mG ks q=true then ks else ks++[q]
def fc(ks:!κ)(vs:!D)(q:κ)(x:D):!D:=if mG ks q=true then i9 ks vs q x else vs++[x]
variable{K:Frag}{H:Hp}{M:AT->Prop}
theorem va{q:κ}:∀ {kvs:!(κ×V)} {ks:!κ} {vs:!D},kvs.map (·.1)=ks->ay K H M vs (kvs.map (·.2))->(iw kvs q=none/\cp ks vs q=none)\/∃ v d,iw kvs q=some v/\cp ks vs q=some d/\Rep K H M d v
 | [],ks,vs,h,r=>by
  subst h;exact .inl #[U,by cases vs<;>rfl]
 | p::kvs,ks,vs,h,r=>by
  subst h;cases vs with
  | nil=>exact absurd (show (p::kvs).map (·.2)=[] from r) (by simp)
  | cons d ds =>
   let(x,xr,e,r1,r2):=r;rw[VE] at e;cases e;by_cases z:p.1=q
   .refine .inr #[p.2,d,gh z,?_,r1];change (if p.1=q then some d else _)=_;rw[if_pos z]
   .rw[dG z];have e2:cp (((p::kvs).map (·.1))) (d::ds) q=cp (kvs.map (·.1)) ds q:=by
     change (if p.1=q then some d else _)=_;rw[if_neg z]
    rw[e2];exact va U r2
theorem has_any{q:κ}:∀ {kvs:!(κ×V)},(kvs.any λkv=>decide (kv.1=q))=mG (kvs.map (·.1)) q
 | []=>rfl
 | p::kvs=>by
  unfold mG;rw[WM,VE,WM,has_any (kvs:=kvs)]
  rfl
theorem EN{q:κ}{x:D}{y:V}(ry:Rep K H M x y){kvs:!(κ×V)}{vs:!D}(r:ay K H M vs (kvs.map (·.2))):(putK kvs q y).map (·.1)=d7 (kvs.map (·.1)) q/\ay K H M (fc (kvs.map (·.1)) vs q x) ((putK kvs q y).map (·.2)):=by
 unfold putK d7 fc;rw[has_any];by_cases h:mG (kvs.map (·.1)) q=true
 .rw[if_pos h,if_pos h,if_pos h];clear h;show#[?_,?_]
  .rw[V2];show WQ λp _=>?_;change (if p.1=q then (p.1,y) else p).1=p.1;split<;>rfl
  .induction kvs generalizing vs with
   | nil =>
    cases vs with
    | nil=>rfl
    | cons d ds =>
     let(_,_,e,_):=r;cases e
   | cons p kvs ih =>
    cases vs with
    | nil=>exact absurd (show (p::kvs).map (·.2)=[] from r) (by simp)
    | cons d ds =>
     let(v,vr,e,r1,r2):=r;rw[VE] at e;cases e;show#[_,_,U,?_,ih r2];change Rep K H M (if p.1=q then x else d) (if p.1=q then (p.1,y) else p).2;by_cases z:p.1=q
     .rw[if_pos z,if_pos z];exact ry
     .rw[if_neg z,if_neg z];exact r1
 .rw[if_neg h,if_neg h,if_neg h];rw[VA,VA];exact#[U,r.append (.one ry)]
end
def um(d dy:D)(k:Option D->Prop):Prop:=(∃ ks vs q,d=.vv ks vs/\Dh dy=some q/\k (cp ks vs q))\/∃ ks vs ts q,d=.j9 ks vs/\dy=.tup ts/\tY ts=some q/\k (cp ks vs q)
def Np(d dy x:D)(k:D->Prop):Prop:=(∃ ks vs q,d=.vv ks vs/\Dh dy=some q/\ks.length < Ev/\k (.vv (d7 ks q) (fc ks vs q x)))\/∃ ks vs ts q,d=.j9 ks vs/\dy=.tup ts/\tY ts=some q/\ks.length < Ev/\k (.j9 (d7 ks q) (fc ks vs q x))
theorem oP{H:Hp}{M:AT->Prop}{d dy:D}{k:Option D->Prop}{a:AT}{o:HO}{y:V}(h:um d dy k)(ha:H a=some o)(ro:cz X.K H M d o)(ry:Rep X.K H M dy y):∃ ov od,ie H a y ov/\k od/\((ov=none/\od=none)\/∃ v e,ov=some v/\od=some e/\Rep X.K H M e v):=by
 rcases h with ⟨ks,vs,q,rfl,hq,hk⟩ | ⟨ks,vs,ts,q,rfl,rfl,hq,hk⟩
 .cases o with
  | dK kvs =>
   let(e,r):=(show kvs.map (·.1)=ks/\ay X.K H M vs (kvs.map (·.2)) from ro);have ey:=qM hq ry;subst ey;show#[_,_,ie.k ha,hk,?_];rcases va (q:=q) e r with ⟨h1,h2⟩ | ⟨v,x,h1,h2,h3⟩
   .exact .inl #[h1,h2]
   .exact .inr #[v,x,h1,h2,h3]
  | _=>exact ro.elim
 .cases o with
  | dT kvs =>
   let(e,r):=(show kvs.map (·.1)=ks/\ay X.K H M vs (kvs.map (·.2)) from ro);let(b,xs,rfl,(m,hb),rx):=ry;have ex:=mU hq rx;subst ex;show#[_,_,ie.t ha hb,hk,?_];rcases va (q:=q) e r with ⟨h1,h2⟩ | ⟨v,x,h1,h2,h3⟩
   .exact .inl #[h1,h2]
   .exact .inr #[v,x,h1,h2,h3]
  | _=>exact ro.elim
theorem Gs{H:Hp}{M:AT->Prop}{d dy x:D}{k:D->Prop}{a:AT}{o:HO}{y z:V}(h:Np d dy x k)(ha:H a=some o)(ro:cz X.K H M d o)(ry:Rep X.K H M dy y)(rz:Rep X.K H M x z):∃ d2 o2,mH H a y z (upd H a o2)/\k d2/\cz X.K H M d2 o2:=by
 rcases h with ⟨ks,vs,q,rfl,hq,hl,hk⟩ | ⟨ks,vs,ts,q,rfl,rfl,hq,hl,hk⟩
 .cases o with
  | dK kvs =>
   let(e,r):=(show kvs.map (·.1)=ks/\ay X.K H M vs (kvs.map (·.2)) from ro);subst e;have ey:=qM hq ry;subst ey;exact#[_,_,mH.k ha (by simpa using hl),hk,(show cz X.K H M (.vv _ _) (.dK _) from EN rz r)]
  | _=>exact ro.elim
 .cases o with
  | dT kvs =>
   let(e,r):=(show kvs.map (·.1)=ks/\ay X.K H M vs (kvs.map (·.2)) from ro);subst e;let(b,xs,rfl,(m,hb),rx):=ry;have ex:=mU hq rx;subst ex;exact#[_,_,mH.t ha hb (by simpa using hl),hk,(show cz X.K H M (.j9 _ _) (.dT _) from EN rz r)]
  | _=>exact ro.elim
theorem C1{H:Hp}{M:AT->Prop}{d:D}{o:HO}{a:AT}(hd:rC d=true)(ha:H a=some o)(ro:cz X.K H M d o):Q3 H a:=by
 cases d<;>first | (cases hd;done) | (cases o<;>first | exact .inl #[_,.inl ha] | exact .inr #[_,.inl ha] | exact ro.elim)
def JF(i:Nat)(ty tv:aV):kI:=λR s=>tv s λd s1=>∃ k,s1.sl[i]?=some (.own k)/\ty s1 λdy s2=>∃ d1,s2.os[k]?=some (some d1)/\Np d1 dy d λd2=>R.nx (s2.put k d2)
theorem oD{i:Nat}{st:Fa}{ty tv:aV}(h:PS X st (vX (bG i) (tE X.K c ty) (tE X.K c tv))):vz X c st (JF i ty tv):=#[h.imp λE σ H zz=>dq zz λM s as R L q kk =>
 #[M,s,as,_,L,q,λd s1 z3r M1 H1 v L1 E1 rv=>by
  let(k,h1,q1):=z3r;let(a,g1,g2):=L1.own i k h1;show#[.ref a,g2,M1,s1,as,_,L1,q1,λdy s2 #[d1,h2,q2] M2 H2 w Lb E2 rw=>?_];let((o,f1,f2),nm,ng,h0):=Lb.obj k _ a h2 g1;let(d2,o2,p1,p2,p3):=Gs q2 f1 f2 rw (E2.rep L1 rv);exact#[a,_,U,p1,kk.nx _ as M2 σ _ p2 (Lb.uJ h2 g1 p3) ((E1.grow L).trans ((E2.grow L1).trans ((Ext.uJ (c:=c) (M:=M2) (d:=d2) h2 g1).grow Lb)))]]]
def Jc(i:Nat)(ty tx:aV):aV:=λs Q=>∃ k d0,s.sl[i]?=some (.own k)/\s.os[k]?=some (some d0)/\rC d0=true/\ty s λdy s1=>tx s1 λdz s2=>∃ d1,s2.os[k]?=some (some d1)/\um d1 dy λod=>Q (od.getD dz) s2
theorem Hg{i:Nat}{e:Ch}{ty tx:aV}(h:PE X e (xi (bG i) (tE X.K c ty) (tE X.K c tx))):DE X c e (Jc i ty tx):=#[h.imp λσ H Q z4r=>by
 let(M,s,as,R,L,(k,d0,h1,h2,h3,q),kk):=z4r;let(a,o,g1,g2,g3,g4):=L.slot h1 h2;show#[.ref a,g2,a,U,C1 h3 g3 g4,M,s,as,_,L,q,λdy s1 q1 M1 H1 y L1 E1 ry=>#[M1,s1,as,_,L1,q1,λdz s2 #[d1,e1,q2] M2 H2 z Lb E2 rz=>?_]];let((o1,f1,f2),nm,ng,h0):=Lb.obj k _ a e1 g1;let(ov,od,w1,w2,w3):=oP q2 f1 f2 (E2.rep L1 ry);show#[ov,w1,?_];rcases w3 with ⟨rfl,rfl⟩ | ⟨v,x,rfl,rfl,rx⟩
 .exact kk _ s2 w2 M2 H2 z Lb (E1.trans L1.base E2) rz
 .exact kk _ s2 w2 M2 H2 v Lb (E1.trans L1.base E2) rx]
theorem Rep.dc{K:Frag}{H:Hp}{M:AT->Prop}{d:D}{v:V}(h:rC d=true)(r:Rep K H M d v):∃ a o,v=.ref a/\H a=some o/\cz K H M d o:=by
 cases d<;>first | (cases h;done) | (let(a,kvs,e,(m,ha),h1,h2):=r;exact#[a,_,e,ha,h1,h2])
def IC(td ty:aV):aV:=λs Q=>td s λd s1=>ty s1 λdy s2=>rC d=true/\um d dy λod=>∃ x,od=some x/\Q x s2
theorem ic{e:Ch}{td ty:aV}(h:PE X e (lj (tE X.K c td) (tE X.K c ty))):DE X c e (IC td ty):=#[h.imp λσ H Q zz=>dq zz λM s as R L q kk =>
 #[M,s,as,_,L,q,λd s1 q1 M1 H1 v L1 E1 rv=>#[M1,s1,as,_,L1,q1,λdy s2 z5r M2 H2 y Lb E2 ry=>by
  let(hd,q2):=z5r;let(a,o,rfl,f1,f2):=(E2.rep L1 rv).dc hd;let(ov,od,w1,(x,e2,w2),w3):=oP q2 f1 f2 ry;subst e2;rcases w3 with ⟨rfl,z⟩ | ⟨v,x,rfl,z,rx⟩
  .cases z
  .cases z;exact#[a,v,U,w1,kk _ s2 w2 M2 H2 v Lb (E1.trans L1.base E2) rx]]]]
def Jo(td ty tx:aV):aV:=λs Q=>td s λd s1=>rC d=true/\ty s1 λdy s2=>tx s2 λdz s3=>um d dy λod=>Q (od.getD dz) s3
theorem Ld{e:Ch}{td ty tx:aV}(h:PE X e (xi (tE X.K c td) (tE X.K c ty) (tE X.K c tx))):DE X c e (Jo td ty tx):=#[h.imp λσ H Q zz=>dq zz λM s as R L q kk =>
 #[M,s,as,_,L,q,λd s1 z6r M1 H1 v L1 E1 rv=>by
  let(hd,q1):=z6r;let(a,o,rfl,f1,f2):=rv.dc hd;show#[a,U,C1 hd f1 f2,M1,s1,as,_,L1,q1,λdy s2 q2 M2 H2 y Lb E2 ry=>#[M2,s2,as,_,Lb,q2,λdz s3 q3 M3 H3 z Lc E3 rz=>?_]];let(a',o',e',f1',f2'):=((E2.trans Lb.base E3).rep L1 rv).dc hd;cases e';let(ov,od,w1,w2,w3):=oP q3 f1' f2' (E3.rep Lb ry);show#[ov,w1,?_];have Ea:=(E1.trans L1.base E2).trans Lb.base E3;rcases w3 with ⟨rfl,rfl⟩ | ⟨v,x,rfl,rfl,rx⟩
  .exact kk _ s3 w2 M3 H3 z Lc Ea rz
  .exact kk _ s3 w2 M3 H3 v Lc Ea rx]]
def IT(neg:Bool)(ty td:aV):aV:=λs Q=>ty s λdy s1=>td s1 λd s2=>rC d=true/\um d dy λod=>Q (.bl (if neg then (not od.isSome) else od.isSome)) s2
def Ju:aV:=λs Q=>Q (.j9 [] []) s
theorem vf{pos:Pos}:DN X c (.Dict [] [] pos) Ju:=#[EV.imp λσ H Q zz=>dq zz λM s as R L q k=>λp hp=>gU (d:=.j9 [] []) L L .refl hp (show cz X.K H M (.j9 [] []) (.dT []) from #[U,U]) (k _ s q)]
end
end DL
namespace LB
open PySem Sem
open PySem.AutoSeq1 (wpAny_loadPart')
section
variable{prog:Fk}{w:FB}{A:Fr}{E:Yb}{s:Cl}
theorem lC{it t:AT}{i:Nat}{items:Array AC}{x:AC}{Q:Yb}(hit:s.heap.IsTupleIter it t i)(ht:s.heap.IsTuple t items)(hx:items[i]?=some x)(hQ:∀ h',h'.IsTupleIter it t (i+1)->Db.SameBut it s.heap h'->Q x { s with heap:=h' }) :
  Da (model prog w) A (FM.SmallTypes.nextOf (.ref it)) Q E s:=by
 let(o,ho,hc,hd):=id hit;let(ol,hol,_,nl,hdl):=ht;unfold FM.SmallTypes.nextOf;show BT (wpAny_callSpecial?_slot (name:=Str.ofString "__next__") hit.typeIs F.slot_tuple_iterator_next
  (Ps F.slot_tuple_iterator_next hit.typeIs F.entry_tuple_iterator_next ?_ (F.args_tuple_iterator_next_1 _)))
 change Da _ _ (field (.ref it) 0 >>= _) _ _ s;show BT (KF ho hd (x:=.ref t) U ?_);change Da _ _ (if (AC.ref t == AC.none)=true then _ else _) _ _ s;rw[if_neg (show ¬ ((AC.ref t == AC.none)=true) from VN)];change Da _ _ (field (.ref it) 1 >>= _) _ _ s;show BT (KF ho hd (x:=.int i 0) U ?_);change Da _ _ (seqItems? (.ref t) >>= _) _ _ s;show BT (PP hol hdl ?_);simp only[Int.toNat_natCast,hx];show BT (wpAny_setField ho hd (by simp) (EQ #[x,U,EQ (hQ _ ?_ (Db.SameBut.update ..))]));exact#[_,Wt _ ho (Obj.isFreed_of_fields (Obj.data_mapFields hd _)),(Obj.cls_mapFields ..).trans hc,by
  rw[Obj.data_mapFields hd];simp[IR]]
theorem eU{it t:AT}{i:Nat}{items:Array AC}{Q:Yb}(hh:A.handled=none)(hit:s.heap.IsTupleIter it t i)(ht:s.heap.IsTuple t items)(hx:items[i]?=none)(hE:∀ h' e,Db.ExtBut it s.heap h'->(∃ o,h'.get? e=some o/\o.cls=.type "StopIteration")->E (.ref e) { s with heap:=h' }) :
  Da (model prog w) A (FM.SmallTypes.nextOf (.ref it)) Q E s:=by
 let(o,ho,hc,hd):=id hit;let(ol,hol,_,nl,hdl):=ht;unfold FM.SmallTypes.nextOf;show BT (wpAny_callSpecial?_slot (name:=Str.ofString "__next__") hit.typeIs F.slot_tuple_iterator_next
  (Ps F.slot_tuple_iterator_next hit.typeIs F.entry_tuple_iterator_next ?_ (F.args_tuple_iterator_next_1 _)))
 change Da _ _ (field (.ref it) 0 >>= _) _ _ s;show BT (KF ho hd (x:=.ref t) U ?_);change Da _ _ (if (AC.ref t == AC.none)=true then _ else _) _ _ s;rw[if_neg (show ¬ ((AC.ref t == AC.none)=true) from VN)];change Da _ _ (field (.ref it) 1 >>= _) _ _ s;show BT (KF ho hd (x:=.int i 0) U ?_);change Da _ _ (seqItems? (.ref t) >>= _) _ _ s;show BT (PP hol hdl ?_);simp only[Int.toNat_natCast,hx];show BT (wpAny_rule (BT (wpAny_setField ho hd (by simp) ?_)));change Da _ _ (newExc (.type "StopIteration") [] >>= _) _ _ _;show BT ?_;simp only[newExc,newTuple];show BT (Re ?_ (by size_fits));show BT (m:=firstArgMember _ _) (wpAny_of_eq (a:=AC.none) (by first | rfl | (simp only[firstArgMember];rfl)) ?_);show Re ?_ (by size_fits);simp only[raiseNew];show BT (wpAny_handled ?_)
 first | rw[show A.in1.handled=none from hh] | rw[hh]
 show BT (EQ (wpAny_throw ?_));exact hE _ _ (((WR ..).extBut.push _).push _) #[_,VP _ U,U]
theorem C2(hh:A.handled=none)(it l:AT)(wN:l≠it)(items:Array AC) :
  Draws prog w A it [it,l] items.size (λi v=>items[i]?=some v) (λi h=>h.IsTupleIter it l i/\h.IsTuple l items) where
 live:=λ_ _ st=>let #[o,ho,_]:=st.1;#[o,ho]
 frame:=λ_ _ _ st hk=>#[st.1.at λo e=>hk it (by simp) o e,let #[o,e,r]:=st.2;#[o,hk l (by simp) o e,r]]
 item:=λi s Q E hi st hQ=>by
  show lC st.1 st.2 (x:=items[i]) (by simp[hi]) λh' hit' Ia=>?_;exact hQ _ h' s.toks (by simp[hi]) #[hit',let #[o,e,r]:=st.2;#[o,Ia.extBut l o wN e,r]] Ia
 done:=λs Q E st hE=>eU hh st.1 st.2 (by simp) hE
end
end LB
namespace L2
open PySem PySem.Spec
open PyProof.Rows hiding St
def yz(K:Frag)(tup:Bool)(H:Hp)(a:AT)(xs:!V):Prop:=if tup=true then ir K H a xs else eM K H a xs
section
variable{P:Fk}{w:FB}{K:Frag}
theorem Aa{X:Cx}{TD:Yc}{σ:St}{H:Hp}{s:Cl}{a:AT}{tup:Bool}{xs ys:!V}(I:Inv X TD σ H s)(h:yz X.K tup H a xs)(h':yz X.K tup H a ys):ys=xs:=by
 cases tup with
 | true=>exact I.mZ (show ir X.K H a ys from h') h
 | false=>exact I.vF (show eM X.K H a ys from h') h
theorem Inv.uS{X:Cx}{TD:Yc}{σ:St}{H:Hp}{s:Cl}{h':Db}{t':Nat}{fp:!AT}{a:AT}{o:HO}(I:Inv X TD σ H s)(k:∀ b u,b∉fp->s.heap.get? b=some u->h'.get? b=some u)(hf:∀ b∈fp,fX X TD H b)(hp:↑s<=a)(new:b6 X.prog X.w (upd H a o) h' a o):Inv X TD σ (upd H a o) { s with heap:=h',toks:=t' }:=by
 have hn:H a=none:=I.aZ.fresh hp;have nit:∀ b u,H b=some u->b∉fp:=λb u e z=>by rw[(hf b z).1] at e;cases e
 have up:∀ b u,H b=some u->upd H a o b=some u:=λb u e=>by rw[aw (aF e hn)];exact e
 show I.step (g':=s.gens) (d':=s.drawn) (ch:=fp) (λb hb=>?_) (λb ob _ _ hc e _=>k b ob hc e) (λb ob _ _ hc e _=>#[ob.slots,k b ob hc e]) (λb ob _ e n=>?_)
  (λb ob hc e=>#[ob,k b ob hc e]) (λb xs e=>up b _ e) (λb ob u e=>up b _ e) (λb ps e=>#[#v[],by rw[up b _ e];simp]) (λm hm=>?_) (λb u e=>?_) I.bare
 .let(f0,f1,f2,f3,f4,f5):=hf b hb;exact#[f3,f1,f4,f5]
 .rw[aw (VW (VZ (VL e) hp))];exact n
 .let(ob,es,ep,ho,r):=hm;exact#[ob,es,ep,k _ ob (λz=>(hf _ z).2.1 U) ho,r]
 .by_cases hb:b=a
  .subst hb;rw[aA] at e;cases e;exact new
  .rw[aw hb] at e;show (I.aZ b u e).wC (λq v hq w=>k q v ?_ w) (λq w=>up q _ w) λq _ w=>up q _ w;rcases hq with z | z
   .rw[z];exact nit b u e
   .exact nit q _ z
theorem Inv.oS{X:Cx}{TD:Yc}{σ:St}{H:Hp}{s:Cl}{h':Db}{t':Nat}{fp:!AT}(I:Inv X TD σ H s)(k:∀ b u,b∉fp->s.heap.get? b=some u->h'.get? b=some u)(hf:∀ b∈fp,fX X TD H b) :
  Inv X TD σ H { s with heap:=h',toks:=t' }:=by
 have nit:∀ b u,H b=some u->b∉fp:=λb u e z=>by rw[(hf b z).1] at e;cases e
 show I.step (g':=s.gens) (d':=s.drawn) (ch:=fp) (λb hb=>?_) (λb ob _ _ hc e _=>k b ob hc e) (λb ob _ _ hc e _=>#[ob.slots,k b ob hc e]) (λb ob _ e n=>n)
  (λb ob hc e=>#[ob,k b ob hc e]) (λb xs e=>e) (λb ob u e=>e) (λb ps e=>#[#v[],by rw[e];simp]) (λm hm=>?_) (λb u e=>?_) I.bare
 .let(f0,f1,f2,f3,f4,f5):=hf b hb;exact#[f3,f1,f4,f5]
 .let(ob,es,ep,ho,r):=hm;exact#[ob,es,ep,k _ ob (λz=>(hf _ z).2.1 U) ho,r]
 .refine (I.aZ b u e).wC (λq v hq w=>k q v ?_ w) (λq w=>w) λq _ w=>w;rcases hq with z | z
  .rw[z];exact nit b u e
  .exact nit q _ z
def iG(tup:Bool)(h:Db)(it a:AT)(i:Nat):Prop:=if tup=true then h.IsTupleIter it a i else h.IsListIter it a i
theorem iG.at{tup:Bool}{h h':Db}{it a:AT}{i:Nat}(x:iG tup h it a i)(k:∀ o,h.get? it=some o->h'.get? it=some o):iG tup h' it a i:=by
 cases tup with
 | true=>exact Db.IsTupleIter.at (show h.IsTupleIter it a i from x) k
 | false=>exact Db.IsListIter.at (show h.IsListIter it a i from x) k
theorem iG.obj{tup:Bool}{h:Db}{it a:AT}{i:Nat}(x:iG tup h it a i):∃ o,h.get? it=some o/\∀ v,o.data≠.cell v:=by
 cases tup with
 | true =>
  let(o,e,c,d):=(show h.IsTupleIter it a i from x);exact#[o,e,λv z=>by rw[d] at z;cases z]
 | false =>
  let(o,e,c,d):=(show h.IsListIter it a i from x);exact#[o,e,λv z=>by rw[d] at z;cases z]
section
variable{X:Cx}
end
end
end L2
namespace DL
open PySem PySem.Spec L2
open PyProof.Rows hiding St
section
variable{X:Cx}{c:Ent}
end
mutual
noncomputable def toP:D->FS
 | .cA=>.none
 | .bl b=>.bool b
 | .int i=>.int i
 | .str x=>.str x
 | .tup ds=>.tuple (toPs ds)
 | .lst ds=>.list (toPs ds)
 | .fO _=>.none
 | .ty _=>.none
 | .vv _ _=>.none
 | .j9 _ _=>.none
 | .yR _ _=>.none
noncomputable def toPs:!D->!FS
 | []=>[]
 | d::ds=>toP d::toPs ds
end
mutual
noncomputable def iq:D->Bool
 | .cA=>true
 | .bl _=>true
 | .int _=>true
 | .str x=>FS.strOk x
 | .tup ds=>eK ds
 | .lst ds=>eK ds
 | .fO _=>false
 | .ty _=>false
 | .vv _ _=>false
 | .j9 _ _=>false
 | .yR _ _=>false
noncomputable def eK:!D->Bool
 | []=>true
 | d::ds=>iq d&&eK ds
end
mutual
theorem qp:∀ d:D,iq d=true->(toP d).canLay0=true
 | .cA,_=>rfl
 | .bl _,_=>rfl
 | .int _,_=>rfl
 | .str x,h=>by
  change FS.canLay0 (.str x)=true;simpa [FS.canLay0,iq] using h
 | .tup ds,h=>by
  change FS.canLay0 (.tuple (toPs ds))=true;simpa [FS.canLay0] using vb ds h
 | .lst ds,h=>by
  change FS.canLay0 (.list (toPs ds))=true;simpa [FS.canLay0] using vb ds h
 | .fO _,h=>by cases h
 | .ty _,h=>by cases h
 | .vv _ _,h=>by cases h
 | .j9 _ _,h=>by cases h
 | .yR _ _,h=>by cases h
theorem vb:∀ ds:!D,eK ds=true->FS.canLayAll0 (toPs ds)=true
 | [],_=>rfl
 | d::ds,h=>by
  have h:(iq d&&eK ds)=true:=h;rw[V1] at h;change FS.canLayAll0 (toP d::toPs ds)=true;simp[FS.canLayAll0,qp d h.1,vb ds h.2]
end
section
variable{X:Cx}{TD:Yc}{σ:St}{H:Hp}{s:Cl}{M:AT->Prop}
mutual
theorem js(I:Inv X TD σ H s):∀ (d:D) (v:V) (u:AC),iq d=true->Rep X.K H M d v->RelV v u->∃ as,Reads s.heap u (toP d) as
 | .cA,v,u,_,r,q=>by
  have r:v=.cA:=r;subst r;cases (show u=AC.none from q);exact#[_,.none]
 | .bl b,v,u,_,r,q=>by
  have r:v=.bl b:=r;subst r;cases (show u=AC.bool b from q);exact#[_,.bool b]
 | .int i,v,u,_,r,q=>by
  have r:v=.int i:=r;subst r;let(t,rfl):=(show ∃ t,u=AC.int i t from q);exact#[_,.int i t]
 | .str x,v,u,_,r,q=>by
  have r:v=.str x:=r;subst r;let(t,rfl):=(show ∃ t,u=AC.str x t from q);exact#[_,.str x t]
 | .tup ds,v,u,h,r,q=>by
  let(a,xs,rfl,(m,ha),r):=r;cases (show u=AC.ref a from q);let(_,its,rv,o,e,hc,n,hd):=I.aZ a _ ha;let(as,hr):=mX I ds xs its h r rv;exact#[_,.tuple e hc hd (by simpa using hr)]
 | .lst ds,v,u,h,r,q=>by
  let(a,xs,rfl,(m,ha),r):=r;cases (show u=AC.ref a from q);let(_,its,n,rv,e):=I.aZ a _ ha;let(as,hr):=mX I ds xs its h r rv;exact#[_,.list e U U (by simpa using hr)]
 | .fO _,v,u,h,r,q=>by cases h
 | .ty _,v,u,h,r,q=>by cases h
 | .vv _ _,v,u,h,r,q=>by cases h
 | .j9 _ _,v,u,h,r,q=>by cases h
 | .yR _ _,v,u,h,r,q=>by cases h
theorem mX(I:Inv X TD σ H s):∀ (ds:!D) (vs:!V) (us:!AC),eK ds=true->ay X.K H M ds vs->Vals vs us->∃ as,ReadsAll s.heap us (toPs ds) as
 | [],vs,us,_,r,q=>by
  have r:vs=[]:=r;subst r;cases q;exact#[_,.nil]
 | d::ds,vs,us,h,r,q=>by
  have h:(iq d&&eK ds)=true:=h;rw[V1] at h;let(x,xr,rfl,r1,r2):=r;cases q with
  | cons q1 q2 =>
   let(as,h1):=js I d x _ h.1 r1 q1;let(bs,h2):=mX I ds xr _ h.2 r2 q2;exact#[_,.cons h1 h2]
end
end
def FC(a b:D):Bool:=FS.eqv (toP a) (toP b)
def fH(d:D):Nat:=(toP d).depth
section
variable{X:Cx}{c:Ent}
def Fb(K:Frag)(neg:Bool):R2:=λx y H Q=>∃ M dx dy,Rep K H M dx x/\Rep K H M dy y/\iq dx=true/\iq dy=true/\(fH dx<=150\/fH dy<=150)/\Q (.bl (if neg then (not (FC dx dy)) else FC dx dy)) H
theorem rW{m n u:Nat}(h:m<=150\/n<=150)(hu:u+150 < cLine):u+min m n < cLine:=by
 have:min m n<=150:=by cbv
 cbv
theorem qu(hu:X.A.units+150 < cLine):ja X (KB .Eq) (Fb X.K false):=by
 intro TD s σ H x y v u Q I rx ry h;let(M,dx,dy,r1,r2,o1,o2,hd,q):=h;let(as,h1):=js I dx x v o1 r1 rx;let(bs,h2):=js I dy y u o2 r2 ry;exact SeqAt.compareEq_reads h1 h2 (qp dx o1) (qp dy o2) (rW hd hu) #[.bl _,H,I,U,q]
theorem yg(hu:X.A.units+150 < cLine):ja X (KB .NotEq) (Fb X.K true):=by
 intro TD s σ H x y v u Q I rx ry h;let(M,dx,dy,r1,r2,o1,o2,hd,q):=h;let(as,h1):=js I dx x v o1 r1 rx;let(bs,h2):=js I dy y u o2 r2 ry;exact SeqAt.compareNe_reads h1 h2 (qp dx o1) (qp dy o2) (rW hd hu) #[.bl _,H,I,U,q]
def QT(neg:Bool):D->D->(D->Prop)->Prop:=λa b k=>(iq a=true/\iq b=true/\(fH a<=150\/fH b<=150))/\k (.bl (if neg then (not (FC a b)) else FC a b))
theorem sU{neg:Bool}:nF X c (Fb X.K neg) (QT neg):=λM s as σ H x y dx dy k Q L rx ry #[#[o1,o2,hd],hk] kk=>#[M,dx,dy,rx,ry,o1,o2,hd,kk _ hk M H _ L .refl U]
mutual
theorem eqv_refl:∀ d:D,FS.eqv (toP d) (toP d)=true
 | .cA=>rfl
 | .bl b=>by change FS.eqv (.bool b) (.bool b)=true;simp[FS.eqv]
 | .int i=>by change FS.eqv (.int i) (.int i)=true;simp[FS.eqv]
 | .str x=>by change FS.eqv (.str x) (.str x)=true;simp[FS.eqv]
 | .tup ds=>by change FS.eqv (.tuple (toPs ds)) (.tuple (toPs ds))=true;simpa [FS.eqv] using mS ds
 | .lst ds=>by change FS.eqv (.list (toPs ds)) (.list (toPs ds))=true;simpa [FS.eqv] using mS ds
 | .fO _=>rfl
 | .ty _=>rfl
 | .vv _ _=>rfl
 | .j9 _ _=>rfl
 | .yR _ _=>rfl
theorem mS:∀ ds:!D,FS.eqvAll (toPs ds) (toPs ds)=true
 | []=>rfl
 | d::ds=>by change FS.eqvAll (toP d::toPs ds) (toP d::toPs ds)=true;simp[FS.eqvAll,eqv_refl d,mS ds]
end
theorem o9(d:D):FC d d=true:=eqv_refl d
def AR:D->String->Option Bool
 | .int _,T=>if T="int" then some true else if T="bool"\/T="str"\/T="list"\/T="tuple" then some false else none
 | .bl _,T=>if T="int"\/T="bool" then some true else if T="str"\/T="list"\/T="tuple" then some false else none
 | .str _,T=>if T="str" then some true else if T="bool"\/T="int"\/T="list"\/T="tuple" then some false else none
 | .tup _,T=>if T="tuple" then some true else if T="bool"\/T="int"\/T="list"\/T="str" then some false else none
 | .lst _,T=>if T="list" then some true else if T="bool"\/T="int"\/T="tuple"\/T="str" then some false else none
 | _,_=>none
def Pl(K:Frag):!V->Hp->VK->Prop:=λxs H Q=>∃ M d v T b,xs=[v,.ty T]/\Rep K H M d v/\AR d T=some b/\Q (.bl b) H
theorem fw:cT X (.builtin "isinstance") (Pl X.K):=by
 intro TD s σ H xs us Q I r h;let(M,d,v,T,b,rfl,rd,hb,q):=h;let(u,t,rfl,ru,rt):=r.two;cases (show t=AC.type T from rt);have fin:∀ n,EP X TD σ Q (.bool b) { s with toks:=n }:=λn=>#[.bl b,H,I.tok n,U,q];have fin0:EP X TD σ Q (.bool b) s:=#[.bl b,H,I,U,q];cases d with
 | int i =>
  cases (show v=.int i from rd);let(t,rfl):=ru
  replace hb:(if T="int" then some true else if T="bool"\/T="str"\/T="list"\/T="tuple" then some false else none)=some b:=hb
  split at hb
  .rename_i e;subst e;cases hb;exact IsiPair.int_int fin0
  .split at hb
   .rename_i e
    cases hb;rcases e with rfl | rfl | rfl | rfl
    .exact IsiPair.int_bool (fin _)
    .exact IsiPair.int_str (fin _)
    .exact IsiPair.int_list (fin _)
    .exact IsiPair.int_tuple (fin _)
   .cases hb
 | bl i =>
  cases (show v=.bl i from rd);cases (show u=AC.bool i from ru)
  replace hb:(if T="int"\/T="bool" then some true else if T="str"\/T="list"\/T="tuple" then some false else none)=some b:=hb
  split at hb
  .rename_i e
   cases hb;rcases e with rfl | rfl
   .exact IsiPair.bool_int fin0
   .exact IsiPair.bool_bool fin0
  .split at hb
   .rename_i e
    cases hb;rcases e with rfl | rfl | rfl
    .exact IsiPair.bool_str (fin _)
    .exact IsiPair.bool_list (fin _)
    .exact IsiPair.bool_tuple (fin _)
   .cases hb
 | str i =>
  cases (show v=.str i from rd);let(t,rfl):=ru
  replace hb:(if T="str" then some true else if T="bool"\/T="int"\/T="list"\/T="tuple" then some false else none)=some b:=hb
  split at hb
  .rename_i e;subst e;cases hb;exact IsiPair.str_str fin0
  .split at hb
   .rename_i e
    cases hb;rcases e with rfl | rfl | rfl | rfl
    .exact IsiPair.str_bool (fin _)
    .exact IsiPair.str_int (fin _)
    .exact IsiPair.str_list (fin _)
    .exact IsiPair.str_tuple (fin _)
   .cases hb
 | tup ds =>
  let(a,xs,rfl,(m,ha),r):=rd;cases (show u=AC.ref a from ru);let(_,its,rv,o,e,hc,n,hd):=I.aZ a _ ha
  replace hb:(if T="tuple" then some true else if T="bool"\/T="int"\/T="list"\/T="str" then some false else none)=some b:=hb
  split at hb
  .rename_i e';subst e';cases hb;exact IsiPair.tuple_tuple e hc fin0
  .split at hb
   .rename_i e'
    cases hb;rcases e' with rfl | rfl | rfl | rfl
    .exact IsiPair.tuple_bool e hc (fin _)
    .exact IsiPair.tuple_int e hc (fin _)
    .exact IsiPair.tuple_list e hc (fin _)
    .exact IsiPair.tuple_str e hc (fin _)
   .cases hb
 | lst ds =>
  let(a,xs,rfl,(m,ha),r):=rd;cases (show u=AC.ref a from ru);let(_,its,n,rv,e):=I.aZ a _ ha
  replace hb:(if T="list" then some true else if T="bool"\/T="int"\/T="tuple"\/T="str" then some false else none)=some b:=hb
  split at hb
  .rename_i e';subst e';cases hb;exact IsiPair.list_list e rfl fin0
  .split at hb
   .rename_i e'
    cases hb;rcases e' with rfl | rfl | rfl | rfl
    .exact IsiPair.list_bool e U (fin _)
    .exact IsiPair.list_int e U (fin _)
    .exact IsiPair.list_tuple e U (fin _)
    .exact IsiPair.list_str e U (fin _)
   .cases hb
 | _=>simp[AR] at hb
def Rf:Yd:=λas k=>∃ d T b,as=[d,.ty T]/\AR d T=some b/\k (.bl b)
theorem ny:AM X c (Pl X.K) Rf:=λM s as σ H xs ds k Q L r z7r kk=>by
 let(d,T,b,e,hb,hk):=z7r;subst e;let(v,w,rfl,r1,r2):=v8 r;have r2:w=.ty T:=r2;subst r2;exact#[M,d,v,T,b,U,r1,hb,kk _ hk M H _ L .refl U]
end
end DL
namespace LB
open PySem
section
variable{prog:Fk}{w:FB}{A:Fr}{E:Yb}{s:Cl}{T:String}{r d:AT}{n:Nat}{P:Nat->AC->Prop}{OK:Db->Prop}
end
end LB
namespace L2
open PySem PySem.Spec
open PyProof.Rows hiding St
section
variable{X:Cx}
end
end L2
namespace DL
open PySem PySem.Spec L2
open PyProof.Rows hiding St
section
variable{X:Cx}{c:Ent}
def kD:Key->D
 | .inl i=>.int i
 | .inr x=>.str x
theorem sy{K:Frag}{H:Hp}{M:AT->Prop}:∀ ks:!Key,ay K H M (ks.map kD) (ks.map kV)
 | []=>rfl
 | k::ks=>#[kV k,ks.map kV,U,by cases k<;>rfl,sy ks]
end
end DL
namespace DL
open PySem PySem.Spec L2
inductive Fm where
 | nm (x:Str) | num (i:Int) | op (s:Str) | j3 | lt (x:Str) | mk (c:Str) | ask (f:Str) | k7 (r:Str) (hs:!(Str×!Str)) | new (k:Str) (hs:!(Str×!Str))
inductive Tm where
 | node (f:Fm) (ks:!Tm)
def Tm.kids:Tm->!Tm
 | .node _ ks=>ks
def Fm.ar:Fm->Nat->Bool
 | .nm _,n=>n == 0
 | .num _,n=>n == 0
 | .op _,n=>n == 2
 | .j3,n=>n == 3
 | .lt _,n=>n == 2
 | .mk _,_=>true
 | .ask _,n=>1<=n
 | .k7 _ hs,n=>n == hs.length+1&&hs.all λh=>h.2.length<=8
 | .new _ hs,n=>n == hs.length&&hs.all λh=>h.2.length<=8
mutual
noncomputable def Tm.wf:Tm->Bool
 | .node f ks=>f.ar ks.length&&mD ks
noncomputable def mD:!Tm->Bool
 | []=>true
 | t::r=>t.wf&&mD r
end
mutual
noncomputable def Tm.size:Tm->Nat
 | .node _ ks=>aU ks+1
noncomputable def aU:!Tm->Nat
 | []=>0
 | t::r=>t.size+aU r
end
mutual
noncomputable def Tm.dep:Tm->Nat
 | .node _ ks=>kJ ks+1
noncomputable def kJ:!Tm->Nat
 | []=>0
 | t::r=>max t.dep (kJ r)
end
def sD(ns:!Str):!D:=ns.map .str
def AE(h:Str×!Str)(k:D):D:=.tup [.str h.1,.tup (sD h.2),k]
def bA:!(Str×!Str)->!D->!D
 | h::hs,k::ks=>AE h k::bA hs ks
 | _,_=>[]
def P5:Fm->!D->D
 | .nm x,_=>.tup [.str "name",.str x]
 | .num i,_=>.tup [.str "num",.int i]
 | .op s,ks=>.tup (.str "op"::.str s::ks)
 | .j3,ks=>.tup (.str "zero"::ks)
 | .lt x,ks=>.tup (.str "let"::.str x::ks)
 | .mk c,ks=>.tup [.str "make",.str c,.tup ks]
 | .ask f,ks=>.tup [.str "ask",ks.headD .cA,.str f,.tup ks.tail]
 | .k7 r hs,ks=>.tup [.str "case",ks.headD .cA,.str r,.tup (bA hs ks.tail)]
 | .new k hs,ks=>.tup [.str "new",.str k,.tup (bA hs ks)]
mutual
noncomputable def toD:Tm->D
 | .node f ks=>P5 f (toDs ks)
noncomputable def toDs:!Tm->!D
 | []=>[]
 | t::r=>toD t::toDs r
end
theorem toDs_map:∀ ks:!Tm,toDs ks=ks.map toD
 | []=>rfl
 | t::r=>by rw[toDs,toDs_map r,VE]
theorem toDs_len(ks:!Tm):(toDs ks).length=ks.length:=by rw[toDs_map,Vv]
theorem iO:∀ {ks:!Tm},mD ks=true->∀ t∈ks,t.wf=true
 | [],_,t,h=>by cases h
 | k::ks,w,t,h=>by
  have w:(k.wf&&mD ks)=true:=w;rw[V1] at w;rcases VG.mp h with rfl | h
  .exact w.1
  .exact iO w.2 t h
theorem oQ:∀ {ks:!Tm},(∀ t∈ks,t.wf=true)->mD ks=true
 | [],_=>rfl
 | k::ks,h=>by
  change (k.wf&&mD ks)=true;rw[h k Vx,oQ λt ht=>h t (Vy _ ht)]
  rfl
theorem jT{f:Fm}{ks:!Tm}(h:(Tm.node f ks).wf=true):f.ar ks.length=true/\mD ks=true:=by
 have h:(f.ar ks.length&&mD ks)=true:=h;rw[V1] at h;exact h
def Fm.word:Fm->Str
 | .nm _=>"name"
 | .num _=>"num"
 | .op _=>"op"
 | .j3=>"zero"
 | .lt _=>"let"
 | .mk _=>"make"
 | .ask _=>"ask"
 | .k7 _ _=>"case"
 | .new _ _=>"new"
theorem fe{b:Bool}{A B:Prop}(h:b=false)(q:B):if b=true then A else B:=by
 subst h;exact vg q
theorem ky{b:Bool}{A B:Prop}(h:b=true)(q:A):if b=true then A else B:=by
 subst h;exact pI q
theorem gb:∀ {hs:!(Str×!Str)} {ks:!D},ks.length=hs.length->∀ r∈bA hs ks,∃ a b k,r=.tup [a,b,k]
 | [],ks,_,r,h=>by cases ks<;>cases h
 | h::hs,[],e,r,hr=>by cases hr
 | h::hs,k::ks,e,r,hr=>by
  rcases VG.mp hr with rfl | hr
  .exact#[_,_,_,U]
  .exact gb (by simpa using e) r hr
theorem hZ{nt:Nat}{us:!Nat}{g:pN}{te:aV}{f:D->D}{Q:!D->DS->Prop}{s:DS}:∀ {xs acc:!D},(∀ x∈xs,∀ k:D->DS->Prop,(∀ s':DS,s'.os=s.os->k (f x) s')->g x (gL nt us s) λs1=>te s1 k)->Q (acc++xs.map f) s->b4 nt us g cf te xs acc s Q
 | [],acc,h,q=>by
  rw[Wj,VJ] at q;exact q
 | x::xs,acc,h,q=>by
  change g x (gL nt us s) λs1=>cf s1 λb s2=>if b=true then te s2 λy s3=>b4 nt us g cf te xs (acc++[y]) #[s.sl,s3.os] Q else b4 nt us g cf te xs acc #[s.sl,s2.os] Q;have:=h x Vx (λy s3=>b4 nt us g cf te xs (acc++[y]) #[s.sl,s3.os] Q) λs' e=>by
   rw[e];show hZ (λy hy=>h y (Vy _ hy)) ?_;rw[VR];exact q
  simpa [cf] using this
def f6:D->D
 | .tup (_::_::k::_)=>k
 | d=>d
theorem gp:∀ {hs:!(Str×!Str)} {ks:!D},ks.length=hs.length->(bA hs ks).map f6=ks
 | [],[],_=>rfl
 | [],_::_,e=>by simp at e
 | _::_,[],e=>by simp at e
 | h::hs,k::ks,e=>by
  change f6 (AE h k)::(bA hs ks).map f6=k::ks;rw[gp (by simpa using e)]
  rfl
theorem len0{α:Type}{l:!α}(h:l.length=0):l=[]:=Wf h
theorem mP{α:Type}{l:!α}(h:1<=l.length):∃ a r,l=a::r:=by
 cases l with
 | nil=>simp at h
 | cons a r=>exact#[a,r,U]
theorem Bm{α:Type}{l:!α}(h:l.length=2):∃ a b,l=[a,b]:=by
 let(a,r,rfl):=mP (l:=l) (by cbv);let(b,r',rfl):=mP (l:=r) (by simp at h;cbv);have:r'=[]:=len0 (by simpa using h);subst this;exact#[a,b,U]
theorem Oa{α:Type}{l:!α}(h:l.length=3):∃ a b c,l=[a,b,c]:=by
 let(a,r,rfl):=mP (l:=l) (by cbv);let(b,c,rfl):=Bm (l:=r) (by simpa using h);exact#[a,b,c,U]
theorem eS:∀ (ks:!Tm),ks.length<=aU ks
 | []=>VB _
 | .node f k::r=>by
  have:=eS r;change r.length+1<=(aU k+1)+aU r;cbv
theorem wa{f:Fm}{ks:!Tm}:ks.length < (Tm.node f ks).size:=Nat.lt_succ_of_le (eS ks)
theorem aH:16000000<=Ev:=by decide
mutual
noncomputable def Tm.pre:Tm->!Tm
 | .node f ks=>.node f ks::eA ks
noncomputable def eA:!Tm->!Tm
 | []=>[]
 | t::r=>t.pre++eA r
end
theorem De(t:Tm):t.pre=t::eA t.kids:=by
 cases t
 rfl
theorem pO:∀ (a b:!Tm),eA (a++b)=eA a++eA b
 | [],b=>rfl
 | t::a,b=>by
  change t.pre++eA (a++b)=(t.pre++eA a)++eA b;rw[pO a b,VR]
theorem mI:∀ (a b:!Tm),aU (a++b)=aU a+aU b
 | [],b=>by simp[aU]
 | t::a,b=>by
  change t.size+aU (a++b)=(t.size+aU a)+aU b;rw[mI a b];cbv
theorem size_eq(t:Tm):t.size=aU t.kids+1:=by
 cases t
 rfl
mutual
theorem iC:∀ t:Tm,t.pre.length=t.size
 | .node f ks=>by
  change (eA ks).length+1=aU ks+1;rw[lK ks]
theorem lK:∀ ks:!Tm,(eA ks).length=aU ks
 | []=>rfl
 | t::r=>by
  change (t.pre++eA r).length=t.size+aU r;rw[Vw,iC t,lK r]
end
mutual
theorem C0:∀ t:Tm,t.wf=true->∀ u∈t.pre,u.wf=true/\u.size<=t.size/\u.dep<=t.dep
 | .node f ks,h,u,hu=>by
  rcases VG.mp hu with rfl | hu
  .exact#[h,VB _,VB _]
  .let(h1,h2,h3):=zX ks (jT h).2 u hu;exact#[h1,XU h2,XU h3]
theorem zX:∀ ks:!Tm,mD ks=true->∀ u∈eA ks,u.wf=true/\u.size<=aU ks/\u.dep<=kJ ks
 | [],_,u,hu=>by cases hu
 | t::r,h,u,hu=>by
  have h:(t.wf&&mD r)=true:=h;rw[V1] at h;change _/\_<=t.size+aU r/\_<=max t.dep (kJ r);rcases VM.mp hu with hu | hu
  .let(h1,h2,h3):=C0 t h.1 u hu;exact#[h1,by cbv,by cbv]
  .let(h1,h2,h3):=zX r h.2 u hu;exact#[h1,by cbv,by cbv]
end
theorem Ad{t:Tm}(h:t.wf=true):mD t.kids=true:=by
 cases t;exact (jT h).2
theorem yB:∀ {a b:!Tm},mD a=true->mD b=true->mD (a++b)=true:=λ{a b} ha hb=>oQ λt ht=>by
 rcases VM.mp ht with h | h
 .exact iO ha t h
 .exact iO hb t h
theorem toD_word(f:Fm)(ks:!Tm):∃ rest,toD (.node f ks)=.tup (.str f.word::rest):=by
 cases f<;>exact#[_,U]
theorem cM{α:Type}{x:α}{r:!α}:jd (x::r) 0=some x:=fk (j:=0) U
theorem ba{α:Type}{nt:Nat}{us:!Nat}{g:pN}{te:aV}(h f:α->D){Q:!D->DS->Prop}{s:DS}:∀ (xs:!α) {acc:!D},(∀ x∈xs,∀ k:D->DS->Prop,(∀ s':DS,s'.os=s.os->k (f x) s')->g (h x) (gL nt us s) λs1=>te s1 k)->Q (acc++xs.map f) s->b4 nt us g cf te (xs.map h) acc s Q
 | [],acc,_,q=>by
  rw[Wj,VJ] at q;exact q
 | x::xs,acc,hx,q=>by
  change g (h x) (gL nt us s) λs1=>cf s1 λb s2=>if b=true then te s2 λy s3=>b4 nt us g cf te (xs.map h) (acc++[y]) #[s.sl,s3.os] Q else b4 nt us g cf te (xs.map h) acc #[s.sl,s2.os] Q;have:=hx x Vx (λy s3=>b4 nt us g cf te (xs.map h) (acc++[y]) #[s.sl,s3.os] Q) λs' e=>by
   rw[e];show ba h f xs (λy hy=>hx y (Vy _ hy)) ?_;rw[VR];exact q
  simpa [cf] using this
theorem bp{α:Type}{nt:Nat}{us:!Nat}{g:pN}{ti:mF}{te:aV}(h f:α->D)(p:α->Bool){Q:!D->DS->Prop}{s:DS}:∀ (xs:!α) {acc:!D},
  (∀ x∈xs,∀ k:D->DS->Prop,∀ N:DS->Prop,(p x=true->∀ s':DS,s'.os=s.os->k (f x) s')->(p x=false->∀ s':DS,s'.os=s.os->N s')->g (h x) (gL nt us s) λs1=>ti s1 λb s2=>if b=true then te s2 k else N s2)->Q (acc++(xs.filter p).map f) s->b4 nt us g ti te (xs.map h) acc s Q
 | [],acc,_,q=>by
  rw[Xa,Wj,VJ] at q;exact q
 | x::xs,acc,hx,q=>by
  show hx x Vx (λy s3=>b4 nt us g ti te (xs.map h) (acc++[y]) #[s.sl,s3.os] Q) (λs2=>b4 nt us g ti te (xs.map h) acc #[s.sl,s2.os] Q) (λhp s' e=>?_) λhp s' e=>?_
  .show b4 nt us g ti te (xs.map h) (acc++[f x]) #[s.sl,s'.os] Q;rw[e];show bp h f p xs (λy hy=>hx y (Vy _ hy)) ?_;rw[Xk hp] at q;rw[VR];exact q
  .show b4 nt us g ti te (xs.map h) acc #[s.sl,s'.os] Q;rw[e];show bp h f p xs (λy hy=>hx y (Vy _ hy)) ?_;rw[W5 (by rw[hp];exact VN)] at q;exact q
theorem uA{r:Str}{hs:!(Str×!Str)}{n:Nat}(h:(Fm.k7 r hs).ar n=true):n=hs.length+1/\∀ h∈hs,h.2.length<=8:=by
 have h:(n == hs.length+1&&hs.all λh=>h.2.length<=8)=true:=h;rw[V1] at h;exact#[by simpa using h.1,λx hx=>by simpa using List.all_eq_true.mp h.2 x hx]
theorem ER{r:Str}{hs:!(Str×!Str)}{n:Nat}(h:(Fm.new r hs).ar n=true):n=hs.length/\∀ h∈hs,h.2.length<=8:=by
 have h:(n == hs.length&&hs.all λh=>h.2.length<=8)=true:=h;rw[V1] at h;exact#[by simpa using h.1,λx hx=>by simpa using List.all_eq_true.mp h.2 x hx]
end DL
namespace DL
open PySem PySem.Spec L2
open PyProof.Rows hiding St
section
variable{X:Cx}{c:Ent}
def RL(p:AT)(zs:!V)(neg:Bool):D->D->(D->Prop)->Prop:=λa b k=>b=.fO p/\fN a=true/\k (.bl (if neg then (not (xP (fv a) zs)) else xP (fv a) zs))
theorem Ph{p:AT}{zs:!V}{neg:Bool}(h:∀ H,ir X.K H p zs)(hf:zs.all jr=true):nF X c (KN X.K neg) (RL p zs neg):=λM s as σ H x y dx dy k Q L rx ry z8r kk=>by
 let(e,f1,hk):=z8r;subst e;have e1:=rx.flat f1;subst e1;have e2:y=.ref p:=ry;subst e2;exact#[p,zs,U,.inr (h H),lL f1,hf,kk _ hk M H _ L .refl U]
theorem nZ{A:Fr}{k:Nat}(hr:dE k A):A.units+150 < cLine:=by have:=hr.un;cbv
def OY:D->D->(D->Prop)->Prop:=λa b k=>∃ x y,a=.str x/\b=.str y/\(x.length+y.length<=Ev)/\k (.str (x++y))
end
theorem qb{P:Fk}{w:FB}{K:Frag}{mg:Str->Option AC}{base:Db}{k:Nat}{f:AT}{fd:Ix}{ps:!Str}{g:BC}:eV P w K mg base aQ k f fd ps (cg K g λ_ _=>False) :=
 #[λvs H Q E h=>by let(_,_,_,_,_,h,_):=h;exact h.elim,λA outer s H args us vs Q E hr he hb hv h=>by let(_,_,_,_,_,h,_):=h;exact h.elim]
def gE(d:AT):Yd:=λds R=>∃ m:Int,ds=[.fO d,.int m]/\(0 < m/\m < 9223372036854775808)/\∀ r:Int,0<=r->r < m->R (.int r)
theorem GB{P:Fk}{w:FB}{K:Frag}{mg:Str->Option AC}{base:Db}{k:Nat}{f d l:AT}{fd:Ix}{ps:!Str}(F:eV P w K mg base aQ k f fd ps cH.xu):eV P w K mg base aQ k f fd ps (cg K (aW d l) (gE d)) :=
 F.imp λvs H Q E h=>by
  let(M,ds,R,B,r,(m,rfl,(h1,h2),k),kk):=h;let(v,w,rfl,e1,e2):=v8 r;cases (show v=.ref d from e1);cases (show w=.int m from e2);show#[d,l,m,U,B.qe,h1,h2,λq H' q1 q2 A' bt=>kk _ (k q q1 q2) M H' _ #[A',λb o e g=>bt b o e (λz=>g (.inl z)) λz=>g (.inr z),λb m=>?_,B.mo,λ_ m=>m,λ_ m=>.inl m] rfl];let(o,e):=B.md b m;exact#[o,bt b o e (λz=>B.mo b m (.inl z)) λz=>B.mo b m (.inr z)]
section
variable{X:Cx}{c:Ent}
def RG(i:Nat):aV:=λs Q=>(∃ d,s.sl[i]?=some (.dat d)/\Q d s)\/∃ k d,s.sl[i]?=some (.own k)/\s.os[k]?=some (some d)/\Q d (s.freeze k d)
theorem sX{i:Nat}{e:Ch}(h:PE X e (bG i)):DE X c e (RG i):=#[λTD s0 σ H Q I zz=>dq zz λM s as R L q kk=>by
 rcases q with q | q
 .exact (dv (c:=c) h).pe TD s0 σ H Q I #[M,s,as,R,L,q,kk]
 .exact (QF (c:=c) h).pe TD s0 σ H Q I #[M,s,as,R,L,q,kk]]
def MF(neg:Bool)(i:Nat)(tb:aV):aV:=λs Q=>∃ k d0,s.sl[i]?=some (.own k)/\s.os[k]?=some (some d0)/\tb s λb s1=>∃ d,s1.os[k]?=some (some d)/\(iq d=true/\iq b=true/\(fH d<=150\/fH b<=150))/\Q (.bl (if neg then (not (FC d b)) else FC d b)) s1
theorem Lu{neg:Bool}{i:Nat}{tb:aV}{σ:St}{H:Hp}{Q:VK}:tE X.K c (MF neg i tb) σ H Q->jF (Fb X.K neg) (bG i) (tE X.K c tb) σ H Q:=λz1q=>by
 let(M,s,as,R,L,(k,d0,h1,h2,q),kk):=z1q;let(a,o,g1,g2,g3,g4):=L.slot h1 h2;show#[_,g2,M,s,as,_,L,q,λb s1 z2q M1 H1 v L1 E1 rv=>?_];let(d,e1,(o1,o2,hd),q1):=z2q;let((o',f1,f2),nm,ng,h0):=L1.obj k _ a e1 g1;exact#[λb=>M1 b\/b=a,d,b,(f2.mono (λ_ m=>.inl m) λ_ _ _ e=>e).rep f1 (.inr U),Rep.mono (λ_ m=>.inl m) (λ_ _ _ e=>e) _ _ rv,o1,o2,hd,kk _ s1 q1 M1 H1 _ L1 E1 U]
theorem Cm{neg:Bool}{i:Nat}{a b:Ch}{op:CmpOp}{tb:aV}{pos:Pos}(ho:ja X (KB op) (Fb X.K neg))(ha:PE X a (bG i))(hb:DE X c b tb)(hm:behindInMarks op b=false):DT X c (.Compare a [op] [b] pos) (Ku (MF neg i tb)):=#[(iW ho ha hb.pe hm).imp λ_ _ _=>jK Lu]
theorem cc:nF X c (λx y H Q=>∃ i j,x=.str i/\y=.str j/\i.length+j.length<=Ev/\Q (.str (i++j)) H) OY:=λM s as σ H x y dx dy k Q L rx ry z9r kk=>by
 let(i,j,e1,e2,h,hk):=z9r;subst e1;subst e2;exact#[i,j,rx,ry,h,kk _ hk M H _ L .refl U]
def O1:D->D->(D->Prop)->Prop:=λa b k=>∃ z n,a=.str z/\b=.int n/\MulOk z n/\k (.str (Txt.mul z n))
theorem Dt:nF X c (λx y H Q=>∃ z n,x=.str z/\y=.int n/\MulOk z n/\Q (.str (Txt.mul z n)) H) O1:=λM s as σ H x y dx dy k Q L rx ry z0r kk=>by
 let(i,j,e1,e2,h,hk):=z0r;subst e1;subst e2;exact#[i,j,rx,ry,h,kk _ hk M H _ L .refl U]
def QL(te:aV)(tl th:Gw):aV:=λs Q=>te s λa s1=>tl s1 λl s2=>th s2 λu s3=>∃ z,a=.str z/\z.length<=Ev/\Q (.str (Txt.slice z l u)) s3
theorem jf{e:Ch}{lo hi:Option Ch}{te:aV}{tl th:Gw}{p2 pos:Pos}(he:DE X c e te)(hl:DO X c lo tl)(hu:DO X c hi th):DE X c (.Subscript e (.Slice lo hi none p2) pos) (QL te tl th):=#[(ll Kf he.pe hl.po hu.po).imp λσ H Q zz=>dq zz λM s as R L q k =>
 #[M,s,as,_,L,q,λd s1 q1 M1 H1 v L1 E1 rv=>#[M1,s1,as,_,L1,q1,λl s2 q2 M2 H2 Lb E2=>#[M2,s2,as,_,Lb,q2,λu s3 q3 M3 H3 Lc E3=>by
  let(z,e,hz,q):=q3;subst e;have E13:=E2.trans Lb.base E3;exact#[z,rv,hz,k _ s3 q M3 H3 _ Lc (E1.trans L1.base E13) U]]]]]
theorem vG{K:Frag}{H:Hp}{M:AT->Prop}:∀ {bs:!Str} {vs:!V},ay K H M (bs.map .str) vs->vs=bs.map V.str
 | [],vs,r=>r
 | b::bs,vs,r=>by
  let(x,xr,rfl,r1,r2):=r;have r1:x=.str b:=r1;rw[r1,vG r2,VE]
def MR(to:aV)(t:fW):aV:=λs Q=>to s λa s1=>∃ z,a=.str z/\t s1 λds s2=>∃ zs,ds=[.lst (zs.map .str)]/\(zs.map (·.length)).sum+zs.length * z.length<=16777216/\Q (.str (Txt.join z zs)) s2
theorem iJ{o e:Ch}{es:!Ch}{to:aV}{t:fW}{apos bV:Pos}(ho:DE X c o to)(ha:DA X c (e::es) t)(gf:(attributeBase o "join" X.env (eval o X.env)=eval o X.env)⁻¹)(qf:(((Go bV (GE (e::es) X.env)).all (λx=>(not x.1))&&(Rs bV (SL [] X.env)).all (λx=>x.1.isSome)
   && decide ((e::es).length+([]:!NE).length+(if ([]:!NE).isEmpty then 0 else 1) < 30))=true)⁻¹)(fz:((apos.endLine == bV.line)=true)⁻¹)(hs:(Ye X.env e es)⁻¹)(f9:((Go bV (GE es X.env)).any (·.1)=false)⁻¹) :
  DE X c (.Call (.Attribute o "join" apos) (e::es) [] bV) (MR to t):=#[(zy XX PySem.F.slot_str_join PySem.F.type_str_join GW ho.pe ha.pa gf qf fz hs f9).imp λσ H Q zz=>dq zz λM s as R L q kk=>by
 show#[M,s,as,_,L,q,λd s1 #[z,e,q1] M1 H1 v L1 E1 rv=>?_];subst e;cases (show v=.str z from rv);show#[U,M1,s1,as,_,L1,q1,λds s2 #[zs,e2,hz,q2] M2 H2 vs L2 E2 rvs hl=>?_];subst e2;let(w,rfl,p,ys,rfl,(m,h),r'):=cV rvs;rw[vG r'] at h;exact#[z,p,zs,U,U,.of h,hz,kk _ s2 q2 M2 H2 _ L2 (E1.trans L1.base E2) U]]
def Lz(zs:!Str):fW:=λs Q=>Q (zs.map .str) s
theorem mO{K:Frag}{H:Hp}{M:AT->Prop}:∀ (zs:!Str),ay K H M (zs.map .str) (zs.map V.str)
 | []=>rfl
 | z::zs=>#[_,_,U,U,mO zs]
theorem Hi{es:!Ch}{zs:!Str}(h:vi es=true)(h2:zE es=zs)(h3:es.length=zs.length):DA X c es (Lz zs):=#[(by subst h2;exact (zw h).imp λσ H Q zz=>dq zz λM s as R L q k=>k _ s q M H _ L .refl (mO _) (by rw[Vv];exact h3.symm))]
def PM(neg:Bool)(te:aV)(i:Nat):aV:=λs Q=>te s λa s1=>∃ k ds,s1.sl[i]?=some (.own k)/\s1.os[k]?=some (some (.lst ds))/\(fN a=true/\ds.all fN=true)/\Q (.bl (if neg then (not (xP (fv a) (ds.map fv))) else xP (fv a) (ds.map fv))) s1
theorem KO{neg:Bool}{i:Nat}{te:aV}{σ:St}{H:Hp}{Q:VK}:tE X.K c (PM neg te i) σ H Q->jF (KN X.K neg) (tE X.K c te) (bG i) σ H Q:=λzz=>dq zz λM s as R L q kk =>
 #[M,s,as,_,L,q,λd s1 z5q M1 H1 v L1 E1 rv=>by
  let(k,ds,h1,h2,(f1,f2),q1):=z5q;let(a,o,g1,g2,g3,g4):=L1.slot h1 h2;cases o with
  | lst us =>
   have g4:ay X.K H1 M1 ds us:=g4;have e1:=rv.flat f1;subst e1;let(e,f):=g4.flat f2;show#[_,g2,a,us,U,.inl (.of g3),lL f1,f,?_];rw[e];exact kk _ s1 q1 M1 H1 _ L1 E1 U
  | _=>exact g4.elim]
theorem Kh{neg:Bool}{i:Nat}{a b:Ch}{op:CmpOp}{ta:aV}{pos:Pos}(ho:ja X (KB op) (KN X.K neg))(ha:DE X c a ta)(hb:PE X b (bG i))(hm:behindInMarks op b=false):DT X c (.Compare a [op] [b] pos) (Ku (PM neg ta i)):=#[(iW ho ha.pe hb hm).imp λ_ _ _=>jK KO]
end
end DL
namespace DL
open PySem PySem.Spec L2
def uH:!(Str×!Str)->!(!Str)->!Str
 | h::hs,l::ls=>l.filter (λx=>(not (h.2.contains x)))++uH hs ls
 | _,_=>[]
def QI:Fm->!(!Str)->!Str
 | .nm x,_=>[x]
 | .num _,_=>[]
 | .lt x,ls=>ls.headD []++(ls.tail.headD []).filter (λy=>(not (([x]:!Str).contains y)))
 | .k7 _ hs,ls=>ls.headD []++uH hs ls.tail
 | .new _ hs,ls=>uH hs ls
 | _,ls=>ls.flatten
mutual
noncomputable def Tm.U9:Tm->!Str
 | .node f ks=>QI f (MS ks)
noncomputable def MS:!Tm->!(!Str)
 | []=>[]
 | t::r=>t.U9::MS r
end
section
variable{κ:Type}[DecidableEq κ]
theorem yH{ks:!κ}{q:κ}:mG ks q=true↔q∈ks:=by
 unfold mG;rw[List.any_eq_true];constructor
 .rintro⟨k,h1,h2⟩;rw[<- of_decide_eq_true h2];exact h1
 .intro h;exact#[q,h,decide_eq_true U]
theorem oX:∀ {ks:!κ} {vs:!D} {q:κ} {x:D} (r:κ),ks.length=vs.length->q∈ks->cp ks (i9 ks vs q x) r=if r=q then some x else cp ks vs r
 | [],vs,q,x,r,_,h=>by cases h
 | k::ks,[],q,x,r,e,_=>by simp at e
 | k::ks,v::vs,q,x,r,e,h=>by
  change (if k=r then some (if k=q then x else v) else cp ks (i9 ks vs q x) r)=if r=q then some x else if k=r then some v else cp ks vs r;by_cases h1:k=r
  .subst h1;rw[if_pos U,if_pos U];by_cases h2:k=q
   .rw[if_pos h2,if_pos h2]
   .rw[if_neg h2,if_neg h2]
  .rw[if_neg h1,if_neg h1];by_cases h3:q∈ks
   .exact oX r (by simpa using e) h3
   .have h4:q=k:=by
     rcases VG.mp h with h | h
     .exact h
     .exact absurd h h3
    have h5:¬ r=q:=λz=>h1 (h4.symm.trans z.symm);rw[if_neg h5];have:∀ {ks:!κ} {vs:!D},ks.length=vs.length->q∉ks->cp ks (i9 ks vs q x) r=cp ks vs r:=by
     intro ks vs
     induction ks generalizing vs with
     | nil=>intro e _;cases vs<;>first | rfl | simp at e
     | cons k ks ih =>
      intro e hn;cases vs with
      | nil=>simp at e
      | cons v vs =>
       change (if k=r then some (if k=q then x else v) else cp ks (i9 ks vs q x) r)=if k=r then some v else cp ks vs r;have hk:¬ k=q:=λz=>hn (by rw[z];exact Vx);rw[if_neg (c:=k=q) hk,ih (by simpa using e) λz=>hn (List.mem_cons_of_mem _ z)]
    exact this (by simpa using e) h3
theorem ud:∀ {ks:!κ} {vs:!D} {q:κ} {x:D} (r:κ),ks.length=vs.length->q∉ks->cp (ks++[q]) (vs++[x]) r=if r=q then some x else cp ks vs r
 | [],[],q,x,r,_,h=>by
  change (if q=r then some x else none)=_;by_cases h1:r=q
  .rw[if_pos h1,if_pos h1.symm]
  .rw[if_neg h1,if_neg (Ne.symm h1)]
   rfl
 | [],_::_,q,x,r,e,_=>by simp at e
 | _::_,[],q,x,r,e,_=>by simp at e
 | k::ks,v::vs,q,x,r,e,h=>by
  change (if k=r then some v else cp (ks++[q]) (vs++[x]) r)=if r=q then some x else if k=r then some v else cp ks vs r;have hk:k≠q:=λz=>h (by rw[z];exact Vx);by_cases h1:k=r
  .subst h1;rw[if_pos U,if_neg hk,if_pos U]
  .rw[if_neg h1,if_neg h1];exact ud r (by simpa using e) λz=>h (List.mem_cons_of_mem _ z)
theorem CI{ks:!κ}{vs:!D}{q:κ}{x:D}(r:κ)(e:ks.length=vs.length):cp (d7 ks q) (fc ks vs q x) r=if r=q then some x else cp ks vs r:=by
 unfold d7 fc;by_cases h:mG ks q=true
 .rw[if_pos h,if_pos h];exact oX r e (yH.mp h)
 .rw[if_neg h,if_neg h];exact ud r e λz=>h (yH.mpr z)
theorem sG:∀ {ks:!κ} {vs:!D} {q:κ} {x:D},ks.length=vs.length->(i9 ks vs q x).length=vs.length
 | [],[],q,x,_=>rfl
 | [],_::_,q,x,e=>by simp at e
 | _::_,[],q,x,e=>by simp at e
 | k::ks,v::vs,q,x,e=>by
  change (i9 ks vs q x).length+1=vs.length+1;rw[sG (by simpa using e)]
theorem z7{ks:!κ}{vs:!D}{q:κ}{x:D}(e:ks.length=vs.length):(d7 ks q).length=(fc ks vs q x).length/\(d7 ks q).length<=ks.length+1:=by
 unfold d7 fc;by_cases h:mG ks q=true
 .rw[if_pos h,if_pos h,sG e];exact#[e,Nat.le_succ _]
 .rw[if_neg h,if_neg h];simp[e]
end
def Fm.strs:Fm->!Str
 | .nm x=>[x]
 | .num _=>[]
 | .op s=>[s]
 | .j3=>[]
 | .lt x=>[x]
 | .mk c=>[c]
 | .ask f=>[f]
 | .k7 r hs=>r::(hs.map λh=>h.1::h.2).flatten
 | .new k hs=>k::(hs.map λh=>h.1::h.2).flatten
mutual
noncomputable def Tm.By:Tm->Bool
 | .node f ks=>f.strs.all FS.strOk&&rN ks
noncomputable def rN:!Tm->Bool
 | []=>true
 | t::r=>t.By&&rN r
end
theorem vE:∀ {ds:!D},(∀ d∈ds,iq d=true)->eK ds=true
 | [],_=>rfl
 | d::ds,h=>by
  change (iq d&&eK ds)=true;rw[h d Vx,vE λt ht=>h t (Vy _ ht)]
  rfl
theorem EK{ns:!Str}(h:∀ x∈ns,FS.strOk x=true):eK (sD ns)=true:=vE λd hd=>by
 let(x,hx,rfl):=VI.mp hd;exact h x hx
theorem pb:∀ {hs:!(Str×!Str)} {ks:!D},(∀ x∈(hs.map λh=>h.1::h.2).flatten,FS.strOk x=true)->eK ks=true->eK (bA hs ks)=true
 | [],ks,_,_=>by cases ks<;>rfl
 | _::_,[],_,_=>rfl
 | h::hs,k::ks,h1,h2=>by
  have h2:(iq k&&eK ks)=true:=h2;rw[V1] at h2;have e:((h::hs).map λh=>h.1::h.2).flatten=(h.1::h.2)++(hs.map λh=>h.1::h.2).flatten:=rfl;rw[e] at h1;change (iq (AE h k)&&eK (bA hs ks))=true;rw[pb (λx hx=>h1 x (V6 _ hx)) h2.2,Bool.and_true];change (FS.strOk h.1&&(eK (sD h.2)&&(iq k&&true)))=true;rw[h1 h.1 (Wa _ Vx),EK λx hx=>h1 x (Wa _ (Vy _ hx)),h2.1]
  rfl
theorem GS:FS.strOk "name"=true/\FS.strOk "num"=true/\FS.strOk "op"=true/\FS.strOk "zero"=true/\FS.strOk "let"=true/\FS.strOk "make"=true/\FS.strOk "ask"=true/\FS.strOk "case"=true/\FS.strOk "new"=true:=by decide+kernel
mutual
theorem C8:∀ t:Tm,t.wf=true->t.By=true->iq (toD t)=true
 | .node f ks,hw,h=>by
  let(ha,hk):=jT hw;have h:(f.strs.all FS.strOk&&rN ks)=true:=h;rw[V1] at h;have ih:=yn ks hk h.2;have hs:∀ x∈f.strs,FS.strOk x=true:=Wr.mp h.1;let(l1,l2,l3,l4,l5,l6,l7,l8,l9):=GS;cases f with
  | nm x =>
   change (FS.strOk "name"&&(FS.strOk x&&true))=true;rw[l1,hs x Vx]
   rfl
  | num x =>
   change (FS.strOk "num"&&(true&&true))=true;rw[l2]
   rfl
  | op x =>
   change (FS.strOk "op"&&(FS.strOk x&&eK (toDs ks)))=true;rw[l3,hs x Vx,ih]
   rfl
  | j3 =>
   change (FS.strOk "zero"&&eK (toDs ks))=true;rw[l4,ih]
   rfl
  | lt x =>
   change (FS.strOk "let"&&(FS.strOk x&&eK (toDs ks)))=true;rw[l5,hs x Vx,ih]
   rfl
  | mk x =>
   change (FS.strOk "make"&&(FS.strOk x&&(eK (toDs ks)&&true)))=true;rw[l6,hs x Vx,ih]
   rfl
  | ask x =>
   let(a,r,rfl):=mP (l:=ks) (by simpa [Fm.ar] using ha);have ih:(iq (toD a)&&eK (toDs r))=true:=ih;rw[V1] at ih;change (FS.strOk "ask"&&(iq (toD a)&&(FS.strOk x&&(eK (toDs r)&&true))))=true;rw[l7,hs x Vx,ih.1,ih.2]
   rfl
  | k7 x hd =>
   let(a,r,rfl):=mP (l:=ks) (by rw[(uA ha).1];cbv);have ih:(iq (toD a)&&eK (toDs r))=true:=ih;rw[V1] at ih;change (FS.strOk "case"&&(iq (toD a)&&(FS.strOk x&&(eK (bA hd (toDs r))&&true))))=true;rw[l8,hs x Vx,ih.1,pb (λy hy=>hs y (Vy _ hy)) ih.2]
   rfl
  | new x hd =>
   change (FS.strOk "new"&&(FS.strOk x&&(eK (bA hd (toDs ks))&&true)))=true;rw[l9,hs x Vx,pb (λy hy=>hs y (Vy _ hy)) ih]
   rfl
theorem yn:∀ ks:!Tm,mD ks=true->rN ks=true->eK (toDs ks)=true
 | [],_,_=>rfl
 | t::r,h,h'=>by
  have h:(t.wf&&mD r)=true:=h;have h':(t.By&&rN r)=true:=h';rw[V1] at h h';change (iq (toD t)&&eK (toDs r))=true;rw[C8 t h.1 h'.1,yn r h.2 h'.2]
  rfl
end
def gk(ds:!D):Nat:=FS.depthAll (toPs ds)
theorem dS(d:D)(ds:!D):gk (d::ds)=max (fH d) (gk ds):=by
 change FS.depthAll (toP d::toPs ds)=_;simp[FS.depthAll,gk,fH]
theorem jB:gk []=0:=by simp[gk,toPs,FS.depthAll]
theorem uh(ds:!D):fH (.tup ds)=gk ds+1:=by
 change FS.depth (.tuple (toPs ds))=_;simp[FS.depth,gk]
theorem yX(ds:!D):fH (.lst ds)=gk ds+1:=by
 change FS.depth (.list (toPs ds))=_;simp[FS.depth,gk]
theorem yS(x:Str):fH (.str x)=0:=by simp[fH,toP,FS.depth]
theorem uF(x:Int):fH (.int x)=0:=by simp[fH,toP,FS.depth]
theorem v5:∀ ns:!Str,gk (sD ns)=0
 | []=>jB
 | x::r=>by
  change gk (.str x::sD r)=0;rw[dS,yS,v5 r]
  rfl
theorem dep_t{ds:!D}{n:Nat}(h:gk ds<=n):fH (.tup ds)<=n+1:=by rw[uh];exact WK h
theorem dA_c{d:D}{ds:!D}{n:Nat}(h:fH d<=n)(k:gk ds<=n):gk (d::ds)<=n:=by rw[dS];exact Nat.max_le.mpr #[h,k]
theorem dA_n{n:Nat}:gk []<=n:=by rw[jB];exact VT _
theorem dep_s{x:Str}{n:Nat}:fH (.str x)<=n:=by rw[yS];exact VT _
theorem pP{n:Nat}:∀ (hs:!(Str×!Str)) (ks:!D),gk ks<=n->gk (bA hs ks)<=n+2
 | [],ks,_=>by
  have:bA [] ks=[]:=by cases ks<;>rfl
  rw[this];exact dA_n
 | _::_,[],_=>dA_n
 | h::hs,k::ks,hk=>by
  rw[dS] at hk;have hk:=Nat.max_le.mp hk;exact dA_c (dep_t (dA_c dep_s (dA_c (dep_t (by rw[v5];exact VT _)) (dA_c (XU hk.1) dA_n)))) (pP hs ks hk.2)
mutual
theorem B5:∀ t:Tm,t.wf=true->fH (toD t)<=4 * t.dep
 | .node f ks,hw=>by
  let(ha,hk):=jT hw;have ih:=y0 ks hk;have i3:gk (toDs ks)<=4 * kJ ks+3:=VF ih (Wz _ 3);have i2:gk (toDs ks)<=4 * kJ ks+2:=VF ih (Wz _ 2);change fH (P5 f (toDs ks))<=4 * kJ ks+3+1;cases f with
  | nm x=>exact dep_t (dA_c dep_s (dA_c dep_s dA_n))
  | num x=>exact dep_t (dA_c dep_s (dA_c (by rw[uF];exact VT _) dA_n))
  | op x=>exact dep_t (dA_c dep_s (dA_c dep_s i3))
  | j3=>exact dep_t (dA_c dep_s i3)
  | lt x=>exact dep_t (dA_c dep_s (dA_c dep_s i3))
  | mk x=>exact dep_t (dA_c dep_s (dA_c dep_s (dA_c (dep_t i2) dA_n)))
  | ask x =>
   let(a,r,rfl):=mP (l:=ks) (by simpa [Fm.ar] using ha);have e:=Nat.max_le.mp (dS (toD a) (toDs r)▸i2);exact dep_t (dA_c dep_s (dA_c (XU e.1) (dA_c dep_s (dA_c (dep_t e.2) dA_n))))
  | k7 x hd =>
   let(a,r,rfl):=mP (l:=ks) (by rw[(uA ha).1];cbv);have e:=Nat.max_le.mp (dS (toD a) (toDs r)▸ih);exact dep_t (dA_c dep_s (dA_c (VF e.1 (Wz _ 3)) (dA_c dep_s (dA_c (dep_t (pP hd _ e.2)) dA_n))))
  | new x hd=>exact dep_t (dA_c dep_s (dA_c dep_s (dA_c (dep_t (pP hd _ ih)) dA_n)))
theorem y0:∀ ks:!Tm,mD ks=true->gk (toDs ks)<=4 * kJ ks
 | [],_=>by change gk []<=_;rw[jB];cbv
 | t::r,h=>by
  have h:(t.wf&&mD r)=true:=h;rw[V1] at h;have h1:=B5 t h.1;have h2:=y0 r h.2;change gk (toD t::toDs r)<=4 * max t.dep (kJ r);rw[dS];cbv
end
theorem zP:∀ {ks:!Tm} {n:Nat},(∀ k∈ks,k.dep<=n)->kJ ks<=n
 | [],n,_=>VT _
 | t::r,n,h=>by
  have h1:=h t Vx;have h2:=zP (n:=n) λk hk=>h k (Vy _ hk);change max t.dep (kJ r)<=n;cbv
end DL
namespace DL
open PySem PySem.Spec L2
open PyProof.Rows hiding St
def Lw(x:Str):Prop:=∀ ch∈x.cps.toList,97<=ch/\ch<=122
noncomputable instance (x:Str):Decidable (Lw x):=by unfold Lw;infer_instance
theorem Lw.app{x y:Str}(h:Lw x)(k:Lw y):Lw (x++y):=λch hc=>by
 have e:(x++y).cps.toList=x.cps.toList++y.cps.toList:=by change (x.cps++y.cps).toList=_;simp
 rw[e,VM] at hc;rcases hc with hc | hc
 .exact h ch hc
 .exact k ch hc
theorem Lw.slice{x:Str}(h:Lw x)(l u:Option Int):Lw (Txt.slice x l u):=by
 unfold Txt.slice;split
 .exact h
 .intro ch hc;simp only[List.mem_filterMap] at hc;let(i,_,e):=hc;let(hi,e):=Array.getElem?_eq_some_iff.mp e;exact h ch (by rw[<- e];simp)
theorem wk:∀ (cs:!Nat),(Txt.join ("":Str) (cs.map λc=>(#[#v[c]]:Str))).cps.toList=cs
 | []=>by unfold Txt.join;rw[PySem.StrLaws.glued_eq_join];rfl
 | [c]=>by unfold Txt.join;rw[PySem.StrLaws.glued_eq_join];rfl
 | c::d::r=>by
  have ih:=wk (d::r);have e:(Txt.join ("":Str) ((c::d::r).map λc=>(#[#v[c]]:Str)))=(#[#v[c]]:Str)++("":Str)++Txt.join ("":Str) ((d::r).map λc=>(#[#v[c]]:Str)):=by
   unfold Txt.join;rw[W8,W8]
   rfl
  rw[e];change ((#v[c]++#v[])++(Txt.join ("":Str) ((d::r).map λc=>(#[#v[c]]:Str))).cps).toList=_;rw[Xz,ih]
  rfl
theorem Lw.strOk{x:Str}(h:Lw x):FS.strOk x=true:=by
 unfold FS.strOk;rw[Array.all_eq_true];intro i hi;have:=h x.cps[i] (by simp);simp;cbv
theorem qa{nt:Nat}{us:!Nat}{g:pN}{te:aV}(Pd:D->Prop){Q:!D->DS->Prop}{s:DS}:∀ (xs:!D) {acc:!D},(∀ x∈xs,∀ k:D->DS->Prop,(∀ (y:D) (s':DS),Pd y->s'.os=s.os->k y s')->g x (gL nt us s) λs1=>te s1 k)->(∀ ys:!D,ys.length=xs.length->(∀ y∈ys,Pd y)->Q (acc++ys) s)->b4 nt us g cf te xs acc s Q
 | [],acc,_,q=>by
  have:=q [] rfl (λ_ h=>absurd h (by simp));rw[VJ] at this;exact this
 | x::xs,acc,hx,q=>by
  have:=hx x Vx (λy s3=>b4 nt us g cf te xs (acc++[y]) #[s.sl,s3.os] Q) λy s' hy e=>by
   change b4 nt us g cf te xs (acc++[y]) #[s.sl,s'.os] Q;rw[e];show qa Pd xs (λz hz=>hx z (Vy _ hz)) λys hl hp=>?_;rw[VR];show q ([y]++ys) (by simp[hl]) λz hz=>?_;rcases VG.mp hz with rfl | hz
   .exact hy
   .exact hp z hz
  rw[b4];simpa [cf] using this
theorem FW{X:Cx}{Ny:!Fa}{t:AT->kI}(h:∀ d l M0 H0,yM X #[aW d l,M0,H0] Ny (t d)):sO X Ny (λE σ H=>∃ d l M0 H0,tS X.K #[aW d l,M0,H0] (t d) E σ H):=λTD s σ H E I #[d,l,M0,H0,q]=>(h d l M0 H0).ps TD s σ H E I q
theorem KL{K:Frag}{d l:AT}{H:Hp}{t:AT->kI}{E:Ends}{σ:St}{n nos:Nat}(D1:cH.At H d l)(hl:σ.length=n+2)(h1:σ[1]?=some (some (.ref d)))(q:t d { nx:=λ_=>False,rt:=λx=>x=.bl true } #[.no::.dat (.fO d)::List.replicate n .no,List.replicate nos none])(k:∀ H',E.rt (.bl true) H'):∃ d l M0 H0,tS K #[aW d l,M0,H0] (t d) E σ H:=by
 show#[d,l,λ_=>False,H,λ_=>False,_,List.replicate nos 0,_,?_,q,?_]
 .refine#[#[D1,λb o e _=>e,λb m=>m.elim,λb m=>m.elim,λb m=>m.elim,λb m=>m.elim],by simp[hl],by simp,λi x e=>?_,λi k e=>?_,λk x a e=>?_,λk _ x _ a e=>?_,λk a e=>(nomatch e)]
  .match i,e with
   | 0,e=>simp at e
   | 1,e =>
    simp at e;subst e;exact#[_,h1,U]
   | i+2,e =>
    let(_,e):=VC.mp e;simp at e
  .match i,e with
   | 0,e=>simp at e
   | 1,e=>simp at e
   | i+2,e =>
    let(_,e):=VC.mp e;simp at e
  .let(_,e):=VC.mp e;simp at e
  .let(_,e):=VC.mp e;simp at e
 .refine#[λ_ _ _ _ _ z=>z.elim,λ_ _ _ _ _ z=>z.elim,λ_ _ _ _ _ z=>z.elim,λx M' H' v r B' rv=>?_,λ_ _ _ _ _ z=>z.elim,λ_ _ _ _ _ _ _ z=>z.elim];cases (show x=.bl true from r);cases (show v=.bl true from rv);exact k H'
def yo(K:Frag):Sp:=λvs H Q _=>∃ (a:AT) (ns:!Int),vs=[.ref a]/\eM K H a (ns.map V.int)/\ns.length<=63/\∀ H',Q (.bl true) H'
def wz:!Str:=["made","asked","def","tab","cross","to","number"]
def tH:!Str:=["zero","let","make","ask","case","new"]
def Nm(x:Str):Prop:=Lw x/\1<=x.length/\x.length<=8/\x∉wz/\x∉tH
noncomputable instance (x:Str):Decidable (Nm x):=by unfold Nm;infer_instance
theorem GU:∀ z∈cH.near,Nm z:=by decide+kernel
theorem Hf:∀ z∈wz,(z++("q":Str))∉wz/\(z++("q":Str))∉tH/\z.length<=6:=by decide+kernel
theorem F3:∀ z∈tH,(z++("q":Str))∉wz/\(z++("q":Str))∉tH/\z.length<=6:=by decide+kernel
theorem fA{w:Str}:∀ {zs:!Str},xP (.str w) (zs.map V.str)=decide (w∈zs)
 | []=>rfl
 | z::zs=>by
  have ih:=fA (w:=w) (zs:=zs);unfold xP at ih ⊢;rw[VE,WM,ih];rw[show FU (V.str z) (V.str w)=decide (z=w) from U];by_cases h:z=w
  .simp[h]
  .simp[h,Ne.symm h]
def wl(pre post:!Nat)(tn k e:Nat):!Nat:=pre++(97+(tn+7 * k) % 26)::(post++(List.replicate (k % 2) 120++(List.replicate (k / 26) 121++List.replicate e 113)))
theorem Ly{pre post:!Nat}{tn k k' e e':Nat}(h:wl pre post tn k e=wl pre post tn k' e'):k=k':=by
 unfold wl at h;have h:=XO h;injection h with h1 h2;have h2:=XO h2;have h3:k % 26=k' % 26:=by cbv
 have h4:k % 2=k' % 2:=by cbv
 rw[h4] at h2;have h2:=XO h2;have h5:=congrArg (List.count 121) h2;simp[List.count_append,List.count_replicate] at h5;cbv
theorem lY(x y:Str):(x++y).cps.toList=x.cps.toList++y.cps.toList:=by change (x.cps++y.cps).toList=_;simp
theorem zl{r:Int}(h0:0<=r)(h1:r < 26):jd cH.NA.cps.toList r=some (97+r.toNat):=by
 have hn:∀ n:Fin 26,cH.NA.cps.toList[n.val]?=some (97+n.val):=by decide+kernel
 have hj:r.toNat < 26:=by cbv
 have e:(r.toNat:Int)=r:=Int.toNat_of_nonneg h0;have q:=fk (xs:=cH.NA.cps.toList) (j:=r.toNat) (v:=97+r.toNat) (hn #[r.toNat,hj]);rw[e] at q;exact q
theorem zm{c:Nat}{n:Int}(h0:0<=n)(h1:n<=2):(Txt.mul (#[#v[c]]:Str) n).cps.toList=List.replicate n.toNat c/\MulOk (#[#v[c]]:Str) n:=by
 have:n=0\/n=1\/n=2:=by cbv
 rcases this with rfl | rfl | rfl
 .exact#[U,U,λh=>absurd () h,λh=>absurd () h]
 .exact#[U,U,λ_ h=>absurd h (by simp),λ_ h=>absurd h (by simp)]
 .exact#[U,U,λ_ _=>by change ¬ ((1:Nat):Int) > (2 ^ 63 - 1) / 2;decide,λ_ _=>by change PySem.Builtin.Str.tooLong (1 * 2)=false;decide]
theorem t9{α:Type}{z:α}:∀ {ws:!α} (i:Nat),ws.Nodup->z∉ws->(ws.set i z).Nodup
 | [],i,h,hz=>by simpa using h
 | w::ws,0,h,hz=>by
  rw[List.set_cons_zero];rw[WO] at h ⊢;exact#[λm=>hz (Vy _ m),h.2]
 | w::ws,i+1,h,hz=>by
  rw[List.set_cons_succ];rw[WO] at h ⊢;show#[λm=>?_,t9 i h.2 λm=>hz (Vy _ m)];rcases List.mem_or_eq_of_mem_set m with m | e
  .exact h.1 m
  .exact hz (by rw[<- e];exact Vx)
open PySem.Builtin PySem.Builtin.Str in
theorem vD(x:Str)(l u:Option Int):(Txt.slice x l u).length<=(strSliceIndices l u 1 x.length).length:=by
 unfold Txt.slice;split
 .rename_i h
  simp at h;cbv
 .show (List.filterMap _ (strSliceIndices l u 1 x.length)).toArray.size<=_;rw[VQ];exact XG _ _
open PySem.Builtin PySem.Builtin.Str in
theorem Be{x:Str}{i:Int}(h0:0<=i)(h1:i<=x.length):(Txt.slice x none (some i)).length+(Txt.slice x (some i) none).length<=x.length:=by
 have a:=vD x none (some i);have b:=vD x (some i) none;have ha:(strSliceIndices none (some i) 1 x.length).length<=i.toNat:=by
  unfold strSliceIndices sliceRange;simp only[show (1:Int) > 0 by decide,if_true,List.length_map,List.length_range]<;>(split<;>(try split)<;>(try split)<;>(try simp only[Int.ediv_one])<;>cbv)
 have hb:(strSliceIndices (some i) none 1 x.length).length<=x.length - i.toNat:=by
  unfold strSliceIndices sliceRange;simp only[show (1:Int) > 0 by decide,if_true,List.length_map,List.length_range]<;>(split<;>(try split)<;>(try split)<;>(try simp only[Int.ediv_one])<;>cbv)
 cbv
def wG(pre post:!Nat)(tn:Nat)(ws:!Str):Prop:=∀ (j:Nat) (w:Str),ws[j]?=some w->Nm w/\∃ e,w.cps.toList=wl pre post tn j e
theorem wG.nodup{pre post:!Nat}{tn:Nat}{ws:!Str}(h:wG pre post tn ws):ws.Nodup:=by
 rw[Xy,WG];intro i j hi hj hij e;let(_,e1,h1):=h i ws[i] (VO hi);let(_,e2,h2):=h j ws[j] (VO hj);rw[e,h2] at h1;have:=Ly h1;cbv
theorem wG.snoc{pre post:!Nat}{tn:Nat}{ws:!Str}{u:Str}{e:Nat}(h:wG pre post tn ws)(hu:Nm u)(he:u.cps.toList=wl pre post tn ws.length e):wG pre post tn (ws++[u]):=λj w q=>by
 by_cases hj:j < ws.length
 .rw[List.getElem?_append_left hj] at q;exact h j w q
 .rw[List.getElem?_append_right (by cbv)] at q;let(h1,h2):=VC.mp q;simp at h1;have:j=ws.length:=by cbv
  subst this;simp at h2;subst h2;exact#[hu,e,he]
theorem wG.nm{pre post:!Nat}{tn:Nat}{ws:!Str}(h:wG pre post tn ws):∀ w∈ws,Nm w:=λw m=>by
 let(j,hj,e):=Wh m;exact (h j w (by rw[VO hj,e])).1
def EX(d:AT):Yd:=λds R=>∃ m:Int,ds=[.fO d,.int m]/\(0 < m/\m<=60)/\∀ ws:!Str,ws.length=m.toNat->ws.Nodup->(∀ x∈ws,Nm x)->R (.lst (ws.map .str))
section
variable{X:Cx}{c:Ent}
def xS:D->Bool
 | .cA=>true
 | _=>false
theorem Rep.Nr{K:Frag}{H:Hp}{M:AT->Prop}{d:D}{v:V}(r:Rep K H M d v):decide (v=.cA)=xS d:=by
 cases d with
 | cA=>rw[show v=.cA from r];rfl
 | bl b=>rw[show v=.bl b from r];rfl
 | int b=>rw[show v=.int b from r];rfl
 | str b=>rw[show v=.str b from r];rfl
 | fO b=>rw[show v=.ref b from r];rfl
 | ty b=>rw[show v=.ty b from r];rfl
 | tup _=>let(a,xs,rfl,_):=r;rfl
 | lst _=>let(a,xs,rfl,_):=r;rfl
 | vv _ _=>let(a,xs,rfl,_):=r;rfl
 | j9 _ _=>let(a,xs,rfl,_):=r;rfl
 | yR _ _=>let(a,o,xs,ts,rfl,_):=r;rfl
def NY:D->D->(D->Prop)->Prop:=λa b k=>b=.cA/\k (.bl (not (xS a)))
theorem Cr:nF X c (λx y H Q=>y=.cA/\Q (.bl (not (decide (x=.cA)))) H) NY:=λM s as σ H x y dx dy k Q L rx ry z1r kk=>by
 let(e,hk):=z1r;subst e;show#[ry,?_];rw[rx.Nr];exact kk _ hk M H _ L .refl U
def Rg:Yd:=λas k=>∃ i j,as=[.int i,.int j]/\k (.int (if j < i then j else i))
theorem NF:AM X c (λxs H Q=>∃ i j,xs=[.int i,.int j]/\Q (.int (if j < i then j else i)) H) Rg:=λM s as σ H xs ds k Q L r z2r kk=>by
 let(i,j,e,hk):=z2r;subst e;let(v,w,rfl,e1,e2):=v8 r;have e1:v=.int i:=e1;have e2:w=.int j:=e2;subst e1;subst e2;exact#[i,j,U,kk _ hk M H _ L .refl U]
end
end DL
namespace PyZ
open PySem Sem
section
variable{prog:Fk}{w:FB}{A:Fr}{E:Yb}{s:Cl}{z TI TO i1 i2:AT}{f1 f2:!AT}{n1 n2:Nat}{P1 P2:Nat->AC->Prop}{S1 S2:Nat->Db->Prop}
structure Apart(z TI TO i1 i2:AT)(f1 f2:!AT):Prop where
 TIz:TI≠z
 TOz:TO≠z
 i1z:i1≠z
 i2z:i2≠z
 TITO:TI≠TO
 TIi1:TI≠i1
 TIi2:TI≠i2
 TOi1:TO≠i1
 TOi2:TO≠i2
 z1:z∉f1
 z2:z∉f2
 o1:TO∉f1
 o2:TO∉f2
 a1:i2∉f1
 a2:i1∉f2
structure Zip(S1 S2:Nat->Db->Prop)(z TI TO i1 i2:AT)(f0:AC)(k1 k2:Nat)(h:Db):Prop where
 zip:IsZip h z TI TO f0
 ins:IN h TI (.ref i1) (.ref i2)
 out:∃ a b,IN h TO a b
 LN:S1 k1 h
 HK:S2 k2 h
theorem but{c:AT}{f:!AT}{h h':Db}{S:Nat->Db->Prop}{it:AT}{n k:Nat}{P:Nat->AC->Prop}(D:Draws prog w A it f n P S)(x:Db.SameBut c h h')(hc:c∉f)(st:S k h):S k h' :=
 D.frame _ _ _ st λb hb o e=>x.extBut _ _ (λq=>hc (q▸hb)) e
theorem next_item{k:Nat}{Q:Yb}(X:Apart z TI TO i1 i2 f1 f2)(D1:Draws prog w A i1 f1 n1 P1 S1)(D2:Draws prog w A i2 f2 n2 P2 S2)(Z:Zip S1 S2 z TI TO i1 i2 .none k k s.heap)(h1:k < n1)(h2:k < n2)(hQ:∀ x y h' tk,P1 k x->P2 k y->Zip S1 S2 z TI TO i1 i2 (IR ↑s) (k+1) (k+1) h'->IN h' ↑s x y->h'.objs.size=↑s+1 ->
   (∀ c o,c≠z->c≠TO->c≠i1->c≠i2->s.heap.get? c=some o->h'.get? c=some o)->Q (.ref ↑s) { s with heap:=h',toks:=tk }) :
  Da (model prog w) A (FM.«zip.__next__» #[[.ref z],[]]) (λfin s'=>∃ v,fin=.done (.ret v)/\Q v s') E s:=by
 let(hz,hTI,(a,b,hTO),t1,t2):=Z;change Da _ _ (field (.ref z) 2 >>= _) _ _ _;show BT (KF hz U (x:=.bool false) U ?_);change Da _ _ (field (.ref z) 3 >>= _) _ _ _;show BT (KF hz U (x:=.ref TI) U (BT (PP hTI U ?_)));change Da _ _ (FM.SmallTypes.ownedTupleIsFree (.ref z) >>= _) _ _ _;show BT ?_;unfold FM.SmallTypes.ownedTupleIsFree;show BT (KF hz U (x:=.none) U (EQ ?_));simp only[if_true];show BT (wpAny_rule (BT (KF hz U (x:=.ref TO) U (BT (wpAny_setField_rec hz (by simp) λha hza sa=>?_)))))
 replace hza:IsZip ha z TI TO .ellipsis:=hza
 show BT ?_;simp only[List.zipIdx_cons,List.zipIdx_nil,List.forIn_cons,List.forIn_nil];show BT (BT (wpAny_onRaise ?_));change Da _ _ (FM.SmallTypes.nextOf (.ref i1) >>= _) _ _ _;show BT (D1.item k _ _ _ h1 (but D1 sa X.z1 t1) λx hb tk1 px t1b sb=>EQ ?_);have ob:IN hb TO a b:=sb.extBut _ _ X.TOi1 (sa.extBut _ _ X.TOz hTO);show BT (PP ob U (BT (wpAny_updateSeq_pair ob λhc oc sc=>BT (wpAny_letGo (EQ ?_)))))
 replace oc:IN hc TO x b:=oc
 show BT (BT (wpAny_onRaise ?_));change Da _ _ (FM.SmallTypes.nextOf (.ref i2) >>= _) _ _ _;show BT (D2.item k _ _ _ h2 (but D2 sc X.o2 (but D2 sb X.a2 (but D2 sa X.z2 t2))) λy hd tk2 py t2d sd=>EQ ?_);have od:IN hd TO x b:=sd.extBut _ _ X.TOi2 oc;show BT (PP od U (BT (wpAny_updateSeq_pair od λhe oe se=>BT (wpAny_letGo (EQ (EQ ?_))))))
 replace oe:IN he TO x y:=oe
 show BT (PP oe U (BT (wpAny_newTuple ?_)));have hsz:he.objs.size=↑s:=by rw[se.1,sd.1,sc.1,sb.1,sa.1]
 have ze:IsZip he z TI TO .ellipsis:=se.extBut _ _ X.TOz.symm (sd.extBut _ _ X.i2z.symm (sc.extBut _ _ X.TOz.symm (sb.extBut _ _ X.i1z.symm hza)));have ke:∀ c o,c≠z->c≠TO->c≠i1->c≠i2->s.heap.get? c=some o->he.get? c=some o:=λc o c1 c2 c3 c4 e =>
  se.extBut _ _ c2 (sd.extBut _ _ c4 (sc.extBut _ _ c2 (sb.extBut _ _ c3 (sa.extBut _ _ c1 e))))
 have t1e:S1 (k+1) he:=but D1 se X.o1 (but D1 sd X.a1 (but D1 sc X.o1 t1b));have t2e:S2 (k+1) he:=but D2 se X.o2 t2d;have hzlt:z < he.objs.size:=VL ze;change Da _ _ (FM.SmallTypes.ownedTupleHandOut (.ref z) (.ref he.objs.size) >>= _) _ _ _;show BT ?_;unfold FM.SmallTypes.ownedTupleHandOut;have zf:IsZip (he.push { cls:=.type "tuple",data:=.seq #v[x,y] }) z TI TO .ellipsis:=Vz _ ze;show BT (wpAny_setField_rec zf (by simp) λhg zg sg=>?_)
 replace zg:IsZip hg z TI TO (IR he.objs.size):=zg
 show wpAny_setField_rec zg (by simp) λhh zh sh=>?_
 replace zh:IsZip hh z TI TO (IR he.objs.size):=zh
 have up:∀ c o,c≠z->he.get? c=some o->hh.get? c=some o:=λc o c1 e=>sh.extBut _ _ c1 (sg.extBut _ _ c1 (Vz _ e));have pT:IN hh he.objs.size x y:=sh.extBut _ _ (W7 hzlt) (sg.extBut _ _ (W7 hzlt) (VP _ U));have z8:hh.objs.size=he.objs.size+1:=by rw[sh.1,sg.1,Wl]
 rw[hsz] at zh pT z8;show EQ #[_,U,?_];change Q (.ref he.objs.size) _;rw[hsz];show hQ x y hh _ px py #[zh,up _ _ X.TIz (ke _ _ X.TIz X.TITO X.TIi1 X.TIi2 hTI),#[_,_,up _ _ X.TOz oe],?_,?_] pT z8 λc o c1 c2 c3 c4 e=>up c o c1 (ke c o c1 c2 c3 c4 e)
 .exact D1.frame _ _ _ t1e λq hq o e=>up q o (λr=>X.z1 (r▸hq)) e
 .exact D2.frame _ _ _ t2e λq hq o e=>up q o (λr=>X.z2 (r▸hq)) e
def Ends(prog:Fk)(w:FB)(A:Fr)(it:AT)(S:Db->Prop):Prop:=∀ (s:Cl) (Q:Yb) (E:Yb),S s.heap ->
  (∀ h' e,Db.ExtBut it s.heap h'->(∃ o,h'.get? e=some o/\o.cls=.type "StopIteration")->E (.ref e) { s with heap:=h' })->Da (model prog w) A (FM.SmallTypes.nextOf (.ref it)) Q E s
theorem next_end{k:Nat}{Q:PySem.Fin->Cl->Prop}(X:Apart z TI TO i1 i2 f1 f2)(D1:Draws prog w A i1 f1 n1 P1 S1)(D2:Draws prog w A i2 f2 n2 P2 S2)(Z:Zip S1 S2 z TI TO i1 i2 .none k k s.heap)(hk:Ends prog w A i1 (S1 k)\/(k < n1/\Ends prog w A i2 (S2 k)))(hE:∀ h' e tk,(∀ c o,c≠z->c≠TO->c≠i1->c≠i2->s.heap.get? c=some o->h'.get? c=some o)->(∃ o,h'.get? e=some o/\o.cls=.type "StopIteration")->E (.ref e) { s with heap:=h',toks:=tk }) :
  Da (model prog w) A (FM.«zip.__next__» #[[.ref z],[]]) Q E s:=by
 let(hz,hTI,(a,b,hTO),t1,t2):=Z;change Da _ _ (field (.ref z) 2 >>= _) _ _ _;show BT (KF hz U (x:=.bool false) U ?_);change Da _ _ (field (.ref z) 3 >>= _) _ _ _;show BT (KF hz U (x:=.ref TI) U (BT (PP hTI U ?_)));change Da _ _ (FM.SmallTypes.ownedTupleIsFree (.ref z) >>= _) _ _ _;show BT ?_;unfold FM.SmallTypes.ownedTupleIsFree;show BT (KF hz U (x:=.none) U (EQ ?_));simp only[if_true];show BT (wpAny_rule (BT (KF hz U (x:=.ref TO) U (BT (wpAny_setField_rec hz (by simp) λha hza sa=>?_)))))
 replace hza:IsZip ha z TI TO .ellipsis:=hza
 show BT ?_;simp only[List.zipIdx_cons,List.zipIdx_nil,List.forIn_cons,List.forIn_nil];show BT (BT (wpAny_onRaise ?_));change Da _ _ (FM.SmallTypes.nextOf (.ref i1) >>= _) _ _ _;rcases hk with d1 | ⟨h1,d2⟩
 rotate_left
 .refine BT (D1.item k _ _ _ h1 (but D1 sa X.z1 t1) λx hb tk1 px t1b sb=>EQ ?_);have ob:IN hb TO a b:=sb.extBut _ _ X.TOi1 (sa.extBut _ _ X.TOz hTO);show BT (PP ob U (BT (wpAny_updateSeq_pair ob λhc oc sc=>BT (wpAny_letGo (EQ ?_)))));show BT (BT (wpAny_onRaise ?_));change Da _ _ (FM.SmallTypes.nextOf (.ref i2) >>= _) _ _ _;show BT (d2 _ _ _ (but D2 sc X.o2 (but D2 sb X.a2 (but D2 sa X.z2 t2))) λhd e sd he=>?_);let(oe,hoe,hce):=he;have zd:IsZip hd z TI TO .ellipsis:=sd _ _ X.i2z.symm (sc.extBut _ _ X.TOz.symm (sb.extBut _ _ X.i1z.symm hza));have hez:e≠z:=λx=>by subst x;rw[zd] at hoe;cases hoe;simp at hce
  exact wpAny_setField_rec zd (by simp) λhf _ sf=>hE hf e _ (λc o c1 c2 c3 c4 x=>sf.extBut _ _ c1 (sd _ _ c4 (sc.extBut _ _ c2 (sb.extBut _ _ c3 (sa.extBut _ _ c1 x))))) #[oe,sf.extBut _ _ hez hoe,hce]
 .refine BT (d1 _ _ _ (but D1 sa X.z1 t1) λhb e sb he=>?_);let(oe,hoe,hce):=he;have zb:IsZip hb z TI TO .ellipsis:=sb _ _ X.i1z.symm hza;have hez:e≠z:=λx=>by subst x;rw[zb] at hoe;cases hoe;simp at hce
  exact wpAny_setField_rec zb (by simp) λhf _ sf=>hE hf e _ (λc o c1 _ c3 _ x=>sf.extBut _ _ c1 (sb _ _ c3 (sa.extBut _ _ c1 x))) #[oe,sf.extBut _ _ hez hoe,hce]
theorem zL{k:Nat}{Q:Option AC->Cl->Prop}(X:Apart z TI TO i1 i2 f1 f2)(D1:Draws prog w A.in1 i1 f1 n1 P1 S1)(D2:Draws prog w A.in1 i2 f2 n2 P2 S2)(Z:Zip S1 S2 z TI TO i1 i2 .none k k s.heap)(h1:k < n1)(h2:k < n2)(hQ:∀ x y h' tk,P1 k x->P2 k y->Zip S1 S2 z TI TO i1 i2 (IR ↑s) (k+1) (k+1) h'->IN h' ↑s x y->h'.objs.size=↑s+1 ->
   (∀ c o,c≠z->c≠TO->c≠i1->c≠i2->s.heap.get? c=some o->h'.get? c=some o)->Q (some (.ref ↑s)) { s with heap:=h',toks:=tk }):Da (model prog w) A (pyNext (.ref z)) Q E s:=by
 have hT:s.TypeIs (.ref z) "zip":=#[_,Z.zip,U];unfold pyNext;exact BT (wpAny_attempt (wpAny_callSpecial?_slot (name:=Str.ofString "__next__") hT F.slot_zip_next
  (Ps F.slot_zip_next hT F.entry_zip_next (next_item X D1 D2 Z h1 h2 λx y h' tk a1 a2 a3 a4 a5 a6=>EQ (hQ x y h' tk a1 a2 a3 a4 a5 a6)) (F.args_zip_next_1 _))))
theorem Cu{k:Nat}{Q:Option AC->Cl->Prop}(X:Apart z TI TO i1 i2 f1 f2)(D1:Draws prog w A.in1 i1 f1 n1 P1 S1)(D2:Draws prog w A.in1 i2 f2 n2 P2 S2)(Z:Zip S1 S2 z TI TO i1 i2 .none k k s.heap)(hk:Ends prog w A.in1 i1 (S1 k)\/(k < n1/\Ends prog w A.in1 i2 (S2 k)))(hQ:∀ h' tk,(∀ c o,c≠z->c≠TO->c≠i1->c≠i2->s.heap.get? c=some o->h'.get? c=some o)->Q none { s with heap:=h',toks:=tk }):Da (model prog w) A (pyNext (.ref z)) Q E s:=by
 have hT:s.TypeIs (.ref z) "zip":=#[_,Z.zip,U];unfold pyNext;show BT (wpAny_attempt (wpAny_callSpecial?_slot (name:=Str.ofString "__next__") hT F.slot_zip_next
  (Ps F.slot_zip_next hT F.entry_zip_next (next_end X D1 D2 Z hk λh' e tk kk he=>?_) (F.args_zip_next_1 _))))
 let(o,ho,hc):=he;show BT (wpAny_isInstance (T:="StopIteration") (b:=true) #[o,ho,hc] isSubtype_stop ?_);exact EQ (hQ _ _ kk)
end
end PyZ
namespace PyZ
open PySem Sem L2
def k8(t:Bool)(h:Db)(l:AT)(xs:Array AC):Prop:=if t=true then h.IsTuple l xs else h.IsList l xs
def Jy(t:Bool)(l:AT):Obj:={ cls:=.type (if t=true then "tuple_iterator" else "list_iterator"),data:=.fields #v[.ref l,.int 0 0] }
theorem k8.at{t:Bool}{h h':Db}{l:AT}{xs:Array AC}(x:k8 t h l xs)(k:∀ o,h.get? l=some o->h'.get? l=some o):k8 t h' l xs:=by
 cases t with
 | true =>
  let(o,e,r):=(show h.IsTuple l xs from x);exact#[o,k o e,r]
 | false=>exact Db.IsList.at (show h.IsList l xs from x) k
section
variable{prog:Fk}{w:FB}{A:Fr}{E:Yb}{s:Cl}
theorem Ek{t:Bool}{l:AT}{xs:Array AC}{Q:Yb}(hl:k8 t s.heap l xs)(h:Q (.ref ↑s) { s with heap:=s.heap.push (Jy t l) }):Da (model prog w) A (pyIter (.ref l)) Q E s:=by
 cases t with
 | true=>exact wpAny_pyIter_tuple (show s.heap.IsTuple l xs from hl) h
 | false=>exact wpAny_pyIter_list (show s.heap.IsList l xs from hl) h
theorem jR(t:Bool)(hh:A.handled=none)(it l:AT)(wN:l≠it)(xs:Array AC):Draws prog w A it [it,l] xs.size (λi v=>xs[i]?=some v) (λi h=>iG t h it l i/\k8 t h l xs):=by
 cases t with
 | true=>exact LB.C2 hh it l wN xs
 | false=>exact Draws.list hh it l wN xs
end
theorem u4{prog:Fk}{w:FB}{A:Fr}(t:Bool)(hh:A.handled=none){it l:AT}{xs:Array AC}{k:Nat}(hk:xs.size<=k):Ends prog w A it (λh=>iG t h it l k/\k8 t h l xs):=λs Q E z3r hE=>by
 let(a,b):=z3r;have hn:xs[k]?=none:=Array.getElem?_eq_none hk;cases t with
 | true=>exact LB.eU hh (show s.heap.IsTupleIter it l k from a) (show s.heap.IsTuple l xs from b) hn hE
 | false=>exact wpAny_nextOf_list_end hh (show s.heap.IsListIter it l k from a) (show s.heap.IsList l xs from b) hn hE
abbrev q1(t1:Bool)(h:Db)(l1:AT):Db:=h.push (Jy t1 l1)
abbrev q2(t1 t2:Bool)(h:Db)(l1 l2:AT):Db:=(q1 t1 h l1).push (Jy t2 l2)
abbrev q3(t1 t2:Bool)(h:Db)(l1 l2:AT):Db:=(q2 t1 t2 h l1 l2).push { cls:=.type "tuple",data:=.seq #v[.ref h.objs.size,.ref (q1 t1 h l1).objs.size] }
abbrev q4(t1 t2:Bool)(h:Db)(l1 l2:AT):Db:=(q3 t1 t2 h l1 l2).push { cls:=.type "tuple",data:=.seq #v[.none,.none] }
abbrev q5(t1 t2:Bool)(h:Db)(l1 l2:AT):Db:=(q4 t1 t2 h l1 l2).push { cls:=.type "zip",data:=.fields #v[.none,.bool false,.bool false,.ref (q2 t1 t2 h l1 l2).objs.size,.ref (q3 t1 t2 h l1 l2).objs.size] }
theorem Bu(t1 t2:Bool)(l1 l2:AT)(xs ys:Array AC) :
  Meets (FM.«zip.__new__» #[[.type "zip",.ref l1,.ref l2],[]]) (λ_ R s=>k8 t1 s.heap l1 xs/\k8 t2 s.heap l2 ys /\
   R (.ok (.ret (.ref (q4 t1 t2 s.heap l1 l2).objs.size))) { s with heap:=q5 t1 t2 s.heap l1 l2 }) :=
 .of_wp λprog w A R s h=>by
  let(hp,g,d,tk,os):=s;let(FD,AZ,h):=h;have hsub:=sub_zip;have hL1:k8 t1 (Cl.heap #[hp,g,d,tk,os]) l1 xs:=FD;have hL2:k8 t2 (Cl.heap #[hp.push (Jy t1 l1),g,d,tk,os]) l2 ys:=k8.at AZ λo e=>Vz _ e
  wp_walk using Ek hL1,Ek hL2
  exact#[_,U,h]
section
variable{prog:Fk}{w:FB}{A:Fr}{E:Yb}{s:Cl}
theorem vS{t:Bool}{h:Db}{it l:AT}(e:h.get? it=some (Jy t l)):iG t h it l 0:=by
 cases t with
 | true=>exact (show h.IsTupleIter it l 0 from #[_,e,U,U])
 | false=>exact (show h.IsListIter it l 0 from #[_,e,U,U])
theorem vC{t1 t2:Bool}{l1 l2:AT}{xs ys:Array AC}{Q:Yb}(FD:k8 t1 s.heap l1 xs)(AZ:k8 t2 s.heap l2 ys)(h:∀ h',IsZip h' (↑s+4) (↑s+2) (↑s+3) .none->IN h' (↑s+2) (.ref ↑s) (.ref (↑s+1)) ->
   IN h' (↑s+3) .none .none->iG t1 h' ↑s l1 0->iG t2 h' (↑s+1) l2 0->h'.objs.size=↑s+5 ->
   (∀ c o,s.heap.get? c=some o->h'.get? c=some o)->Q (.ref (↑s+4)) { s with heap:=h' }) :
  Da (model prog w) A (call (.type "zip") [.ref l1,.ref l2]) Q E s:=by
 show callType_new F.called_zip () (F.typeCall_zip_2 _ _) (F.newCall_zip_2 _ _) (λobj=>F.args_object_init_3 obj _ _) F.entry_zip_new (Bu t1 t2 l1 l2 xs ys) #[FD,AZ,?_];have z1:(q1 t1 s.heap l1).objs.size=↑s+1:=Wl ..;have z2:(q2 t1 t2 s.heap l1 l2).objs.size=↑s+2:=by rw[Wl,z1]
 have z3:(q3 t1 t2 s.heap l1 l2).objs.size=↑s+3:=by rw[Wl,z2]
 have z4:(q4 t1 t2 s.heap l1 l2).objs.size=↑s+4:=by rw[Wl,z3]
 have z5:(q5 t1 t2 s.heap l1 l2).objs.size=↑s+5:=by rw[Wl,z4]
 have g5:(q5 t1 t2 s.heap l1 l2).get? (q4 t1 t2 s.heap l1 l2).objs.size=some _:=VP _ U;have g4:(q5 t1 t2 s.heap l1 l2).get? (q3 t1 t2 s.heap l1 l2).objs.size=some _:=Vz _ (VP _ U);have g3:(q5 t1 t2 s.heap l1 l2).get? (q2 t1 t2 s.heap l1 l2).objs.size=some _:=Vz _ (Vz _ (VP _ U));have g2:(q5 t1 t2 s.heap l1 l2).get? (q1 t1 s.heap l1).objs.size=some (Jy t2 l2):=Vz _ (Vz _ (Vz _ (VP _ U)));have g1:(q5 t1 t2 s.heap l1 l2).get? ↑s=some (Jy t1 l1):=Vz _ (Vz _ (Vz _ (Vz _ (VP _ U))));change _/\_;rw[z2,z3,z4] at g5;rw[z1,z2] at g3;rw[z3] at g4;rw[z1] at g2;rw[z4];exact#[#[_,g5,U],h _ g5 g3 g4 (vS g1) (vS g2) z5 λc o x =>
  Vz _ (Vz _ (Vz _ (Vz _ (Vz _ x))))]
end
end PyZ
namespace L2
open PySem PySem.Spec PyZ
open PyProof.Rows hiding St
def Tn(K:Frag)(t1 t2:Bool)(a b:AT):It :=
 #[λi H=>∃ xs ys x y,(yz K t1 H a xs/\yz K t2 H b ys)/\xs[i]?=some x/\ys[i]?=some y,
  λi H x H'=>∃ p,H p=none/\x=.ref p/\∀ xs ys,yz K t1 H a xs->yz K t2 H b ys->∃ u v,xs[i]?=some u/\ys[i]?=some v/\H'=upd H p (.tup [u,v]),
  λi H=>∃ xs ys,(yz K t1 H a xs/\yz K t2 H b ys)/\min xs.length ys.length<=i]
section
variable{P:Fk}{w:FB}{K:Frag}
theorem ju{X:Cx}{TD:Yc}{σ:St}{H:Hp}{s:Cl}{a:AT}{t:Bool}{xs:!V}(I:Inv X TD σ H s)(h:yz X.K t H a xs):∃ its:!AC,Vals xs its/\k8 t s.heap a its.toArray/\xs.length<=Ev:=by
 cases t with
 | true =>
  let(its,r,p,hz):=I.tuple (show ir X.K H a xs from h);exact#[its,r,p,hz]
 | false =>
  let(its,r,p,hz):=I.list (show eM X.K H a xs from h);exact#[its,r,p.isList,hz]
structure IS(t1 t2:Bool)(z TI TO i1 i2 a b:AT)(i:Nat)(h:Db):Prop where
 zip:IsZip h z TI TO .none
 ins:IN h TI (.ref i1) (.ref i2)
 out:∃ u v,IN h TO u v
 e1:iG t1 h i1 a i
 e2:iG t2 h i2 b i
theorem B2(t1 t2:Bool){elts:!Ch}{k:Nat}{mV:Pos}{z TI TO i1 i2 a b:AT}(Y:Apart z TI TO i1 i2 [i1,a] [i2,b])(ha:a≠i1)(hb:b≠i2):Turn P w K (.Tuple elts k mV) (Tn K t1 t2 a b) [z,TI,TO,i1,i2] z (IS t1 t2 z TI TO i1 i2 a b) where
 mem:=by simp
 obj:=λi h st c hc=>by
  simp only[List.mem_cons,List.not_mem_nil,or_false] at hc;rcases hc with rfl | rfl | rfl | rfl | rfl
  .exact#[_,st.zip,λv q=>by
    have q':Data.fields _=Data.cell v:=q;cases q']
  .exact#[_,st.ins,λv q=>by
    have q':Data.seq _ _=Data.cell v:=q;cases q']
  .let(u,v,e):=st.out;exact#[_,e,λv q=>by
    have q':Data.seq _ _=Data.cell v:=q;cases q']
  .exact st.e1.obj
  .exact st.e2.obj
 keep:=λi h h' st kk=>#[kk z (by simp) _ st.zip,kk TI (by simp) _ st.ins,let #[u,v,e]:=st.out;#[u,v,kk TO (by simp) _ e],st.e1.at λo x=>kk i1 (by simp) o x,st.e2.at λo x=>kk i2 (by simp) o x]
 item:=by
  intro X hP hw hK hc i TD s σ H E I hf st hg;subst hP hw hK;let(xs,ys,x,y,(hx,hy),ex,ey):=hg;let(eR,r1,p1,_):=ju I hx;let(dM,r2,p2,_):=ju I hy;let(u,hu,ru):=r1.get ex;let(v,hv,rv):=r2.get ey;have hd:(X.A.in1).handled=none:=I.ok.hd hc;show zL Y (jR t1 hd i1 a ha eR.toArray) (jR t2 hd i2 b hb dM.toArray) #[st.zip,st.ins,st.out,#[st.e1,p1],#[st.e2,p2]] ?_ ?_ λu' v' h' tk pu pv Z pT hsz hk=>?_
  .have:=(VC.mp hu).1;simpa using this
  .have:=(VC.mp hv).1;simpa using this
  have e1:u'=u:=by
   have q:eR[i]?=some u':=by simpa using pu
   rw[hu] at q;exact (V5 q).symm
  have e2:v'=v:=by
   have q:dM[i]?=some v':=by simpa using pv
   rw[hv] at q;exact (V5 q).symm
  subst e1;subst e2;show#[_,U,wpAny_letOwnedTupleGo_zip (s:={ s with heap:=h',toks:=tk }) Z.zip λh2 z2 s2=>?_];have hzlt:z < ↑s:=VL st.zip;have keep:∀ c o,c∉[z,TI,TO,i1,i2]->s.heap.get? c=some o->h2.get? c=some o:=λc o hc q=>by
   simp only[List.mem_cons,List.not_mem_nil,or_false,not_or] at hc;exact s2.extBut _ _ hc.1 (hk c o hc.1 hc.2.2.1 hc.2.2.2.1 hc.2.2.2.2 q)
  have hfr:H ↑s=none:=I.aZ.fresh (VB _);have I1:Inv X TD σ (upd H ↑s (.tup [x,y])) { s with heap:=h2,toks:=tk } :=
   Inv.uS I keep hf (VB _) #[by change 2<=Ev;decide,[u',v'],.cons ru (.cons rv .nil),#[_,s2.extBut _ _ (W7 hzlt) pT,U,_,U]]
  show#[.ref ↑s,_,I1,U,#[↑s,hfr,U,λzs ws q1 q2=>#[x,y,?_,?_,U]],#[z2,s2.extBut _ _ Y.TIz Z.ins,let #[p,q,e]:=Z.out;#[p,q,s2.extBut _ _ Y.TOz e],Z.LN.1.at λo e=>s2.extBut _ _ Y.i1z e,Z.HK.1.at λo e=>s2.extBut _ _ Y.i2z e],λc hc=>?_]
  .rw[Aa I hx q1];exact ex
  .rw[Aa I hy q2];exact ey
  .have jI:c < ↑s:=by
    simp only[List.mem_cons,List.not_mem_nil,or_false] at hc;rcases hc with rfl | rfl | rfl | rfl | rfl
    .exact hzlt
    .exact VL st.ins
    .let(_,_,e):=st.out;exact VL e
    .let(o,e,_):=st.e1.obj;exact VL e
    .let(o,e,_):=st.e2.obj;exact VL e
   rw[aw (VW jI)];exact (hf c hc).1
 done:=by
  intro X hP hw hK hc i TD s σ H E I hf st hg;subst hP hw hK;let(xs,ys,(hx,hy),hm):=hg;let(eR,r1,p1,_):=ju I hx;let(dM,r2,p2,_):=ju I hy;have l1:=r1.length;have l2:=r2.length;have hd:(X.A.in1).handled=none:=I.ok.hd hc;show Cu Y (jR t1 hd i1 a ha eR.toArray) (jR t2 hd i2 b hb dM.toArray) #[st.zip,st.ins,st.out,#[st.e1,p1],#[st.e2,p2]] ?_ λh' tk hk=>#[U,Inv.oS (t':=tk) I (λc o hc q=>?_) hf]
  .by_cases h1:i < eR.length
   .exact .inr #[by simpa using h1,u4 t2 hd (by simp;cbv)]
   .exact .inl (u4 t1 hd (by simp;cbv))
  .simp only[List.mem_cons,List.not_mem_nil,or_false,not_or] at hc;exact hk c o hc.1 hc.2.2.1 hc.2.2.2.1 hc.2.2.2.2 q
 self:=λ_ _ _ _ _ st h=>wpAny_pyIter_zip st.zip h
end
section
variable{X:Cx}
theorem k8.lt{t:Bool}{h:Db}{l:AT}{xs:Array AC}(x:k8 t h l xs):l < h.objs.size:=by
 cases t with
 | true =>
  let(o,e,_):=(show h.IsTuple l xs from x);exact VL e
 | false =>
  let(o,e,_):=(show h.IsList l xs from x);exact VL e
theorem apart_new{n l1 l2:Nat}(h1:l1 < n)(h2:l2 < n):Apart (n+4) (n+2) (n+3) n (n+1) [n,l1] [n+1,l2]:=by
 have ne:∀ (a b:Nat),¬ a=b->¬ ((n+a:Nat):AT)=(n+b:Nat):=λa b h e=>h (Nat.add_left_cancel (show n+a=n+b from e));have nl:∀ {l:Nat} (a:Nat),l < n->¬ ((n+a:Nat):AT)=l:=λ{l} a h e=>WL l (VZ h (VF (Wz n a) (Xq e)));have two:∀ {x a b:AT},¬ x=a->¬ x=b->x∉[a,b]:=λh k z=>(VG.mp z).elim h λz=>k (VH.mp z);exact#[ne 2 4 (),ne 3 4 (),ne 0 4 (),ne 1 4 (),ne 2 3 (),ne 2 0 (),ne 2 1 (),ne 3 0 (),ne 3 1 (),two (ne 4 0 ()) (nl 4 h1),two (ne 4 1 ()) (nl 4 h2),two (ne 3 0 ()) (nl 3 h1),two (ne 3 1 ()) (nl 3 h2),two (ne 1 0 ()) (nl 1 h1),two (ne 0 1 ()) (nl 0 h2)]
def Rh(K:Frag)(t:TA):TI:=λσ H R=>t σ H λvs H1=>∃ a b t1 t2 xs ys,vs=[.ref a,.ref b]/\(yz K t1 H1 a xs/\yz K t2 H1 b ys)/\(xs.length<=Ev->R (Tn K t1 t2 a b) H1)
theorem Jb{elts:!Ch}{k:Nat}{mV p pos:Pos}{a b:Ch}{t:TA}(hg:Gl X "zip")(hm:X.mg "zip"=none)(ha:PA X [a,b] t)(hs:(GE [a,b] X.env=[(false,eval a X.env),(false,eval b X.env)])⁻¹)(xc:(GE [b] X.env=[(false,eval b X.env)])⁻¹):PI X (.Tuple elts k mV) (.Call (.Name "zip" p) [a,b] [] pos) (Rh X.K t):=by
 intro TD s σ H R I h;show Call_ (g0 I hg hm (u:=.type "zip") (by decide+kernel) (PyProof.Rows.callWith_type1 (b3 (ha pos TD s σ H _ I h) λus s1 zz=>el2 zz λvs H1 I1 r1 q1=>?_) (by rw[hs,xc]) (by rw[xc];rfl)));let(l1,l2,t1,t2,xs,ys,e,(hx,hy),q):=q1;subst e;let(u,v,rfl,ru,rv):=Vals.two r1;cases ru;cases rv;let(eR,v1,p1,z1):=ju I1 hx;let(dM,v2,p2,z2):=ju I1 hy;have b1:=k8.lt p1;have b2:=k8.lt p2;show vC p1 p2 λh' hz hI hO e1 e2 hsz hk=>wpAny_pyIter_zip hz ?_;show#[↑s1+4,[↑s1+4,↑s1+2,↑s1+3,↑s1,↑s1+1],_,_,H1,U,I1.kept (t':=s1.toks) hk,
  B2 t1 t2 (apart_new b1 b2) (VW b1) (VW (Xo b2)),#[hz,hI,#[_,_,hO],e1,e2],λc hc=>?_,q z1]
 .have hle:↑s1<=c:=by
   simp only[List.mem_cons,List.not_mem_nil,or_false] at hc;rcases hc with e | e | e | e | e<;>(rw[e];first | exact VB _ | exact Wz _ _)
  exact I1.rB hle (I1.aZ.fresh hle)
end
end L2
namespace DL
open PySem PySem.Spec L2
open PyProof.Rows hiding St
section
variable{X:Cx}{c:Ent}
def ow(xs ys:!D):!D:=xs.zipWith (λx y=>.tup [x,y]) ys
def EZ:D->Option (!D)
 | .lst ds=>some ds
 | .tup ds=>some ds
 | _=>none
def MY(t:fW):fW:=λs Q=>t s λas s1=>∃ d e xs ys,as=[d,e]/\(EZ d=some xs/\EZ e=some ys)/\Q (ow xs ys) s1
theorem v9{xs ys:!D}:(ow xs ys).length=min xs.length ys.length:=by simp[ow]
theorem DK{xs ys:!D}{i:Nat}{d:D}(h:(ow xs ys)[i]?=some d):∃ x y,xs[i]?=some x/\ys[i]?=some y/\d=.tup [x,y]:=by
 unfold ow at h;rw[X4] at h;cases e:xs[i]? with
 | none=>rw[e] at h;cases h
 | some x =>
  cases e2:ys[i]? with
  | none=>rw[e,e2] at h;cases h
  | some y =>
   rw[e,e2] at h;cases h;exact#[x,y,U,U,U]
theorem oK{K:Frag}{M1:AT->Prop}{H1:Hp}{d:D}{xs:!D}{v:V}(h:EZ d=some xs)(r:Rep K H1 M1 d v):∃ a t vs,v=.ref a/\ay K H1 M1 xs vs/\∀ M2 H2,dW M1 H1 M2 H2->yz K t H2 a vs/\ay K H2 M2 xs vs:=by
 cases d with
 | lst ds =>
  cases h;let(a,vs,rfl,(m,e),r):=r;exact#[a,false,vs,U,r,λM2 H2 G=>#[eM.of ((G a m).2 _ e),G.vK r]]
 | tup ds =>
  cases h;let(a,vs,rfl,e,r):=r;exact#[a,true,vs,U,r,λM2 H2 G=>#[(e.mono (λb m=>(G b m).1) λb o m e=>(G b m).2 o e).sq,G.vK r]]
 | _=>cases h
theorem IV{elts:!Ch}{k:Nat}{mV p pos:Pos}{a b:Ch}{t:fW}(hg:Gl X "zip")(hm:X.mg "zip"=none)(ha:DA X c [a,b] t)(hs:(GE [a,b] X.env=[(false,eval a X.env),(false,eval b X.env)])⁻¹)(xc:(GE [b] X.env=[(false,eval b X.env)])⁻¹):DI X c (.Tuple elts k mV) (.Call (.Name "zip" p) [a,b] [] pos) (MY t) :=
 #[λTD s σ H R I zz=>dq zz λM s0 as R0 L q k=>Jb hg hm ha.pa hs xc TD s σ H R I
  #[M,s0,as,_,L,q,λads s1 z4r M1 H1 vs L1 E1 rv _=>by
   let(d,e,xs,ys,ead,(hd,he),q1):=z4r;subst ead;let(u,v,rfl,ru,rw):=v8 rv;let(a,t1,us,rfl,r1,g1):=oK hd ru;let(b,t2,ws,rfl,r2,g2):=oK he rw;have G0:dW M1 H1 M1 H1:=λb m=>#[m,λ_ h=>h];show#[a,b,t1,t2,us,ws,U,#[(g1 M1 H1 G0).1,(g2 M1 H1 G0).1],λhl=>k _ s1 q1 M1 H1 _ L1 E1 (λM2 H2 G=>?_) (by rw[v9,<- r1.length];cbv)];let(h1,y1):=g1 M2 H2 G;let(h2,y2):=g2 M2 H2 G;show#[λi hi=>#[us,ws,#[h1,h2],by rw[r1.length,r2.length];rw[v9] at hi;exact hi],λi d hd=>?_];let(x,y,ex,ey,rfl):=DK hd;let(v1,c1,c2):=y1.get ex;let(v2,c3,c4):=y2.get ey;show#[#[us,ws,v1,v2,#[h1,h2],c1,c3],λx H3 #[b,hb,ex,hx]=>.inr ?_];let(w1,w2,m1,m2,m3):=hx us ws h1 h2;rw[c1] at m1;rw[c3] at m2;cases m1;cases m2;subst m3;exact#[b,_,hb,U,b,_,ex,#[.inr U,aA],#[_,_,U,qG hb c2,_,_,U,qG hb c4,U]]]]
theorem aC.over{K:Frag}{c:Ent}{M:AT->Prop}{s:DS}{as:!AT}{σ:St}{H:Hp}{p:AT}{o:HO}{ys:!(Key×V)}(L:aC K c M s as σ H)(hq:H p=some (.dK ys))(n1:¬ M p)(n2:¬ c.g.own p)(n3:¬ d4 s as p)(n4:c.H0 p=none):aC K c M s as σ (upd H p o):=by
 have ne:∀ b,M b->b≠p:=λb m q=>n1 (q▸m);have ng:∀ b,c.g.own b->b≠p:=λb m q=>n2 (q▸m);have n0:∀ b u,c.H0 b=some u->b≠p:=λb u e q=>by rw[q,n4] at e;cases e
 show#[#[c.g.loc H _ L.base.qe λb u g e=>?_,λb u e g=>?_,λb m=>?_,L.base.mo,L.base.m0,L.base.mn],L.len,L.gr,λi d e=>?_,L.own,λk d a e1 e2=>?_,L.inj,L.lt]
 .rw[aw (g.elim (ng b) λ#[φ,f] z=>by subst f;rw[z,hq] at e;cases e)];exact e
 .rw[aw (n0 b u e)];exact L.base.fr b u e g
 .let(u,e):=L.base.md b m;exact#[u,by rw[aw (ne b m)];exact e]
 .let(v,h1,h2):=L.dat i d e;exact#[v,h1,Rep.mono (λ_ h=>h) (λb u m e=>by rw[aw (ne b m)];exact e) d v h2]
 .let((u,q,r),q1):=L.obj k d a e1 e2;show#[#[u,?_,cz.mono (λ_ h=>h) (λb u m e=>by rw[aw (ne b m)];exact e) r],q1];have na:a≠p:=λz=>n3 #[k,d,e1,z▸e2];rw[aw na];exact q
def xF:!(Str×aV)->fW
 | [],s,Q=>Q [] s
 | kt::r,s,Q=>kt.2 s λd s1=>xF r s1 λds s2=>Q (d::ds) s2
def Fn(K:Frag)(c:Ent)(kf:!(Str×aV)):!(TE×TE):=kf.map λkt=>(tC (.str kt.1),tE K c kt.2)
structure Qh(X:Cx)(c:Ent)(pos:Pos)(keys:!(Option Ch))(values:!Ch)(kf:!(Str×aV)):Prop where
 pp:N4 X pos keys values (Fn X.K c kf)
 kl:keys.length=kf.length
theorem Gy{pos:Pos}:Qh X c pos [] [] []:=#[yA,U]
theorem lW{pos pk:Pos}{k:Str}{j}{v:Ch}{ks:!(Option Ch)}{vs:!Ch}{te:aV}{kf:!(Str×aV)}(hv:DE X c v te)(hr:Qh X c pos ks vs kf):Qh X c pos (some (.Constant (.str k) j pk)::ks) (v::vs) ((k,te)::kf):=#[mB dA hv.pe hr.pp,by rw[VD,VD,hr.kl]]
def mi:!(Str×aV)->!V->!(Key×V)
 | kt::r,v::vs=>(.inr kt.1,v)::mi r vs
 | _,_=>[]
theorem we{σ:St}{as:!AT}:∀ (kf:!(Str×aV)) {M:AT->Prop} {s:DS} {H:Hp} {R:!D->DS->Prop} {Q:!(V×V)->Hp->Prop},aC X.K c M s as σ H->xF kf s R ->
  (∀ ds s',R ds s'->∀ M' H' vs,aC X.K c M' s' as σ H'->Ext c as M s H M' s' H'->ay X.K H' M' ds vs->ds.length=kf.length->Q ((mi kf vs).map λkv=>(kV kv.1,kv.2)) H')->pD (Fn X.K c kf) σ H Q
 | [],M,s,H,R,Q,L,q,k=>k [] s q M H [] L .refl U U
 | kt::r,M,s,H,R,Q,L,q,k=>by
  change tC (.str kt.1) σ H λx H1=>tE X.K c kt.2 σ H1 λy H2=>pD (Fn X.K c r) σ H2 λps H3=>Q ((x,y)::ps) H3;show#[M,s,as,_,L,q,λd s1 q1 M1 H1 v L1 E1 rv=>?_];show we r L1 q1 λds s2 q2 M2 H2 vs Lb E2 rvs hl=>?_;exact k (d::ds) s2 q2 M2 H2 (v::vs) Lb (E1.trans L1.base E2) #[v,vs,U,E2.rep L1 rv,rvs] (by rw[VD,VD,hl])
theorem nJ:∀ (more kvs:!(Key×V)),(∀ a∈kvs,∀ b∈more,a.1≠b.1)->(more.map (·.1)).Nodup->gZ kvs more=kvs++more
 | [],kvs,_,_=>by simp[gZ]
 | b::more,kvs,h,nd=>by
  rw[VE,WO] at nd;have hp:putK kvs b.1 b.2=kvs++[b]:=by
   unfold putK;rw[if_neg];intro q;let(a,m,e):=List.any_eq_true.mp q;exact h a m b Vx (of_decide_eq_true e)
  change gZ (putK kvs b.1 b.2) more=_;rw[hp,nJ more (kvs++[b]) (λa ha x hx=>?_) nd.2,VR]
  .rfl
  .rcases VM.mp ha with ha | ha
   .exact h a ha x (Vy _ hx)
   .rw[VH] at ha;subst ha;exact λe=>nd.1 (e▸VX hx)
theorem qY:∀ (kf:!(Str×aV)) (vs:!V),vs.length=kf.length->(mi kf vs).map (·.1)=kf.map λkt=>Sum.inr kt.1
 | [],[],_=>rfl
 | [],_::_,h=>by simp at h
 | _::_,[],h=>by simp at h
 | kt::r,v::vs,h=>by rw[mi,List.map_cons,List.map_cons,qY r vs (by simpa using h)]
theorem pq:∀ (kf:!(Str×aV)) (vs:!V),vs.length=kf.length->(mi kf vs).map (·.2)=vs
 | [],[],_=>rfl
 | [],_::_,h=>by simp at h
 | _::_,[],h=>by simp at h
 | kt::r,v::vs,h=>by rw[mi,List.map_cons,pq r vs (by simpa using h)]
def JY(kf:!(Str×aV)):aV:=λs Q=>xF kf s λds s1=>Q (.vv (kf.map λkt=>Sum.inr kt.1) ds) s1
theorem Jj{pos:Pos}{keys:!(Option Ch)}{values:!Ch}{kf:!(Str×aV)}(h:Qh X c pos keys values kf)(nd:(kf.map λkt=>(Sum.inr kt.1:Key)).Nodup)(DH:(keys.all (·.isSome)=true)⁻¹)(hl:(keys.length=values.length)⁻¹)(h0:keys≠[]:=by simp)(LY: ~~~(keys.length<=15)):DN X c (.Dict keys values pos) (JY kf) :=
 #[(zW h.pp DH hl h0 LY).imp λσ H Q z5q p hp=>by
   let(M,s,as,R,L,q,k):=z5q;let(n1,n2,n3,n4):=notM L hp;show we kf (L.laid (o:=.dK []) hp) q λds s1 q1 M1 H1 vs L1 E1 rvs hd=>?_;have e1:H1 p=some (.dK []):=E1.keep p _ aA n2 n3;have m1:¬ M1 p:=λm=>by
    rcases E1.new p m with z | (z | ⟨_,z⟩) | z
    .exact n1 z
    .rw[aA] at z;cases z
    .rw[aA] at z;cases z
    .exact n3 z
   have w1:¬ d4 s1 as p:=λz=>n3 (E1.jt p z);have hv:vs.length=kf.length:=by rw[rvs.length];exact hd
   have hk:=qY kf vs hv;show#[e1,mi kf vs,U,?_,?_]
   .have:=congrArg List.length hk;rw[Vv,Vv] at this;rw[this,<- h.kl];exact LY
   .rw[nJ _ [] (λa ha=>absurd ha (by simp)) (by rw[hk];exact nd),List.nil_append];have up:∀ b u,M1 b->H1 b=some u->upd H1 p (.dK (mi kf vs)) b=some u:=λb u m e=>by
     have hb:b≠p:=λq=>m1 (q▸m);rw[aw hb];exact e
    show k _ s1 q1 M1 _ p (.dK (mi kf vs)) (L1.over e1 m1 n2 w1 n4) ?_ aA #[hk,?_] m1 n2 w1 n4 (.inl hp)
    .refine#[E1.sub,λb m=>?_,λb u e g z=>?_,E1.jt]
     .rcases E1.new b m with z | (z | ⟨xs,z⟩) | z
      .exact .inl z
      .by_cases hb:b=p
       .exact .inr (.inl (.inl (hb▸hp)))
       .rw[aw hb] at z;exact .inr (.inl (.inl z))
      .by_cases hb:b=p
       .exact .inr (.inl (.inl (hb▸hp)))
       .rw[aw hb] at z;exact .inr (.inl (.inr #[xs,z]))
      .exact .inr (.inr z)
     .have hb:b≠p:=aF e hp;rw[aw hb];exact E1.keep b u (by rw[aw hb];exact e) g z
    .rw[pq kf vs hv];exact ay.mono (λ_ h=>h) up _ _ rvs]
end
end DL
namespace L2
open PySem PySem.Spec PyProof.Rows
section
variable{X:Cx}
theorem Ds(items:Array AC):slicePick items none none (some 1)=items:=by
 have hb:sliceBounds none none (some 1) items.size=(0,(items.size:Int),1):=by first | rfl | simp[sliceBounds]
 unfold slicePick;rw[hb];change ((sliceRange 0 (items.size:Int) 1).filterMap (items[·]?)).toArray=_;have hr:sliceRange 0 (items.size:Int) 1=List.range items.size:=by
  unfold sliceRange;simp only[show (1:Int) > 0 by decide,if_true];by_cases h:(items.size:Int) > 0
  .simp only[h,if_true];apply List.ext_getElem
   .simp
   .intro i h1 h2;simp
  .have e:items.size=0:=by cbv
   rw[e];simp
 rw[hr,PySem.W.krv_all]
def lJ(w:Int){α:Type}(xs:!α):!α:=if w=1 then xs else xs.reverse
def LA(K:Frag)(te tw:TE):TE:=λσ H Q=>te σ H λx H1=>tw σ H1 λy H2=>∃ a xs w,x=.ref a/\y=.int w/\(w=1\/w=-1)/\eM K H2 a xs/\∀ l,H2 l=none->Q (.ref l) (upd H2 l (.lst (lJ w xs)))
theorem Ce{e st:Ch}{te tw:TE}{p2 pos:Pos}(he:PE X e te)(n5:PE X st tw):PE X (.Subscript e (.Slice none none (some st) p2) pos) (LA X.K te tw):=by
 intro TD s σ H Q I h;show Subscript_ (b3 (he TD s σ H _ I h) λv s1 z3q=>?_);let(x,H1,I1,r1,q1):=z3q;show wpAny_Slice ?_;rw[evalPart_none];show EQ ?_;show EQ ?_;rw[evalPart_some];show b3 (n5 TD s1 σ H1 _ I1 q1) λu s2 z4q=>?_;let(y,H2,I2,r2,a,xs,w,ex,ey,hw,hq,q):=z4q;subst ex ey;cases r1;let(t,rfl):=r2;let(its,r,ht,hz):=I2.list hq;have hlen:=r.length;have I3:Inv X TD σ H2 { s2 with heap:=s2.heap.push { cls:=.type "slice",data:=.fields #v[.none,.none,.int w t] } }:=I2.kept (t':=s2.toks) λb ob q=>Vz _ q;change Da (model X.prog X.w) X.A (subscriptTail e (.Slice none none (some st) p2) (.ref a) (.ref ↑s2)) (EP X TD σ Q) X.xe { s2 with heap:=s2.heap.push { cls:=.type "slice",data:=.fields #v[.none,.none,.int w t] } };show tail_any (ops:=[.ref a,.ref ↑s2]) (ht.isList.push _).typeIs slot_list_getitem.lookup ?_ (by with_unfolding_all rfl);have hw0:(some w:Option Int)≠some 0:=by rcases hw with rfl | rfl<;>decide
 show wpAny_getItem_list_slice (ht.isList.push _) (Db.IsSliceOf.new ..) .none .none (.int w t) hw0 ?_ (by rw[VQ];cbv);rcases hw with rfl | rfl
 .rw[Ds];show#[.ref _,_,I3.laid (t':=s2.toks) (o:=.lst xs) (λb ob q=>Vz _ q) (VB _) ?_,U,q _ (I3.aZ.fresh (VB _))];exact#[hz,its,0,r,VP _ U]
 .rw[PySem.W.krv_pick];show#[.ref _,_,I3.laid (t':=s2.toks) (o:=.lst xs.reverse) (λb ob q=>Vz _ q) (VB _) ?_,U,q _ (I3.aZ.fresh (VB _))];exact#[by rw[List.length_reverse];exact hz,_,0,by simpa using r.reverse,Db.get?_push_size _ U]
end
end L2
namespace DL
open PySem PySem.Spec L2
open PyProof.Rows hiding St
section
variable{X:Cx}{c:Ent}
def Q4:D->D->(D->Prop)->Prop:=λa b k=>∃ ds w,a=.lst ds/\b=.int w/\(w=1\/w=-1)/\k (.lst (lJ w ds))
def QG(C:D->D->(D->Prop)->Prop)(ta tb:aV):aV:=λs Q=>ta s λa s1=>tb s1 λb s2=>C a b λd=>Q d s2
theorem Ig{e st:Ch}{te tw:aV}{p2 pos:Pos}(he:DE X c e te)(n5:DE X c st tw):DN X c (.Subscript e (.Slice none none (some st) p2) pos) (QG Q4 te tw):=#[(Ce he.pe n5.pe).imp λσ H Q zz=>dq zz λM s as R L q k =>
 #[M,s,as,_,L,q,λd s1 q1 M1 H1 v L1 E1 rv=>#[M1,s1,as,_,L1,q1,λd2 s2 z5r M2 H2 v2 Lb E2 rv2=>by
  let(ds,w,e,e2,hw,q2):=z5r;subst e e2;let(p,xs,rfl,(m,t),r):=E2.rep L1 rv;show#[p,xs,w,U,rv2,hw,.of t,λb hb=>gU (d:=.lst _) L Lb (E1.trans L1.base E2) hb ?_ (k _ s2 q2)];change ay _ _ _ (lJ w ds) (lJ w xs);unfold lJ;split
  .exact r
  .exact r.reverse]]]
end
end DL
namespace PySem.F
theorem Eo:typeLookup (.type "zip") "__len__"=pure none:=by rw[typeLookup_type,builtinLookup_eq_fast];kernel_rfl
theorem A4:typeLookup (.type "zip") "__length_hint__"=pure none:=by rw[typeLookup_type,builtinLookup_eq_fast];kernel_rfl
end PySem.F
namespace PyZ
open PySem Sem
section
variable{prog:Fk}{w:FB}{A:Fr}{E:Yb}{s:Cl}{z TI TO i1 i2:AT}{f1 f2:!AT}{n1 n2:Nat}{P1 P2:Nat->AC->Prop}{S1 S2:Nat->Db->Prop}
theorem JQ{M:Model}{a:AT}{Q:Option Obj->Cl->Prop}(h:Q (s.heap.get? a) s):Da M A (loadIfAlive a) Q E s:=λΓ p _=>by
 change wp M Γ (.loadIfAlive a .pure) _ _ p s;rw[wp_loadIfAlive];exact h
def rO(f0:AC)(b:Bool)(TI TO:AT):Obj:={ cls:=.type "zip",dict:=none,data:=.fields #v[f0,.bool b,.bool false,.ref TI,.ref TO],slots:=#v[] }
theorem yV{T:AT}{oT:Obj}{b:Bool}{Q:Bool->Cl->Prop}(hz:s.heap.get? z=some (rO (IR T) b TI TO))(hT:s.heap.get? T=some oT)(hQ:∀ h',h'.get? z=some (rO (IR T) true TI TO)->Db.SameBut z s.heap h'->Q false { s with heap:=h' }):Da (model prog w) A (FM.SmallTypes.ownedTupleIsFree (.ref z)) Q E s:=by
 unfold FM.SmallTypes.ownedTupleIsFree;show BT (KF hz U (x:=IR T) U ?_);change Da _ _ (loadIfAlive ((T:Nat):Int).toNat >>= _) _ _ _;rw[W4];show BT (JQ ?_);rw[hT];change Da _ _ (field (.ref z) 1 >>= _) _ _ _;show BT (KF hz U (x:=.bool b) U ?_);cases b with
 | false =>
  change Da _ _ (setField (.ref z) 1 (.bool true) >>= λ_=>Pure.pure false) _ _ _;exact BT (wpAny_setField_rec hz (by simp) λh' hz' hs=>EQ (hQ h' hz' hs))
 | true=>exact EQ (hQ s.heap hz #[U,λ_ _=>rfl])
theorem AB{k:Nat}{T:AT}{oT:Obj}{b:Bool}{Q:Yb}(X:Apart z TI TO i1 i2 f1 f2)(D1:Draws prog w A i1 f1 n1 P1 S1)(D2:Draws prog w A i2 f2 n2 P2 S2)(hz:s.heap.get? z=some (rO (IR T) b TI TO))(hT:s.heap.get? T=some oT)(hI:IN s.heap TI (.ref i1) (.ref i2))(t1:S1 k s.heap)(t2:S2 k s.heap)(h1:k < n1)(h2:k < n2)(hQ:∀ x y h' tk,P1 k x->P2 k y->h'.get? z=some (rO (IR T) true TI TO)->S1 (k+1) h'->S2 (k+1) h'->IN h' ↑s x y->h'.objs.size=↑s+1 ->
   (∀ c o,c≠z->c≠i1->c≠i2->s.heap.get? c=some o->h'.get? c=some o)->Q (.ref ↑s) { s with heap:=h',toks:=tk }) :
  Da (model prog w) A (FM.«zip.__next__» #[[.ref z],[]]) (λfin s'=>∃ v,fin=.done (.ret v)/\Q v s') E s:=by
 change Da _ _ (field (.ref z) 2 >>= _) _ _ _;show BT (KF hz U (x:=.bool false) U ?_);change Da _ _ (field (.ref z) 3 >>= _) _ _ _;show BT (KF hz U (x:=.ref TI) U (BT (PP hI U ?_)));change Da _ _ (FM.SmallTypes.ownedTupleIsFree (.ref z) >>= _) _ _ _;show BT (yV hz hT λha za sa=>?_);simp only[Bool.false_eq_true,if_false];show BT ?_;simp only[<- Array.forIn_toList,List.forIn_cons,List.forIn_nil];show BT (BT (KK ?_));change Da _ _ (FM.SmallTypes.nextOf (.ref i1) >>= _) _ _ _;show BT (D1.item k _ _ _ h1 (but D1 sa X.z1 t1) λx hb tk1 px t1b sb=>EQ (EQ ?_));show BT (BT (KK ?_));change Da _ _ (FM.SmallTypes.nextOf (.ref i2) >>= _) _ _ _;show BT (D2.item k _ _ _ h2 (but D2 sb X.a2 (but D2 sa X.z2 t2)) λy hc tk2 py t2c sc=>EQ (EQ (EQ ?_)));show BT (wpAny_newTuple (hsz:=(show 2<=Ev by decide)) (EQ #[_,U,?_]));have hsz:hc.objs.size=↑s:=by rw[sc.1,sb.1,sa.1]
 rw[hsz];have up:∀ c o,c≠z->c≠i1->c≠i2->s.heap.get? c=some o->(hc.push { cls:=.type "tuple",data:=.seq #v[x,y] }).get? c=some o:=λc o c1 c2 c3 e=>Vz _ (sc.extBut _ _ c3 (sb.extBut _ _ c2 (sa.extBut _ _ c1 e)));show hQ x y _ _ px py (Vz _ (sc.extBut _ _ X.i2z.symm (sb.extBut _ _ X.i1z.symm za))) ?_ ?_ (hsz▸VP _ U) (by rw[Wl,hsz]) up
 .exact D1.frame _ _ _ (but D1 sc X.a1 t1b) λq hq o e=>Vz _ e
 .exact D2.frame _ _ _ t2c λq hq o e=>Vz _ e
theorem Dc{k:Nat}{T:AT}{oT:Obj}{b:Bool}{Q:PySem.Fin->Cl->Prop}(X:Apart z TI TO i1 i2 f1 f2)(D1:Draws prog w A i1 f1 n1 P1 S1)(D2:Draws prog w A i2 f2 n2 P2 S2)(hz:s.heap.get? z=some (rO (IR T) b TI TO))(hT:s.heap.get? T=some oT)(hI:IN s.heap TI (.ref i1) (.ref i2))(t1:S1 k s.heap)(t2:S2 k s.heap)(hk:Ends prog w A i1 (S1 k)\/(k < n1/\Ends prog w A i2 (S2 k)))(hE:∀ h' e tk,(∀ c o,c≠z->c≠i1->c≠i2->s.heap.get? c=some o->h'.get? c=some o)->(∃ o,h'.get? e=some o/\o.cls=.type "StopIteration")->E (.ref e) { s with heap:=h',toks:=tk }) :
  Da (model prog w) A (FM.«zip.__next__» #[[.ref z],[]]) Q E s:=by
 change Da _ _ (field (.ref z) 2 >>= _) _ _ _;show BT (KF hz U (x:=.bool false) U ?_);change Da _ _ (field (.ref z) 3 >>= _) _ _ _;show BT (KF hz U (x:=.ref TI) U (BT (PP hI U ?_)));change Da _ _ (FM.SmallTypes.ownedTupleIsFree (.ref z) >>= _) _ _ _;show BT (yV hz hT λha za sa=>?_);simp only[Bool.false_eq_true,if_false];show BT ?_;simp only[<- Array.forIn_toList,List.forIn_cons,List.forIn_nil];show BT (BT (KK ?_));change Da _ _ (FM.SmallTypes.nextOf (.ref i1) >>= _) _ _ _;rcases hk with d1 | ⟨h1,d2⟩
 .refine BT (d1 _ _ _ (but D1 sa X.z1 t1) λhb e sb he=>?_);exact hE hb e _ (λc o c1 c2 c3 x=>sb _ _ c2 (sa.extBut _ _ c1 x)) he
 .refine BT (D1.item k _ _ _ h1 (but D1 sa X.z1 t1) λx hb tk1 px t1b sb=>EQ (EQ ?_));show BT (BT (KK ?_));change Da _ _ (FM.SmallTypes.nextOf (.ref i2) >>= _) _ _ _;show BT (d2 _ _ _ (but D2 sb X.a2 (but D2 sa X.z2 t2)) λhc e sc he=>?_);exact hE hc e _ (λc o c1 c2 c3 x=>sc _ _ c3 (sb.extBut _ _ c2 (sa.extBut _ _ c1 x))) he
theorem G3{k:Nat}{T:AT}{oT:Obj}{b:Bool}{Q:Option AC->Cl->Prop}(X:Apart z TI TO i1 i2 f1 f2)(D1:Draws prog w A.in1 i1 f1 n1 P1 S1)(D2:Draws prog w A.in1 i2 f2 n2 P2 S2)(hz:s.heap.get? z=some (rO (IR T) b TI TO))(hT:s.heap.get? T=some oT)(hI:IN s.heap TI (.ref i1) (.ref i2))(t1:S1 k s.heap)(t2:S2 k s.heap)(h1:k < n1)(h2:k < n2)(hQ:∀ x y h' tk,P1 k x->P2 k y->h'.get? z=some (rO (IR T) true TI TO)->S1 (k+1) h'->S2 (k+1) h'->IN h' ↑s x y->h'.objs.size=↑s+1 ->
   (∀ c o,c≠z->c≠i1->c≠i2->s.heap.get? c=some o->h'.get? c=some o)->Q (some (.ref ↑s)) { s with heap:=h',toks:=tk }):Da (model prog w) A (pyNext (.ref z)) Q E s:=by
 have hT2:s.TypeIs (.ref z) "zip":=#[_,hz,U];unfold pyNext;exact BT (wpAny_attempt (wpAny_callSpecial?_slot (name:=Str.ofString "__next__") hT2 F.slot_zip_next
  (Ps F.slot_zip_next hT2 F.entry_zip_next (AB X D1 D2 hz hT hI t1 t2 h1 h2 λx y h' tk a1 a2 a3 a4 a5 a6 a7 a8=>EQ (hQ x y h' tk a1 a2 a3 a4 a5 a6 a7 a8)) (F.args_zip_next_1 _))))
theorem wt{k:Nat}{T:AT}{oT:Obj}{b:Bool}{Q:Option AC->Cl->Prop}(X:Apart z TI TO i1 i2 f1 f2)(D1:Draws prog w A.in1 i1 f1 n1 P1 S1)(D2:Draws prog w A.in1 i2 f2 n2 P2 S2)(hz:s.heap.get? z=some (rO (IR T) b TI TO))(hT:s.heap.get? T=some oT)(hI:IN s.heap TI (.ref i1) (.ref i2))(t1:S1 k s.heap)(t2:S2 k s.heap)(hk:Ends prog w A.in1 i1 (S1 k)\/(k < n1/\Ends prog w A.in1 i2 (S2 k)))(hQ:∀ h' tk,(∀ c o,c≠z->c≠i1->c≠i2->s.heap.get? c=some o->h'.get? c=some o)->Q none { s with heap:=h',toks:=tk }):Da (model prog w) A (pyNext (.ref z)) Q E s:=by
 have hT2:s.TypeIs (.ref z) "zip":=#[_,hz,U];unfold pyNext;show BT (wpAny_attempt (wpAny_callSpecial?_slot (name:=Str.ofString "__next__") hT2 F.slot_zip_next
  (Ps F.slot_zip_next hT2 F.entry_zip_next (Dc X D1 D2 hz hT hI t1 t2 hk λh' e tk kk he=>?_) (F.args_zip_next_1 _))))
 let(o,ho,hc):=he;show BT (wpAny_isInstance (T:="StopIteration") (b:=true) #[o,ho,hc] isSubtype_stop ?_);exact EQ (hQ _ _ kk)
end
end PyZ
namespace L2
open PySem PySem.Spec PyZ
open PyProof.Rows hiding St
def o8:Hp->!(V×V)->Hp->!AT->Prop
 | H,[],H',ps=>H'=H/\ps=[]
 | H,(u,v)::r,H',ps=>∃ p qs,H p=none/\ps=p::qs/\o8 (upd H p (.tup [u,v])) r H' qs
section
variable{X:Cx}{TD:Yc}{σ:St}
structure ZS(t1 t2:Bool)(z TI TO i1 i2 a b S:AT)(eR dM:Array AC)(k:Nat)(H:Hp)(h:Db)(acc:Array AC)(c:Nat):Prop where
 zip:IsZip h z TI TO .none\/∃ (T:AT) (tv:!V) (b':Bool),h.get? z=some (rO (IR T) b' TI TO)/\H T=some (.tup tv)
 ins:IN h TI (.ref i1) (.ref i2)
 out:∃ u v,IN h TO u v
 e1:iG t1 h i1 a k/\k8 t1 h a eR
 e2:iG t2 h i2 b k/\k8 t2 h b dM
 lst:h.get? S=some { cls:=.type "list",dict:=none,data:=.seq acc c,slots:=#v[] }
theorem sI{xs:!V}{its:!AC}{k:Nat}{u:V}(h:Vals (u::xs) (its.drop k)):∃ v,its[k]?=some v/\RelV u v/\Vals xs (its.drop (k+1)):=by
 cases e:its.drop k with
 | nil=>rw[e] at h;cases h
 | cons v r =>
  rw[e] at h;cases h with
  | cons h1 h2 =>
  show#[v,?_,h1,?_]
  .have:=congrArg (λl=>l[0]?) e;simpa using this
  .rw[<- List.drop_drop (i:=1) (j:=k),e];exact h2
theorem kz{its:!AC}{k:Nat}(h:Vals [] (its.drop k)):its.length<=k:=by
 cases e:its.drop k with
 | nil=>simpa using e
 | cons v r=>rw[e] at h;cases h
theorem CT(hc:X.calm=true){A:Fr}(hh:A.in1.in1.handled=none){t1 t2:Bool}{z TI TO i1 i2 a b S:AT}(Y:Apart z TI TO i1 i2 [i1,a] [i2,b])(ha:a≠i1)(hb:b≠i2)(hS:S∉[z,TI,TO,i1,i2])(Ut:a≠S)(Uw:b≠S)(ho:a∉[z,TI,TO,i1,i2]/\b∉[z,TI,TO,i1,i2]){eR dM:!AC}{res:AC}{R:Result->Cl->Prop}(Sj:eR.length<=Ev):∀ (xs ys:!V) (k:Nat) (s:Cl) (H:Hp) (acc:Array AC) (c:Nat),
  Vals xs (eR.drop k)->Vals ys (dM.drop k)->acc.size=k->k<=eR.length->Inv X TD σ H s->(∀ q∈[z,TI,TO,i1,i2,S],fX X TD H q)->ZS t1 t2 z TI TO i1 i2 a b S eR.toArray dM.toArray k H s.heap acc c ->
  (∀ s' H' qs acc' c',Inv X TD σ H' s'->(∀ q∈[z,TI,TO,i1,i2,S],fX X TD H' q)->s'.heap.get? S=some { cls:=.type "list",dict:=none,data:=.seq acc' c',slots:=#v[] }->acc'.toList=acc.toList++qs.map AC.ref->acc'.size<=Ev->o8 H (xs.zip ys) H' qs->R (.ok (.ret res)) s') ->
  codeAny (model X.prog X.w) A (.builtin "list.extend.loop" #[[.ref S,.ref z,res],[]]) R s:=by
 have nS:∀ {q:AT},q∈[z,TI,TO,i1,i2]->q≠S:=λhq e=>hS (e▸hq);have D1:=jR (prog:=X.prog) (w:=X.w) t1 hh i1 a ha eR.toArray;have D2:=jR (prog:=X.prog) (w:=X.w) t2 hh i2 b hb dM.toArray;have fin:∀ (xs ys:!V) (k:Nat) (s:Cl) (H:Hp) (acc:Array AC) (c:Nat),xs.zip ys=[]->(PyZ.Ends X.prog X.w A.in1.in1 i1 (λh=>iG t1 h i1 a k/\k8 t1 h a eR.toArray)\/(k < eR.toArray.size/\PyZ.Ends X.prog X.w A.in1.in1 i2 (λh=>iG t2 h i2 b k/\k8 t2 h b dM.toArray)))->acc.size=k->k<=eR.length->Inv X TD σ H s->(∀ q∈[z,TI,TO,i1,i2,S],fX X TD H q)->ZS t1 t2 z TI TO i1 i2 a b S eR.toArray dM.toArray k H s.heap acc c ->
  (∀ s' H' qs acc' c',Inv X TD σ H' s'->(∀ q∈[z,TI,TO,i1,i2,S],fX X TD H' q)->s'.heap.get? S=some { cls:=.type "list",dict:=none,data:=.seq acc' c',slots:=#v[] }->acc'.toList=acc.toList++qs.map AC.ref->acc'.size<=Ev->o8 H (xs.zip ys) H' qs->R (.ok (.ret res)) s') ->
  codeAny (model X.prog X.w) A (.builtin "list.extend.loop" #[[.ref S,.ref z,res],[]]) R s:=by
  intro xs ys k s H acc c he hk hacc hkl I hf Z hR;show codeAny_builtin F.entry_extend_loop ?_;rw[Fr.under_plainId F.plain_extend_loop _];change Da _ A.in1 (pyNext (.ref z) >>= _) _ _ s;have done:∀ h' tk,(∀ c o,c≠z->c≠TO->c≠i1->c≠i2->s.heap.get? c=some o->h'.get? c=some o)->R (.ok (.ret res)) { s with heap:=h',toks:=tk }:=λh' tk kk=>by
   show hR _ H [] acc c (Inv.oS I (λb o hb e=>?_) hf) hf ?_ (by simp) (by cbv) (by rw[he];exact#[U,U])
   .simp only[List.mem_cons,List.not_mem_nil,or_false,not_or] at hb;exact kk b o hb.1 hb.2.2.1 hb.2.2.2.1 hb.2.2.2.2.1 e
   .exact kk S _ (λe=>hS (by simp[e])) (λe=>hS (by simp[e])) (λe=>hS (by simp[e])) (λe=>hS (by simp[e])) Z.lst
  rcases Z.zip with hz | ⟨T,tv,b',hz,hT⟩
  .exact BT (Cu Y D1 D2 #[hz,Z.ins,Z.out,Z.e1,Z.e2] hk λh' tk kk=>EQ (done h' tk kk))
  .let(_,its,_,oT,eT,_):=(show b6 X.prog X.w H s.heap T (.tup tv) from I.aZ T _ hT);exact BT (wt Y D1 D2 hz eT Z.ins Z.e1 Z.e2 hk λh' tk kk=>EQ (done h' tk λc o c1 _ c3 c4 e=>kk c o c1 c3 c4 e))
 intro xs
 induction xs with
 | nil =>
  intro ys k s H acc c v1 v2 hacc hkl I hf Z hR;exact fin [] ys k s H acc c U (.inl (u4 t1 hh (by rw[VQ];exact kz v1))) hacc hkl I hf Z hR
 | cons x xs ih =>
  intro ys k s H acc c v1 v2 hacc hkl I hf Z hR;let(u,hu,ru,v1'):=sI v1;have hk1:k < eR.length:=(VC.mp hu).1;cases ys with
  | nil=>exact fin (x::xs) [] k s H acc c U (.inr #[by simpa using hk1,u4 t2 hh (by rw[List.size_toArray];exact kz v2)]) hacc hkl I hf Z hR
  | cons y ys =>
  let(v,hv,rv,v2'):=sI v2;have hk2:k < dM.length:=(VC.mp hv).1;show codeAny_builtin F.entry_extend_loop ?_;rw[Fr.under_plainId F.plain_extend_loop _];change Da _ A.in1 (pyNext (.ref z) >>= _) _ _ s;have hfr:H ↑s=none:=I.aZ.fresh (VB _);have jI:∀ q∈[z,TI,TO,i1,i2,S],q < ↑s:=λq hq=>by
   simp only[List.mem_cons,List.not_mem_nil,or_false] at hq;rcases hq with rfl | rfl | rfl | rfl | rfl | rfl
   .rcases Z.zip with e | ⟨_,_,_,e,_⟩
    .exact VL e
    .exact VL e
   .exact VL Z.ins
   .let(_,_,e):=Z.out;exact VL e
   .let(o,e,_):=Z.e1.1.obj;exact VL e
   .let(o,e,_):=Z.e2.1.obj;exact VL e
   .exact VL Z.lst
  have cont:∀ (h':Db) (tk:Nat) (T:AT) (tv:!V) (b':Bool),upd H ↑s (.tup [x,y]) T=some (.tup tv)->h'.get? z=some (rO (IR T) b' TI TO)->IN h' TI (.ref i1) (.ref i2)->(∃ u v,IN h' TO u v)->(iG t1 h' i1 a (k+1)/\k8 t1 h' a eR.toArray)->(iG t2 h' i2 b (k+1)/\k8 t2 h' b dM.toArray)->IN h' ↑s u v->(∀ c o,c∉[z,TI,TO,i1,i2]->s.heap.get? c=some o->h'.get? c=some o) ->
    Da (model X.prog X.w) A.in1 (updateSeq S (·.push (AC.ref ↑s)) >>= λ_=>again (.builtin "list.extend.loop" #[[.ref S,.ref z,res],[]])) (λfin s'=>match fin with | .done f=>R (.ok f) s' | .again c'=>c'.quiet=true/\codeAny (model X.prog X.w) A c' R s') (λe s'=>R (.error e) s') { s with heap:=h',toks:=tk }:=by
   intro h' tk T tv b' hT hz hI hO q1 q2 hp kk;have I1:Inv X TD σ (upd H ↑s (.tup [x,y])) { s with heap:=h',toks:=tk } :=
    Inv.uS I (λb o hb e=>kk b o (λm=>hb (by simp only[List.mem_cons,List.not_mem_nil,or_false] at m ⊢;rcases m with m | m | m | m | m<;>simp[m])) e) hf (Nat.le_refl _) #[by change 2<=Ev;decide,[u,v],.cons ru (.cons rv .nil),#[_,hp,rfl,_,rfl]]
   have hf1:∀ q∈[z,TI,TO,i1,i2,S],fX X TD (upd H ↑s (.tup [x,y])) q:=λq hq=>by
    let(f0,fr):=hf q hq;exact#[by rw[aw (VW (jI q hq))];exact f0,fr]
   have hS':h'.get? S=some { cls:=.type "list",dict:=none,data:=.seq acc c,slots:=#v[] }:=kk S _ hS Z.lst;show BT (wpAny_updateSeq hS' U (EQ #[plainId_quiet F.plain_extend_loop _,?_]) (by cbv) (by change (acc.push _).size<=Ev+1;rw[Array.size_push];cbv));have oth:∀ q o,q≠S->h'.get? q=some o->(h'.update S (Obj.mapSeq (·.push (AC.ref ↑s)))).get? q=some o:=λq o hq e=>(Wq _ _ (Ne.symm hq)).trans e;have I2:Inv X TD σ (upd H ↑s (.tup [x,y])) { s with heap:=h'.update S (Obj.mapSeq (·.push (AC.ref ↑s))),toks:=tk } :=
    Inv.oS (s:={ s with heap:=h',toks:=tk }) I1 (λq o hq e=>oth q o (λe=>hq (by simp[e])) e) hf1
   obtain⟨c2,hc2⟩:∃ c2,(h'.update S (Obj.mapSeq (·.push (AC.ref ↑s)))).get? S=some { cls:=.type "list",dict:=none,data:=.seq (acc.push (AC.ref ↑s)) c2,slots:=#v[] }:=#[_,Wt _ hS' U];show ih ys (k+1) _ (upd H ↑s (.tup [x,y])) (acc.push (AC.ref ↑s)) c2 v1' v2' (by rw[Array.size_push,hacc]) hk1 I2 hf1 ?_ λs' H' qs acc' c' J1 J2 J3 J4 J5 J6=>?_
   .refine#[.inr #[T,tv,b',oth z _ (nS (by simp)) hz,hT],oth TI _ (nS (by simp)) hI,let #[p,q,e]:=hO;#[p,q,oth TO _ (nS (by simp)) e],#[q1.1.at λo e=>oth i1 o (nS (by simp)) e,q1.2.at λo e=>oth a o Ut e],#[q2.1.at λo e=>oth i2 o (nS (by simp)) e,q2.2.at λo e=>oth b o Uw e],?_];exact hc2
   .refine hR s' H' (↑s::qs) acc' c' J1 J2 J3 ?_ J5 #[_,qs,hfr,U,J6];rw[J4];simp
  rcases Z.zip with hz | ⟨T,tv,b',hz,hT⟩
  .refine BT (zL Y D1 D2 #[hz,Z.ins,Z.out,Z.e1,Z.e2] (by simpa using hk1) (by simpa using hk2) λu' v' h' tk pu pv Z' pT hsz kk=>?_);have e1:u'=u:=by
    have q:eR[k]?=some u':=by simpa using pu
    rw[hu] at q;exact (V5 q).symm
   have e2:v'=v:=by
    have q:dM[k]?=some v':=by simpa using pv
    rw[hv] at q;exact (V5 q).symm
   subst e1;subst e2;exact cont h' tk ↑s _ false aA Z'.zip Z'.ins Z'.out Z'.LN Z'.HK pT λc o hc e=>by
    simp only[List.mem_cons,List.not_mem_nil,or_false,not_or] at hc;exact kk c o hc.1 hc.2.2.1 hc.2.2.2.1 hc.2.2.2.2 e
  .let(_,its,_,oT,eT,_):=(show b6 X.prog X.w H s.heap T (.tup tv) from I.aZ T _ hT);show BT (G3 Y D1 D2 hz eT Z.ins Z.e1 Z.e2 (by simpa using hk1) (by simpa using hk2) λu' v' h' tk pu pv z' s1 s2 pT hsz kk=>?_);have e1:u'=u:=by
    have q:eR[k]?=some u':=by simpa using pu
    rw[hu] at q;exact (V5 q).symm
   have e2:v'=v:=by
    have q:dM[k]?=some v':=by simpa using pv
    rw[hv] at q;exact (V5 q).symm
   subst e1;subst e2;let(p,q,eO):=Z.out;show cont h' tk T tv true (by rw[aw (aF hT hfr)];exact hT) z' (kk TI _ Y.TIz Y.TIi1 Y.TIi2 Z.ins) #[p,q,kk TO _ Y.TOz Y.TOi1 Y.TOi2 eO] s1 s2 pT λc o hc e=>?_;simp only[List.mem_cons,List.not_mem_nil,or_false,not_or] at hc;exact kk c o hc.1 hc.2.2.2.1 hc.2.2.2.2 e
def EU(K:Frag)(t:TA):TE:=λσ H Q=>t σ H λvs H1=>∃ a b t1 t2 xs ys,vs=[.ref a,.ref b]/\(yz K t1 H1 a xs/\yz K t2 H1 b ys)/\∀ H2 qs l,o8 H1 (xs.zip ys) H2 qs->H2 l=none->Q (.ref l) (upd H2 l (.lst (qs.map V.ref)))
theorem sC:∀ qs:!AT,Vals (qs.map V.ref) (qs.map AC.ref)
 | []=>.nil
 | _::qs=>.cons U (sC qs)
theorem Inv.Py{s:Cl}{H:Hp}{S:AT}{o:HO}(I:Inv X TD σ H s)(f:fX X TD H S)(new:b6 X.prog X.w (upd H S o) s.heap S o):Inv X TD σ (upd H S o) s:=by
 let(f0,f1,f2,f3,f4,f5):=f;have up:∀ b u,H b=some u->upd H S o b=some u:=λb u e=>by rw[aw (aF e f0)];exact e
 show I.step (g':=s.gens) (d':=s.drawn) (t':=s.toks) (h':=s.heap) (ch:=[S]) (λb hb=>?_) (λb ob _ _ _ e _=>e) (λb ob _ _ _ e _=>#[ob.slots,e]) (λb ob hc _ n=>?_)
  (λb ob _ e=>#[ob,e]) (λb xs e=>up b _ e) (λb ob u e=>up b _ e) (λb ps e=>#[#v[],by rw[up b _ e];simp]) (λm hm=>hm) (λb u e=>?_) I.bare
 .rw[VH.mp hb];exact#[f3,f1,f4,f5]
 .rw[aw (λe=>hc (by rw[e];exact VH.mpr U))];exact n
 .by_cases hb:b=S
  .subst hb;rw[aA] at e;cases e;exact new
  .rw[aw hb] at e;exact (I.aZ b u e).wC (λ_ _ _ q=>q) (λ_ q=>up _ _ q) λ_ _ q=>up _ _ q
theorem Dd(hc:X.calm=true){s:Cl}{H:Hp}{z TI TO i1 i2 a b:AT}{t1 t2:Bool}(Y:Apart z TI TO i1 i2 [i1,a] [i2,b])(ha:a≠i1)(hb:b≠i2){eR dM:!AC}{xs ys:!V}(v1:Vals xs eR)(v2:Vals ys dM)(Sj:eR.length<=Ev)(I:Inv X TD σ H s)(hf:∀ q∈[z,TI,TO,i1,i2],fX X TD H q)(Z:IS t1 t2 z TI TO i1 i2 a b 0 s.heap)(p1:k8 t1 s.heap a eR.toArray)(p2:k8 t2 s.heap b dM.toArray)(ho:a∉[z,TI,TO,i1,i2]/\b∉[z,TI,TO,i1,i2]){Q:Yb}{E:Yb}(hQ:∀ s' H' qs l,o8 H (xs.zip ys) H' qs->H' l=none->Inv X TD σ (upd H' l (.lst (qs.map V.ref))) s'->Q (.ref l) s') :
  Da (model X.prog X.w) X.A (call (.type "list") [.ref z]) Q E s:=by
 have hzlt:z < ↑s:=VL Z.zip;have jI:∀ q∈[z,TI,TO,i1,i2],q < ↑s:=λq hq=>by
  simp only[List.mem_cons,List.not_mem_nil,or_false] at hq;rcases hq with rfl | rfl | rfl | rfl | rfl
  .exact hzlt
  .exact VL Z.ins
  .let(_,_,e):=Z.out;exact VL e
  .let(o,e,_):=Z.e1.obj;exact VL e
  .let(o,e,_):=Z.e2.obj;exact VL e
 have hS5:↑s∉[z,TI,TO,i1,i2]:=λm=>absurd (jI _ m) (WL _);show callType_codes (Q₁:=λobj s₁=>obj=.ref ↑s/\s₁={ s with heap:=s.heap.push { cls:=.type "list",data:=.seq #v[] } }) F.called_list (F.typeCall_list_1 _) F.entry_list_init
  (code_list_new _ #[U,U]) λobj s₁ h₁=>?_
 let(rfl,rfl):=h₁;have hL:(s.heap.push { cls:=.type "list",data:=.seq #v[] }).get? ↑s=some { cls:=.type "list",data:=.seq #v[] }:=VP _ U;show#[#[_,hL,U],F.args_list_init_2 _ _,?_];change Da _ _ (do let old <- FM.List.listItems (.ref ↑s);FM.List.listUpdate (.ref ↑s) (λ_=>#v[]);letGo old.toList.reverse;FM.List.listExtendWith (.ref ↑s) (.ref z) .none) _ _ _;show BT ?_;unfold FM.List.listItems;show BT (PP hL U (EQ ?_));change Da _ _ (updateSeq ↑s (λ_=>#v[]) >>= λ_=>letGo (#v[]:Array AC).toList.reverse >>= λ_=>FM.List.listExtendWith (.ref ↑s) (.ref z) .none) _ _ _;show BT (wpAny_updateSeq hL U ?_);obtain⟨c2,h2⟩:∃ c2,((s.heap.push { cls:=.type "list",data:=.seq #v[] }).update ↑s (Obj.mapSeq (λ_=>(#v[]:Array AC)))).get? ↑s=some { cls:=.type "list",dict:=none,data:=.seq #v[] c2,slots:=#v[] }:=#[_,Wt _ hL U];have oth:∀ b o,b≠↑s->s.heap.get? b=some o->((s.heap.push { cls:=.type "list",data:=.seq #v[] }).update ↑s (Obj.mapSeq (λ_=>(#v[]:Array AC)))).get? b=some o :=
  λb o hb e=>(Wq _ _ (Ne.symm hb)).trans (Vz _ e)
 show BT (wpAny_letGo ?_);generalize (s.heap.push { cls:=.type "list",data:=.seq #v[] }).update ↑s (Obj.mapSeq (λ_=>(#v[]:Array AC)))=h3 at h2 oth;have hzz:IsZip h3 z TI TO .none:=oth z _ (VW hzlt) Z.zip;have hTz:Cl.TypeIs { s with heap:=h3 } (.ref z) "zip":=#[_,hzz,U];unfold FM.List.listExtendWith;show BT (wpAny_typeOf hTz ?_);have g1:FM.List.listSameRef (.ref ↑s) (.ref z)=false:=by simp[FM.List.listSameRef,Nat.ne_of_gt hzlt]
 have g2:(AC.type "zip" == AC.type "list")=false:=by decide
 have g3:(AC.type "zip" == AC.type "tuple")=false:=by decide
 simp only[g1,g2,g3,Bool.or_false,Bool.false_eq_true,if_false];show BT (wpAny_pyIter_zip hzz ?_);show BT (KK ?_);unfold FM.List.listLengthHint;show BT (wpAny_specialOf hTz F.Eo ?_)
 wp_delta
 show BT (wpAny_specialOf hTz F.A4 ?_);show EQ ?_;rw[if_pos ()];show BT (wpAny_rule ?_);unfold FM.List.listTouch;show BT (BT ?_);change Da _ _ (updateSeq ↑s (·.push .none)) _ _ _;show wpAny_updateSeq h2 U ?_;obtain⟨c4,h4⟩:∃ c4,(h3.update ↑s (Obj.mapSeq (·.push AC.none))).get? ↑s=some { cls:=.type "list",dict:=none,data:=.seq #v[.none] c4,slots:=#v[] }:=#[_,Wt _ h2 U];have oth4:∀ b o,b≠↑s->s.heap.get? b=some o->(h3.update ↑s (Obj.mapSeq (·.push AC.none))).get? b=some o:=λb o hb e=>(Wq _ _ (Ne.symm hb)).trans (oth b o hb e);generalize h3.update ↑s (Obj.mapSeq (·.push AC.none))=h5 at h4 oth4;change Da _ _ (updateSeq ↑s (·.pop)) _ _ _;show wpAny_updateSeq h4 U ?_;obtain⟨c6,h6⟩:∃ c6,(h5.update ↑s (Obj.mapSeq (·.pop))).get? ↑s=some { cls:=.type "list",dict:=none,data:=.seq #v[] c6,slots:=#v[] }:=#[_,Wt _ h4 U];have oth6:∀ b o,b≠↑s->s.heap.get? b=some o->(h5.update ↑s (Obj.mapSeq (·.pop))).get? b=some o:=λb o hb e=>(Wq _ _ (Ne.symm hb)).trans (oth4 b o hb e);generalize h5.update ↑s (Obj.mapSeq (·.pop))=h7 at h6 oth6;have kept:∀ b o,s.heap.get? b=some o->h7.get? b=some o:=λb o e=>oth6 b o (VW (VL e)) e;have aS:a≠↑s:=VW (k8.lt p1);have bS:b≠↑s:=VW (k8.lt p2);have I7:Inv X TD σ H { s with heap:=h7 }:=I.kept (t':=s.toks) kept;have hf7:∀ q∈[z,TI,TO,i1,i2,↑s],fX X TD H q:=λq hq=>by
  simp only[List.mem_cons,List.not_mem_nil,or_false] at hq;rcases hq with e | e | e | e | e | e
  .exact hf q (by simp[e])
  .exact hf q (by simp[e])
  .exact hf q (by simp[e])
  .exact hf q (by simp[e])
  .exact hf q (by simp[e])
  .rw[e];exact I.rB (VB _) (I.aZ.fresh (VB _))
 show EQ #[plainId_quiet F.plain_extend_loop _,?_];show CT (A:=X.A.in1) hc (I.ok.hd hc) Y ha hb hS5 aS bS ho Sj xs ys 0 _ H #v[] c6 (by simpa using v1) (by simpa using v2) U (Nat.zero_le _) I7 hf7
  #[.inl (kept _ _ Z.zip),kept _ _ Z.ins,let #[p,q,e]:=Z.out;#[p,q,kept _ _ e],#[Z.e1.at λo e=>kept _ _ e,p1.at λo e=>kept _ _ e],#[Z.e2.at λo e=>kept _ _ e,p2.at λo e=>kept _ _ e],h6] λs' H' qs acc' c' J1 J2 J3 J4 J5 J6=>?_
 have hn:H' ↑s=none:=(J2 ↑s (by simp)).1;show#[U,hQ s' H' qs ↑s J6 hn (Inv.Py J1 (J2 ↑s (by simp)) ?_)];have e4:acc'.toList=qs.map AC.ref:=by simpa using J4
 have e5:(qs.map V.ref).length=acc'.size:=by
  have:=congrArg List.length e4;simp at this;rw[Vv];exact this.symm
 exact#[by rw[e5];exact J5,qs.map AC.ref,c',sC qs,by rw[<- e4];exact J3]
theorem yj{a b:Ch}{t:TA}{p p2 pos kR:Pos}(hc:X.calm=true)(OP:Gl X "list")(GR:X.mg "list"=none)(hg:Gl X "zip")(hm:X.mg "zip"=none)(ha:PA X [a,b] t)(hs:(GE [.Call (.Name "zip" p2) [a,b] [] kR] X.env=[(false,eval (.Call (.Name "zip" p2) [a,b] [] kR) X.env)])⁻¹)(Qi:(GE [a,b] X.env=[(false,eval a X.env),(false,eval b X.env)])⁻¹)(xc:(GE [b] X.env=[(false,eval b X.env)])⁻¹) :
  PE X (.Call (.Name "list" p) [.Call (.Name "zip" p2) [a,b] [] kR] [] pos) (EU X.K t):=by
 intro TD s σ H Q I h;show wpAny_Call_Name_kw (g0 I OP GR PyProof.Rows.boot_list ?_ () ());show PyProof.Rows.callWith_type1 ?_ hs U;rw[hs];change Da _ _ (spliced ((false,eval (.Call (.Name "zip" p2) [a,b] [] kR) X.env)::Go pos [])) _ _ s;show Calls.spliced_cons ?_;show Call_ (g0 I hg hm (u:=.type "zip") (by decide+kernel) (PyProof.Rows.callWith_type1 (b3 (ha kR TD s σ H _ I h) λus s1 zz=>el2 zz λvs H1 I1 r1 q1=>?_) (by rw[Qi,xc]) (by rw[xc];rfl)));let(l1,l2,t1,t2,xs,ys,e,(hx,hy),q):=q1;subst e;let(u,v,rfl,ru,rv):=Vals.two r1;cases ru;cases rv;let(eR,v1,p1,z1):=ju I1 hx;let(dM,v2,p2,z2):=ju I1 hy;have b1:=k8.lt p1;have b2:=k8.lt p2;have l1':=v1.length;show vC p1 p2 λh' hz hI hO e1 e2 hsz hk=>?_;show Calls.spliced_nil ?_;have I2:Inv X TD σ H1 { s1 with heap:=h' }:=I1.kept (t':=s1.toks) hk;have ge:∀ {c:AT},c∈[↑s1+4,↑s1+2,↑s1+3,↑s1,↑s1+1]->↑s1<=c:=λ{c} hc=>by
  simp only[List.mem_cons,List.not_mem_nil,or_false] at hc;rcases hc with e | e | e | e | e<;>(rw[e];first | exact VB _ | exact Wz _ _)
 show Dd hc (apart_new b1 b2) (VW b1) (VW (Xo b2)) v1 v2 (by cbv) I2 (λc hc=>I1.rB (ge hc) (I1.aZ.fresh (ge hc))) #[hz,hI,#[_,_,hO],e1,e2] (p1.at λo e=>hk _ o e) (p2.at λo e=>hk _ o e) #[λm=>absurd (VZ b1 (ge m)) (WL _),λm=>absurd (VZ b2 (ge m)) (WL _)] λs' H' qs l J1 J2 J3=>?_;exact#[.ref l,_,J3,U,q H' qs l J1 J2]
end
end L2
namespace DL
open PySem PySem.Spec L2
open PyProof.Rows hiding St
section
variable{X:Cx}{c:Ent}
theorem tX{K:Frag}{s:DS}{as:!AT}{σ:St}:∀ (xs ys:!D) (us vs:!V) (M:AT->Prop) (H H':Hp) (qs:!AT),aC K c M s as σ H->ay K H M xs us->ay K H M ys vs->o8 H (us.zip vs) H' qs ->
  ∃ M',aC K c M' s as σ H'/\Ext c as M s H M' s H'/\ay K H' M' (ow xs ys) (qs.map V.ref)
 | [],ys,us,vs,M,H,H',qs,L,r1,r2,l=>by
  have r1:us=[]:=r1;subst r1;let(e1,e2):=(show H'=H/\qs=[] from l);subst e1 e2;exact#[M,L,.refl,U]
 | x::xs,[],us,vs,M,H,H',qs,L,r1,r2,l=>by
  have r2:vs=[]:=r2;subst r2;rw[List.zip_nil_right] at l;let(e1,e2):=(show H'=H/\qs=[] from l);subst e1 e2;exact#[M,L,.refl,U]
 | x::xs,y::ys,us,vs,M,H,H',qs,L,r1,r2,l=>by
  let(u,us,rfl,ru,r1):=r1;let(v,vs,rfl,rv,r2):=r2;let(p,ps,hp,rfl,l2):=(show ∃ p ps,H p=none/\qs=p::ps/\o8 (upd H p (.tup [u,v])) (us.zip vs) H' ps from l);let(M',L',E',r'):=tX xs ys us vs _ _ H' ps (L.fresh (o:=.tup [u,v]) hp) (iR hp r1) (iR hp r2) l2;show#[M',L',(Ext.fresh hp).trans (L.fresh hp).base E',.ref p,_,U,?_,r'];show E'.rep (L.fresh hp) #[p,[u,v],U,#[.inr U,aA],?_];exact#[u,[v],U,qG hp ru,v,[],U,qG hp rv,U]
def Bw(t:fW):aV:=λs Q=>t s λas s1=>∃ d e xs ys,as=[d,e]/\(EZ d=some xs/\EZ e=some ys)/\Q (.lst (ow xs ys)) s1
theorem sE{a b:Ch}{t:fW}{p p2 pos kR:Pos}(hc:X.calm=true)(OP:Gl X "list")(GR:X.mg "list"=none)(hg:Gl X "zip")(hm:X.mg "zip"=none)(ha:DA X c [a,b] t)(hs:(GE [.Call (.Name "zip" p2) [a,b] [] kR] X.env=[(false,eval (.Call (.Name "zip" p2) [a,b] [] kR) X.env)])⁻¹)(Qi:(GE [a,b] X.env=[(false,eval a X.env),(false,eval b X.env)])⁻¹)(xc:(GE [b] X.env=[(false,eval b X.env)])⁻¹) :
  DN X c (.Call (.Name "list" p) [.Call (.Name "zip" p2) [a,b] [] kR] [] pos) (Bw t):=#[(yj hc OP GR hg hm ha.pa hs Qi xc).imp λσ H Q zz=>dq zz λM s as R L q k =>
 #[M,s,as,_,L,q,λds s1 q1 M1 H1 vs L1 E1 r1 hl=>by
  let(d,e,xs,ys,rfl,(hd,he),q2):=q1;let(u,r,rfl,ru,r):=r1;let(v,r',rfl,rv,r):=r;have r:r'=[]:=r;subst r;let(a1,t1,us,rfl,rus,g1):=oK hd ru;let(a2,t2,vs,rfl,rvs,g2):=oK he rv;have G0:dW M1 H1 M1 H1:=λb m=>#[m,λo e=>e];show#[a1,a2,t1,t2,us,vs,U,#[(g1 M1 H1 G0).1,(g2 M1 H1 G0).1],λH2 qs l J hl=>?_];let(M2,Lb,E2,r2):=tX xs ys us vs M1 H1 H2 qs L1 rus rvs J;exact gU (d:=.lst _) L Lb (E1.trans L1.base E2) hl r2 (k _ s1 q2)]]
theorem Kk{ty td:aV}{σ:St}{H:Hp}{Q:VK}:tE X.K c (IT false ty td) σ H Q->O0 (tE X.K c ty) (tE X.K c td) σ H Q:=λzz=>dq zz λM s as R L q kk =>
 #[M,s,as,_,L,q,λdy s1 q1 M1 H1 y L1 E1 ry=>#[M1,s1,as,_,L1,q1,λd s2 z6r M2 H2 v Lb E2 rv=>by
  let(hd,q2):=z6r;let(a,o,rfl,f1,f2):=rv.dc hd;let(ov,od,w1,w2,w3):=oP q2 f1 f2 (E2.rep L1 ry);show#[a,ov,U,w1,?_];have e:ov.isSome=od.isSome:=by
   rcases w3 with ⟨rfl,rfl⟩ | ⟨v,x,rfl,rfl,rx⟩<;>rfl
  rw[e];exact kk _ s2 w2 M2 H2 _ Lb (E1.trans L1.base E2) U]]
theorem Eh{i o:Ch}{pos:Pos}{ty td:aV}(hu:X.A.units+1 < cLine)(hi:DE X c i ty)(ho:DE X c o td)(h1:(behindInMarks .In o=false)⁻¹):DT X c (.Compare i [.In] [o] pos) (Ku (IT false ty td)) :=
 #[(KG (LH hu hi.pe ho.pe) h1).imp λσ H Q q=>jK Kk q]
end
end DL
namespace DL
open PySem PySem.Spec L2
structure j4 where
 name:Str
 fs:!(Str×Str)
structure iM where
 name:Str
 ps:!(Str×Str)
 res:Str
structure Kd where
 asked:Bool
 name:Str
 b8:!j4
 cF:!iM
structure cZ where
 kinds:!Kd
 vars:!Str
 heads:!Str
 inner:Bool
 words:!Str
def bM(b:Bool):Str:=if b=true then "asked" else "made"
def pairD(p:Str×Str):D:=.tup [.str p.1,.str p.2]
def jb(ps:!(Str×Str)):D:=.tup (ps.map pairD)
def eL(m:j4):D:=.tup [.str m.name,jb m.fs]
def eQ(a:iM):D:=.tup [.str a.name,jb a.ps,.str a.res]
def lb(k:Kd):D:=.tup [.str (bM k.asked),.str k.name,.tup (k.b8.map eL),.tup (k.cF.map eQ)]
def vx(W:cZ)(k:Str):Prop:=k="number"\/∃ kd∈W.kinds,kd.b8≠[]/\kd.name=k
def KS(W:cZ)(ns:!Str)(ps:!(Str×Str)):Prop:=ps.length<=3/\ps.map (·.1)=ns.take ps.length/\∀ p∈ps,vx W p.2
structure iQ(W:cZ):Prop where
 kl:W.kinds.length<=5
 kn:(W.kinds.map Kd.name).Nodup
 kw:∀ k∈W.kinds,Nm k.name/\k.b8.length<=5/\k.cF.length<=5
 mn:(W.kinds.flatMap λk=>k.b8.map j4.name).Nodup
 an:(W.kinds.flatMap λk=>k.cF.map iM.name).Nodup
 mo:∀ k∈W.kinds,∀ m∈k.b8,Nm m.name/\KS W (W.heads.take 3) m.fs
 ao:∀ k∈W.kinds,∀ a∈k.cF,Nm a.name/\KS W (W.heads.drop 3) a.ps/\vx W a.res
 ft:∀ k∈W.kinds,∀ m r,k.b8=m::r->∀ p∈m.fs,p.2="number"
 hl:W.heads.length=6
 vl:W.vars.length=15
 nd:(W.heads++W.vars).Nodup
 nm:∀ x∈W.heads++W.vars,Nm x
structure kY(W:cZ)(sc:!(Str×Str)):Prop where
 len:sc.length<=15
 nd:(sc.map (·.1)).Nodup
 ok:∀ p∈sc,vx W p.2/\(p.1∈W.heads\/∃ j,j < sc.length/\W.vars[j]?=some p.1)
def xt(W:cZ)(sc:!(Str×Str))(ns:!Str):Prop:=ns.Nodup/\(∀ x∈ns,x∉sc.map (·.1))/\∀ x∈ns,x∈W.heads\/∃ j,j < sc.length+ns.length/\W.vars[j]?=some x
inductive u7(W:cZ)(sc:!(Str×Str)):Str->Fm->!(!(Str×Str)×Str)->Prop
 | nm {x k:Str}:(x,k)∈sc->u7 W sc k (.nm x) []
 | num {i:Int}:0<=i->i < 1000000->u7 W sc "number" (.num i) []
 | op {o:Str}:o∈(["+","-","*"]:!Str)->u7 W sc "number" (.op o) [([],"number"),([],"number")]
 | j3 {k:Str}:u7 W sc k .j3 [([],"number"),([],k),([],k)]
 | lt {x k k':Str}:xt W sc [x]->vx W k'->u7 W sc k (.lt x) [([],k'),([(x,k')],k)]
 | mk {kd:Kd} {m:j4}:kd∈W.kinds->m∈kd.b8->u7 W sc kd.name (.mk m.name) (m.fs.map λp=>([],p.2))
 | ask {kd:Kd} {a:iM}:kd∈W.kinds->kd.b8≠[]->a∈kd.cF->u7 W sc a.res (.ask a.name) (([],kd.name)::a.ps.map λp=>([],p.2))
 | k7 {k:Str} {kd:Kd} {sub:!(j4×!Str)}:kd∈W.kinds->kd.b8≠[]->kd.asked=false->(sub.map (·.1)).Sublist kd.b8->(∀ p∈sub,p.2.length=p.1.fs.length/\xt W sc p.2) ->
   u7 W sc k (.k7 k (sub.map λp=>(p.1.name,p.2))) (([],kd.name)::sub.map λp=>(p.2.zip (p.1.fs.map (·.2)),k))
 | new {kd:Kd} {sub:!(iM×!Str)}:kd∈W.kinds->kd.b8≠[]->kd.asked=true->(sub.map (·.1)).Sublist kd.cF->(∀ p∈sub,p.2.length=p.1.ps.length/\xt W sc p.2) ->
   u7 W sc kd.name (.new kd.name (sub.map λp=>(p.1.name,p.2))) (sub.map λp=>(p.2.zip (p.1.ps.map (·.2)),p.1.res))
mutual
noncomputable def Ty(W:cZ):!(Str×Str)->Str->Tm->Prop
 | sc,k,.node f ts=>∃ sp,u7 W sc k f sp/\fF W sc sp ts
noncomputable def fF(W:cZ):!(Str×Str)->!(!(Str×Str)×Str)->!Tm->Prop
 | sc,sp,[]=>sp=[]
 | sc,sp,t::ts=>∃ e r,sp=e::r/\Ty W (sc++e.1) e.2 t/\fF W sc r ts
end
theorem fF.len{W:cZ}{sc:!(Str×Str)}:∀ {sp:!(!(Str×Str)×Str)} {ts:!Tm},fF W sc sp ts->ts.length=sp.length
 | sp,[],h=>by
  have h:sp=[]:=h;rw[h];rfl
 | sp,t::ts,h=>by
  let(e,r,rfl,_,h):=(show ∃ e r,sp=e::r/\Ty W (sc++e.1) e.2 t/\fF W sc r ts from h);rw[VD,VD,fF.len h]
theorem Ty.mk{W:cZ}{sc:!(Str×Str)}{k:Str}{f:Fm}{ts:!Tm}{sp:!(!(Str×Str)×Str)}(h:u7 W sc k f sp)(r:fF W sc sp ts):Ty W sc k (.node f ts):=#[sp,h,r]
theorem fF.nil{W:cZ}{sc:!(Str×Str)}:fF W sc [] []:=rfl
theorem fF.cons{W:cZ}{sc ex:!(Str×Str)}{k:Str}{t:Tm}{ts:!Tm}{sp:!(!(Str×Str)×Str)}(h:Ty W (sc++ex) k t)(r:fF W sc sp ts):fF W sc ((ex,k)::sp) (t::ts):=#[(ex,k),sp,U,h,r]
theorem fF.t8{W:cZ}{sc:!(Str×Str)}{k:Str}{t:Tm}{ts:!Tm}{sp:!(!(Str×Str)×Str)}(h:Ty W sc k t)(r:fF W sc sp ts):fF W sc (([],k)::sp) (t::ts):=fF.cons (by rw[VJ];exact h) r
theorem fF.app{W:cZ}{sc:!(Str×Str)}:∀ {sp sq:!(!(Str×Str)×Str)} {ts us:!Tm},fF W sc sp ts->fF W sc sq us->fF W sc (sp++sq) (ts++us)
 | sp,sq,[],us,h,h'=>by
  have h:sp=[]:=h;subst h;exact h'
 | sp,sq,t::ts,us,h,h'=>by
  let(e,r,rfl,h1,h):=(show ∃ e r,sp=e::r/\Ty W (sc++e.1) e.2 t/\fF W sc r ts from h);exact#[e,r++sq,U,h1,fF.app h h']
theorem Nm.ok{x:Str}(h:Nm x):FS.strOk x=true:=h.1.strOk
theorem yw{W:cZ}(w:iQ W){j:Nat}{x:Str}(h:W.vars[j]?=some x):x∈W.vars:=V8 h
theorem xt.nm{W:cZ}(w:iQ W){sc:!(Str×Str)}{ns:!Str}(b:xt W sc ns):∀ x∈ns,Nm x:=λx hx=>by
 rcases b.2.2 x hx with h | ⟨j,_,h⟩
 .exact w.nm x (Wa _ h)
 .exact w.nm x (V6 _ (yw w h))
theorem kY.nm{W:cZ}(w:iQ W){sc:!(Str×Str)}(h:kY W sc):∀ p∈sc,Nm p.1:=λp hp=>by
 rcases (h.ok p hp).2 with h | ⟨j,_,h⟩
 .exact w.nm _ (Wa _ h)
 .exact w.nm _ (V6 _ (yw w h))
theorem vx.ok{W:cZ}(w:iQ W){k:Str}(h:vx W k):FS.strOk k=true:=by
 rcases h with rfl | ⟨kd,hk,_,rfl⟩
 .decide+kernel
 .exact (w.kw kd hk).1.ok
theorem kY.more{W:cZ}{sc:!(Str×Str)}(h:kY W sc){ns ks:!Str}(b:xt W sc ns)(hl:ns.length=ks.length)(hk:∀ k∈ks,vx W k)(LY:sc.length+ns.length<=15):kY W (sc++ns.zip ks):=by
 have e1:(ns.zip ks).map (·.1)=ns:=List.map_fst_zip (by cbv);have e2:(ns.zip ks).length=ns.length:=by rw[XD];cbv
 show#[by rw[Vw,e2];exact LY,?_,λp hp=>?_]
 .rw[VA,e1,Wi];exact#[h.nd,b.1,λx hx y hy e=>b.2.1 y hy (e▸hx)]
 .rcases VM.mp hp with hp | hp
  .let(h1,h2):=h.ok p hp;show#[h1,h2.imp id λ#[j,hj,e]=>#[j,by rw[Vw];cbv,e]]
  .have m1:p.1∈ns:=e1▸VX (f:=(·.1)) hp;have m2:p.2∈ks:=by
    have:(ns.zip ks).map (·.2)=ks:=List.map_snd_zip (by cbv);exact this▸VX (f:=(·.2)) hp
   show#[hk _ m2,(b.2.2 p.1 m1).imp id λ#[j,hj,e]=>#[j,by rw[Vw,e2];exact hj,e]]
theorem fb{α β:Type}{nt:Nat}{us:!Nat}{g:pN}{te:aV}(h:α->D)(f:β->D)(Rl:α->β->Prop){Q:!D->DS->Prop}{s:DS}:∀ (xs:!α) {acc:!D},(∀ x∈xs,∀ k:D->DS->Prop,(∀ (y:β) (s':DS),Rl x y->s'.os=s.os->k (f y) s')->g (h x) (gL nt us s) λs1=>te s1 k)->(∀ ys:!β,Paired Rl xs ys->Q (acc++ys.map f) s)->b4 nt us g cf te (xs.map h) acc s Q
 | [],acc,_,q=>by
  have:=q [] .nil;rw[Wj,VJ] at this;exact this
 | x::xs,acc,hx,q=>by
  have:=hx x Vx (λy s3=>b4 nt us g cf te (xs.map h) (acc++[y]) #[s.sl,s3.os] Q) λy s' hy e=>by
   change b4 nt us g cf te (xs.map h) (acc++[f y]) #[s.sl,s'.os] Q;rw[e];show fb h f Rl xs (λz hz=>hx z (Vy _ hz)) λys hp=>?_;rw[VR];exact q (y::ys) (.cons hy hp)
  rw[VE,b4];simpa [cf] using this
theorem gm{α β:Type}{F:α->β->Prop}:∀ {l₁:!α} {l₂:!β},Paired F l₁ l₂->l₂.length=l₁.length
 | _,_,.nil=>rfl
 | _,_,.cons _ t=>by rw[VD,VD,gm t]
theorem f7{α β:Type}{F:α->β->Prop}:∀ {l₁:!α} {l₂:!β},Paired F l₁ l₂->∀ y∈l₂,∃ x∈l₁,F x y
 | _,_,.nil,y,h=>nomatch h
 | _,_,.cons r t,y,h=>by
  rcases VG.mp h with rfl | h
  .exact#[_,Vx,r]
  .let(x,hx,q):=f7 t y h;exact#[x,Vy _ hx,q]
theorem Et{α β:Type}{F:α->β->Prop}:∀ {l₁:!α} {l₂:!β},Paired F l₁ l₂->∀ {i:Nat} {x:α},l₁[i]?=some x->∃ y,l₂[i]?=some y/\F x y
 | _,_,.nil,i,x,h=>by simp at h
 | _,_,.cons r t,0,x,h=>by
  simp at h;subst h;exact#[_,U,r]
 | _,_,.cons r t,i+1,x,h=>by
  let(y,h1,h2):=Et t (i:=i) (x:=x) (by simpa using h);exact#[y,by simpa using h1,h2]
theorem uT{β γ:Type}{F:Nat->β->Prop}{v:β->γ}{ns:!γ}(h:∀ i y,F i y->ns[i]?=some (v y)){n:Nat}{ys:!β}(p:Paired F (List.range n) ys):ys.map v=ns.take ys.length:=by
 have hl:=gm p;rw[WN] at hl;apply Xc;intro i;rw[V0,List.getElem?_take];by_cases hi:i < n
 .let(y,e,f):=Et p (i:=i) (x:=i) (by simp[hi]);rw[e,if_pos (by cbv),h i y f]
  rfl
 .rw[if_neg (by cbv),WH (by cbv)]
  rfl
theorem Cc{α β γ:Type}{F:α->β->Prop}{u:α->γ}{v:β->γ}(h:∀ x y,F x y->v y=u x):∀ {l₁:!α} {l₂:!β},Paired F l₁ l₂->l₂.map v=l₁.map u
 | _,_,.nil=>rfl
 | _,_,.cons r t=>by rw[VE,VE,h _ _ r,Cc h t]
theorem oY{α:Type}{f:α->D}{xs:!α}{r:Int}(h0:0<=r)(h1:r < xs.length):∃ x,xs[r.toNat]?=some x/\jd (xs.map f) r=some (f x):=by
 have hj:r.toNat < xs.length:=by cbv
 show#[xs[r.toNat],VO hj,?_];have e:(r.toNat:Int)=r:=Int.toNat_of_nonneg h0;have q:=fk (xs:=xs.map f) (j:=r.toNat) (v:=f xs[r.toNat]) (by simp[hj]);rw[e] at q;exact q
theorem k6{α:Type}{f:α->D}{xs:!α}{r:Int}(h0:0<=r)(h1:r < xs.length):∃ x,x∈xs/\jd (xs.map f) r=some (f x):=by
 let(x,h,e):=oY (f:=f) h0 h1;exact#[x,V8 h,e]
theorem iD(n:Nat):eF 0 n=(List.range n).map λ(i:Nat)=>D.int (i:Int):=by
 unfold eF;show WQ λi _=>?_;rw[Int.zero_add]
theorem gn{α:Type}{f:α->D}{xs:!α}{lo hi:Option Int}:cutD (xs.map f) lo hi=((xs.drop (HT.b5 xs.length 0 lo)).take (HT.b5 xs.length xs.length hi - HT.b5 xs.length 0 lo)).map f:=by
 unfold cutD;rw[Vv,<- List.map_drop,<- List.map_take]
theorem xN{f:Str->D}{ws:!Str}{n:Int}(h0:0<=n)(h1:n<=ws.length):∃ al:!Str,cutD (ws.map f) (some n) none++cutD (ws.map f) none (some n)=al.map f/\al.Perm ws:=by
 have e1:HT.b5 ws.length 0 (some n)=n.toNat:=by
  unfold HT.b5;simp only[]
  repeat' split
  all_goals cbv
 have e2:HT.b5 ws.length ws.length (some n)=n.toNat:=by
  unfold HT.b5;simp only[]
  repeat' split
  all_goals cbv
 have e3:HT.b5 ws.length ws.length none=ws.length:=rfl;have e4:HT.b5 ws.length 0 none=0:=rfl;show#[ws.drop n.toNat++ws.take n.toNat,?_,?_]
 .rw[gn,gn,e1,e2,e3,e4,List.drop_zero,Nat.sub_zero,List.map_append,List.take_of_length_le (by simp)]
 .refine List.perm_append_comm.trans ?_;rw[WX]
def _root_.DL.Sl.pl:Sl->Bool
 | .own _=>false
 | _=>true
theorem bC{k i:Nat}{x:Sl}{r:!Sl}(h:x.pl=true):noRef k (i+1) (x::r)=noRef k i r:=by
 cases x with
 | own j=>cases h
 | _=>rfl
def AJ(xs:!D)(j n:Nat):Prop:=j<=n/\xs=(List.range' j (n - j)).map λ(i:Nat)=>D.int (i:Int)
theorem AJ.init(n:Nat):AJ (eF 0 n) 0 n:=#[VT _,by rw[iD,X7,List.range_eq_range']]
theorem AJ.nil{j n:Nat}(h:AJ [] j n):j=n:=by
 have:=congrArg List.length h.2;simp at this;have:=h.1;cbv
theorem AJ.cons{x:D}{xs:!D}{j n:Nat}(h:AJ (x::xs) j n):x=.int (j:Int)/\j < n/\AJ xs (j+1) n:=by
 let(h1,h2):=h;have h3:=congrArg List.length h2;simp at h3;have e:n - j=(n - (j+1))+1:=by omega
 rw[e,X2,VE] at h2;injection h2 with h4 h5;exact#[h4,by omega,by omega,h5]
def Fz(ns ss:!Str)(ps:!(Str×Str)):Prop:=ps.length<=3/\ps.map (·.1)=ns.take ps.length/\∀ p∈ps,p.2∈ss
abbrev hX:!Str:=["number"]
def dO(ks:!Kd):!Str:=ks.flatMap λk=>k.b8.map j4.name
def cU(ks:!Kd):!Str:=ks.flatMap λk=>k.cF.map iM.name
structure Mf(ws ns:!Str)(k:Kd):Prop where
 m0:k.b8≠[]
 ml:k.b8.length<=5
 al:k.cF.length<=5
 mp:∀ m∈k.b8,Fz ((ws.drop 24).take 3) (ns++hX) m.fs
 mf:∀ m r,k.b8=m::r->∀ p∈m.fs,p.2="number"
 ap:∀ a∈k.cF,Fz ((ws.drop 27).take 3) (ns++hX) a.ps/\a.res∈ns++hX
structure Hz(ws ns ML AL:!Str)(ks:!Kd):Prop where
 kl:ks.length<=ns.length
 kn:ks.map Kd.name=ns.take ks.length
 rg:∀ k∈ks,Mf ws ns k
 mn:dO ks=ML.take (dO ks).length
 an:cU ks=AL.take (cU ks).length
 mb:(dO ks).length<=5 * ks.length
 ab:(cU ks).length<=5 * ks.length
theorem Hz.nil{ws ns ML AL:!Str}:Hz ws ns ML AL []:=#[VT _,U,λ_ h=>(nomatch h),U,U,VT _,VT _]
theorem gz(ks:!Kd)(k:Kd):dO (ks++[k])=dO ks++k.b8.map j4.name:=by simp[dO]
theorem gJ(ks:!Kd)(k:Kd):cU (ks++[k])=cU ks++k.cF.map iM.name:=by simp[cU]
theorem take_snoc{α:Type}{L A B:!α}(ha:A=L.take A.length)(hb:B=(L.drop A.length).take B.length):A++B=L.take (A++B).length:=by
 rw[Vw,List.take_add,<- ha,<- hb]
theorem Hz.snoc{ws ns ML AL:!Str}{ks:!Kd}(h:Hz ws ns ML AL ks){k:Kd}(r:Mf ws ns k)(hk:ns[ks.length]?=some k.name)(hm:k.b8.map j4.name=(ML.drop (dO ks).length).take k.b8.length)(ha:k.cF.map iM.name=(AL.drop (cU ks).length).take k.cF.length):Hz ws ns ML AL (ks++[k]):=by
 let(jI,e):=VC.mp hk;show#[by simp;cbv,?_,λx hx=>?_,?_,?_,?_,?_]
 .rw[VA,h.kn,Vw,List.take_add]
  congr 1
  change [k.name]=(ns.drop ks.length).take 1;rw[Xf jI,e]
  rfl
 .rcases VM.mp hx with hx | hx
  .exact h.rg x hx
  .rw[VH.mp hx];exact r
 .rw[gz];exact take_snoc h.mn (by rw[Vv];exact hm)
 .rw[gJ];exact take_snoc h.an (by rw[Vv];exact ha)
 .have:=h.mb;have:=r.ml;rw[gz,Vw,Vw,Vv];simp;cbv
 .have:=h.ab;have:=r.al;rw[gJ,Vw,Vw,Vv];simp;cbv
theorem bq{k:Nat}{d:D}{x:Sl}(h:x.pl=true):(fB k d x).pl=true:=by
 cases x with
 | own j=>cases h
 | _=>rfl
structure JV(ws ns L:!Str)(ms:!j4):Prop where
 nm:ms.map j4.name=L.take ms.length
 mp:∀ m∈ms,Fz ((ws.drop 24).take 3) (ns++hX) m.fs
 mf:∀ m r,ms=m::r->∀ p∈m.fs,p.2="number"
theorem JV.nil{ws ns L:!Str}:JV ws ns L []:=#[U,λ_ h=>(nomatch h),λ_ _ h=>by simp at h]
theorem rY{α β:Type}{v:β->α}{L:!α}{ms:!β}{m:β}(h:ms.map v=L.take ms.length)(e:L[ms.length]?=some (v m)):(ms++[m]).map v=L.take (ms++[m]).length:=by
 let(jI,e):=VC.mp e;rw[VA,h,Vw,List.take_add]
 congr 1
 change [v m]=(L.drop ms.length).take 1;rw[Xf jI,e]
 rfl
theorem JV.snoc{ws ns L:!Str}{ms:!j4}(h:JV ws ns L ms){m:j4}(e:L[ms.length]?=some m.name)(hp:Fz ((ws.drop 24).take 3) (ns++hX) m.fs)(hf:ms=[]->∀ p∈m.fs,p.2="number"):JV ws ns L (ms++[m]):=by
 show#[rY h.nm e,λx hx=>?_,λx r hx=>?_]
 .rcases VM.mp hx with hx | hx
  .exact h.mp x hx
  .rw[VH.mp hx];exact hp
 .cases ms with
  | nil =>
   injection hx with e1 e2;subst e1;exact hf U
  | cons y ys =>
   injection hx with e1 e2;subst e1;exact h.mf _ _ U
structure Fq(ws ns L:!Str)(as:!iM):Prop where
 nm:as.map iM.name=L.take as.length
 ap:∀ a∈as,Fz ((ws.drop 27).take 3) (ns++hX) a.ps/\a.res∈ns++hX
theorem Fq.nil{ws ns L:!Str}:Fq ws ns L []:=#[U,λ_ h=>nomatch h]
theorem Fq.snoc{ws ns L:!Str}{as:!iM}(h:Fq ws ns L as){a:iM}(e:L[as.length]?=some a.name)(hp:Fz ((ws.drop 27).take 3) (ns++hX) a.ps)(hr:a.res∈ns++hX):Fq ws ns L (as++[a]):=by
 show#[rY h.nm e,λx hx=>?_];rcases VM.mp hx with hx | hx
 .exact h.ap x hx
 .rw[VH.mp hx];exact#[hp,hr]
theorem Fz.sub{ns ss tt:!Str}{ps:!(Str×Str)}(h:Fz ns ss ps)(hs:∀ x∈ss,x∈tt):Fz ns tt ps:=#[h.1,h.2.1,λp hp=>hs _ (h.2.2 p hp)]
theorem I0{L:!Str}{n j:Nat}(h:n+j < L.length):∃ x,L[n+j]?=some x/\(L.drop n)[j]?=some x/\seqIndex? 0 (((L.drop (n+j)).map D.str)).length=some 0/\((L.drop (n+j)).map D.str)[0]?=some (.str x)/\((L.drop (n+j)).map D.str).eraseIdx 0=(L.drop (n+(j+1))).map D.str:=by
 show#[L[n+j],VO h,?_,?_,?_,?_]
 .rw[W9,VO h]
 .rw[Vv,WU];exact PySem.seqIndex_of () (by cbv)
 .rw[V0,W9,Nat.add_zero,VO h]
  rfl
 .rw[List.eraseIdx_zero,<- List.map_tail,List.tail_drop]
  congr 1
theorem yx{r:Int}(h0:0<=r)(h1:r < 2):∃ b:Bool,jd [D.str "made",D.str "asked"] r=some (.str (bM b)):=by
 have:r=0\/r=1:=by cbv
 rcases this with rfl | rfl
 .exact#[false,U]
 .exact#[true,U]
def kr(ws:!Str)(ks:!Kd)(inner:Bool):cZ:=#[ks,ws.drop 30,(ws.drop 24).take 6,inner,ws]
theorem pH{ws:!Str}(h:ws.Nodup){n j:Nat}(hn:n<=j){x:Str}(e:ws[j]?=some x):(ws.take n++[x]).Nodup:=by
 let(hj,e):=VC.mp e;have hs:(ws.take n++[x]).Sublist ws:=by
  have h1:(ws.take n++[x]).Sublist (ws.take n++ws.drop n):=by
   show XA (Xd _) (List.singleton_sublist.mpr ?_);have:(ws.drop n)[j - n]?=some x:=by
    rw[W9,show n+(j - n)=j by cbv,VO hj,e]
   exact V8 this
  rwa [WX] at h1
 exact h.sublist hs
theorem c5{α:Type}{f:α->D}:∀ {l:!α},(∀ x∈l,iq (f x)=true)->eK (l.map f)=true
 | [],_=>rfl
 | x::l,h=>by
  change (iq (f x)&&eK (l.map f))=true;rw[h x Vx,c5 λy hy=>h y (Vy _ hy)]
  rfl
theorem uL{W:cZ}(w:iQ W){ns:!Str}(hn:∀ x∈ns,Nm x){ps:!(Str×Str)}(h:KS W ns ps):iq (jb ps)=true:=by
 show c5 λp hp=>?_;have h1:p.1∈ns:=by
  have:p.1∈ps.map (·.1):=VX hp;rw[h.2.1] at this;exact Wc this
 change (FS.strOk p.1&&(FS.strOk p.2&&true))=true;rw[(hn _ h1).ok,(h.2.2 p hp).ok w]
 rfl
theorem zv{W:cZ}(w:iQ W){k:Kd}(hk:k∈W.kinds):iq (.tup (k.b8.map eL))=true:=by
 show c5 λm hm=>?_;let(h1,h2):=w.mo k hk m hm;change (FS.strOk m.name&&(iq (jb m.fs)&&true))=true;rw[h1.ok,uL w (λx hx=>w.nm x (Wa _ (Wc hx))) h2]
 rfl
theorem Hj{W:cZ}(w:iQ W){k:Kd}(hk:k∈W.kinds):iq (.tup (k.cF.map eQ))=true:=by
 show c5 λa ha=>?_;let(h1,h2,h3):=w.ao k hk a ha;change (FS.strOk a.name&&(iq (jb a.ps)&&(FS.strOk a.res&&true)))=true;rw[h1.ok,uL w (λx hx=>w.nm x (Wa _ (WA hx))) h2,h3.ok w]
 rfl
def things(W:cZ):!Kd:=W.kinds.filter λk=>(not k.b8.isEmpty)
theorem gc{W:cZ}{k:Kd}:k∈things W↔k∈W.kinds/\k.b8≠[]:=by
 unfold things;rw[Wo];simp
theorem xt.heads{W:cZ}(w:iQ W){sc:!(Str×Str)}{al:!Str}(p:al.Perm (W.heads.filter λx=>(not (decide (x∈sc.map (·.1))))))(m:Nat):xt W sc (al.take m):=by
 have mem:∀ x∈al.take m,x∈W.heads/\x∉sc.map (·.1):=λx hx=>by
  have:=p.mem_iff.mp (Wc hx);let(h1,h2):=Wo.mp this;exact#[h1,by simpa using h2]
 show#[?_,λx hx=>(mem x hx).2,λx hx=>.inl (mem x hx).1];have h1:W.heads.Nodup:=(Wi.mp w.nd).1;exact (p.nodup_iff.mpr (h1.sublist List.filter_sublist)).sublist (Ws _ _)
theorem xt.vars{W:cZ}(w:iQ W){sc:!(Str×Str)}(s:kY W sc){m:Nat}{ns:!Str}(p:Paired (λk x=>W.vars[sc.length+k]?=some x) (List.range m) ns):xt W sc ns:=by
 have hl:=gm p;rw[WN] at hl;have h2:W.vars.Nodup:=(Wi.mp w.nd).2.1;have e:ns=(W.vars.drop sc.length).take ns.length:=by
  have:=uT (v:=id) (ns:=W.vars.drop sc.length) (λi y h=>by rw[W9];exact h) p;simpa using this
 show#[?_,λx hx hs=>?_,λx hx=>?_]
 .rw[e];exact h2.sublist ((Ws _ _).trans (List.drop_sublist _ _))
 .let(k,_,hk):=f7 p x hx;let(q,hq,eq):=VI.mp hs;rcases (s.ok q hq).2 with h | ⟨j,hj,ej⟩
  .rw[eq] at h;exact (Wi.mp w.nd).2.2 x h x (V8 hk) U
  .rw[eq] at ej;let(l1,g1):=VC.mp hk;let(l2,g2):=VC.mp ej;have:=(X0 h2).mp (g1.trans g2.symm);cbv
 .let(k,hk,hv):=f7 p x hx;have:=WC.mp hk;exact .inr #[sc.length+k,by cbv,hv]
theorem AK{ws:!Str}:(ws.map D.str).all fN=true:=by
 rw[List.all_map];exact Wr.mpr λ_ _=>rfl
theorem F2{x:Str}{ws:!Str}:xP (fv (.str x)) ((ws.map D.str).map fv)=decide (x∈ws):=by
 rw[V2];exact fA
theorem cN{a b:Str}:decide (fv (.str a)=fv (.str b))=decide (a=b):=by
 change decide (V.str a=V.str b)=_;by_cases h:a=b
 .simp[h]
 .have:¬ V.str a=V.str b:=λe=>h (by injection e);rw[decide_eq_false this,decide_eq_false h]
theorem uQ{W:cZ}(w:iQ W){a b:Kd}(ha:a∈W.kinds)(hb:b∈W.kinds)(e:a.name=b.name):a=b:=by
 let(i,hi,rfl):=Wh ha;let(j,hj,rfl):=Wh hb;have:=Xy.mp w.kn;have h2:(W.kinds.map Kd.name)[i]'(by simpa using hi)=(W.kinds.map Kd.name)[j]'(by simpa using hj):=by simpa using e
 have:=(X0 w.kn).mp h2;subst this
 rfl
theorem kK{α:Type}{p:α->Bool}{a:α}:∀ {l:!α},a∈l->p a=true->(∀ x∈l,p x=true->x=a)->∃ n,l.filter p=List.replicate (n+1) a
 | [],h,_,_=>nomatch h
 | x::l,h,ha,hu=>by
  by_cases hx:p x=true
  .have e:=hu x Vx hx;subst e;rw[Xk hx];by_cases hm:x∈l
   .let(n,e):=kK hm ha λy hy=>hu y (Vy _ hy);exact#[n+1,by rw[e];rfl]
   .refine#[0,?_];have:l.filter p=[]:=List.filter_eq_nil_iff.mpr λy hy hp=>hm (hu y (Vy _ hy) hp▸hy);rw[this]
    rfl
  .rw[W5 hx];show kK ?_ ha λy hy=>hu y (Vy _ hy);rcases VG.mp h with rfl | h
   .exact absurd ha hx
   .exact h
theorem kinds_of{W:cZ}(w:iQ W){k:Str}(h:vx W k)(hn:k≠"number"):∃ kd∈W.kinds,kd.b8≠[]/\kd.name=k/\∃ n,(W.kinds.filter λx=>decide (x.name=k))=List.replicate (n+1) kd:=by
 rcases h with h | ⟨kd,h1,h2,h3⟩
 .exact absurd h hn
 .exact#[kd,h1,h2,h3,kK h1 (by simpa using h3) λx hx hp=>uQ w hx h1 (by rw[h3];simpa using hp)]
end DL
namespace DL
theorem jn{C G:Prop}(i7:C)(h:C->G):G:=h i7
end DL
namespace DL
open PySem L2
theorem yk{α:Type}{W:cZ}{sc:!(Str×Str)}{F:α->Tm->Prop}{v:α->Str}:∀ {ps:!α} {ts:!Tm},Paired F ps ts->(∀ p∈ps,∀ t,F p t->Ty W sc (v p) t)->fF W sc (ps.map λp=>([],v p)) ts
 | _,_,.nil,_=>fF.nil
 | _,_,.cons (a:=p) r t,h=>fF.t8 (h _ Vx _ r) (yk t λq hq=>h q (Vy _ hq))
theorem Bj{x:D}{xs:!D}:cutD (x::xs) (some 1) none=xs:=by
 unfold cutD;have e1:HT.b5 (x::xs).length 0 (some 1)=1:=by
  unfold HT.b5;simp only[List.length_cons]
  repeat' split
  all_goals cbv
 have e2:HT.b5 (x::xs).length (x::xs).length none=(x::xs).length:=rfl;rw[e1,e2,List.drop_succ_cons,List.drop_zero,List.take_of_length_le (by simp)]
theorem lF{f:Fm}{ts:!Tm}{n:Nat}(h:∀ t∈ts,t.dep<=n):(Tm.node f ts).dep<=n+1:=by
 have:=zP h;change kJ ts+1<=n+1;cbv
theorem BY{W:cZ}(w:iQ W){k:Kd}(hk:k∈W.kinds):iq (lb k)=true:=by
 change (FS.strOk (bM k.asked)&&(FS.strOk k.name&&(iq (.tup (k.b8.map eL))&&(iq (.tup (k.cF.map eQ))&&true))))=true;rw[(w.kw k hk).1.ok,zv w hk,Hj w hk];cases k.asked<;>decide+kernel
theorem NC{W:cZ}(w:iQ W){k:Kd}(hk:k∈W.kinds):k.name≠"number":=λe=>by
 have:=(w.kw k hk).1.2.2.2.1;rw[e] at this;exact this (by decide+kernel)
theorem CH{W:cZ}(w:iQ W){k:Str}(h:vx W k){kd:Kd}(hk:kd∈W.kinds)(e:kd.name=k):kd.b8≠[]:=by
 rcases h with h | ⟨kd',h1,h2,h3⟩
 .exact absurd (e.trans h) (NC w hk)
 .have:=uQ w hk h1 (e.trans h3.symm);rw[this];exact h2
theorem Dz(t:Tm):(not (xS (toD t)))=true:=by
 cases t with
 | node f ks=>cases f<;>rfl
end DL
namespace DL
open PySem PySem.Spec L2
theorem u7.ar{W:cZ}(w:iQ W){sc:!(Str×Str)}{k:Str}{f:Fm}{sp:!(!(Str×Str)×Str)}(h:u7 W sc k f sp):f.ar sp.length=true:=by
 cases h with
 | nm _=>rfl
 | num _ _=>rfl
 | op _=>rfl
 | j3=>rfl
 | lt _ _=>rfl
 | mk _ _=>rfl
 | ask _ _ _=>simp[Fm.ar]
 | @k7 _ kd sub h1 h2 h3 h4 h5 =>
  simp only[Fm.ar,List.length_cons,List.length_map,beq_self_eq_true,Bool.true_and,List.all_eq_true,List.mem_map];rintro _ ⟨p,hp,rfl⟩;have hm:p.1∈kd.b8:=h4.subset (VX hp);have:=(w.mo kd h1 p.1 hm).2.1;have:=(h5 p hp).1;simp;cbv
 | @new kd sub h1 h2 h3 h4 h5 =>
  simp only[Fm.ar,List.length_map,beq_self_eq_true,Bool.true_and,List.all_eq_true,List.mem_map];rintro _ ⟨p,hp,rfl⟩;have hm:p.1∈kd.cF:=h4.subset (VX hp);have:=(w.ao kd h1 p.1 hm).2.1.1;have:=(h5 p hp).1;simp;cbv
theorem u7.strs{W:cZ}(w:iQ W){sc:!(Str×Str)}{k:Str}{f:Fm}{sp:!(!(Str×Str)×Str)}(wI:∀ p∈sc,FS.strOk p.1=true)(hk:FS.strOk k=true)(h:u7 W sc k f sp):f.strs.all FS.strOk=true/\∀ e∈sp,FS.strOk e.2=true/\∀ p∈e.1,FS.strOk p.1=true:=by
 have num:FS.strOk ("number":Str)=true:=by decide+kernel
 cases h with
 | @nm x _ hx=>exact#[by simp[Fm.strs,wI _ hx],λ_ h=>by cases h]
 | num _ _=>exact#[U,λ_ h=>by cases h]
 | @op o ho =>
  show#[?_,λe he=>?_]
  .simp only[Fm.strs,List.all_cons,List.all_nil,Bool.and_true]
   revert o
   decide+kernel
  .simp at he;subst he;exact#[num,λ_ h=>by cases h]
 | j3 =>
  show#[U,λe he=>?_];simp at he;rcases he with rfl | rfl
  .exact#[num,λ_ h=>by cases h]
  .exact#[hk,λ_ h=>by cases h]
 | @lt x _ k' hb hk' =>
  have hx:=(hb.nm w x (VH.mpr U)).ok;show#[by simp[Fm.strs,hx],λe he=>?_];simp at he;rcases he with rfl | rfl
  .exact#[hk'.ok w,λ_ h=>by cases h]
  .exact#[hk,λp hp=>by rw[VH.mp hp];exact hx]
 | @mk kd m h1 h2 =>
  let(m1,m2,m3,m4):=w.mo kd h1 m h2;show#[by simp[Fm.strs,m1.ok],λe he=>?_];let(p,hp,rfl):=VI.mp he;exact#[(m4 p hp).ok w,λ_ h=>by cases h]
 | @ask kd a h1 h2 h3 =>
  let(m1,(m2,m3,m4),m5):=w.ao kd h1 a h3;show#[by simp[Fm.strs,m1.ok],λe he=>?_];rcases VG.mp he with rfl | he
  .exact#[(w.kw kd h1).1.ok,λ_ h=>by cases h]
  let(p,hp,rfl):=VI.mp he;exact#[(m4 p hp).ok w,λ_ h=>by cases h]
 | @k7 _ kd sub h1 h2 h3 h4 h5 =>
  show#[?_,λe he=>?_]
  .simp only[Fm.strs,List.all_cons,hk,Bool.true_and,List.map_map,List.all_flatten,List.all_map,List.all_eq_true];intro p hp;have hm:p.1∈kd.b8:=h4.subset (VX hp);simp only[Function.comp,List.all_cons,(w.mo kd h1 p.1 hm).1.ok,Bool.true_and,List.all_eq_true];exact λx hx=>((h5 p hp).2.nm w x hx).ok
  .rcases VG.mp he with rfl | he
   .exact#[(w.kw kd h1).1.ok,λ_ h=>by cases h]
   let(p,hp,rfl):=VI.mp he;show#[hk,λq hq=>?_];exact ((h5 p hp).2.nm w _ (Ww hq).1).ok
 | @new kd sub h1 h2 h3 h4 h5 =>
  show#[?_,λe he=>?_]
  .simp only[Fm.strs,List.all_cons,hk,Bool.true_and,List.map_map,List.all_flatten,List.all_map,List.all_eq_true];intro p hp;have hm:p.1∈kd.cF:=h4.subset (VX hp);simp only[Function.comp,List.all_cons,(w.ao kd h1 p.1 hm).1.ok,Bool.true_and,List.all_eq_true];exact λx hx=>((h5 p hp).2.nm w x hx).ok
  .let(p,hp,rfl):=VI.mp he;have hm:p.1∈kd.cF:=h4.subset (VX hp);show#[(w.ao kd h1 p.1 hm).2.2.ok w,λq hq=>?_];exact ((h5 p hp).2.nm w _ (Ww hq).1).ok
mutual
theorem Ty.good{W:cZ}(w:iQ W):∀ (t:Tm) (sc:!(Str×Str)) (k:Str),(∀ p∈sc,FS.strOk p.1=true)->FS.strOk k=true->Ty W sc k t->t.wf=true/\t.By=true
 | .node f ts,sc,k,wI,hk,h=>by
  let(sp,hf,hr):=(show ∃ sp,u7 W sc k f sp/\fF W sc sp ts from h);let(s1,s2):=hf.strs w wI hk;let(g1,g2):=fF.good w ts sc sp wI s2 hr;show#[?_,?_]
  .show (f.ar ts.length&&mD ts)=true;rw[hr.len,hf.ar w,g1]
   rfl
  .show (f.strs.all FS.strOk&&rN ts)=true;rw[s1,g2]
   rfl
theorem fF.good{W:cZ}(w:iQ W):∀ (ts:!Tm) (sc:!(Str×Str)) (sp:!(!(Str×Str)×Str)),(∀ p∈sc,FS.strOk p.1=true)->(∀ e∈sp,FS.strOk e.2=true/\∀ p∈e.1,FS.strOk p.1=true)->fF W sc sp ts->mD ts=true/\rN ts=true
 | [],sc,sp,wI,hs,h=>#[U,U]
 | t::ts,sc,sp,wI,hs,h=>by
  let(e,r,rfl,h1,h2):=(show ∃ e r,sp=e::r/\Ty W (sc++e.1) e.2 t/\fF W sc r ts from h);let(e1,e2):=hs e Vx;let(a1,a2):=Ty.good w t (sc++e.1) e.2 (λp hp=>(VM.mp hp).elim (wI p) (e2 p)) e1 h1;let(b1,b2):=fF.good w ts sc r wI (λx hx=>hs x (Vy _ hx)) h2;exact#[by change (t.wf&&mD ts)=true;rw[a1,b1];rfl,by change (t.By&&rN ts)=true;rw[a2,b2];rfl]
end
structure PK where
 asked:Bool
 kd:Kd
 tabs:!(!(Str×Tm))
def eP(r:Str×Tm):D:=.tup [.str r.1,toD r.2]
def ND(rs:!(Str×Tm)):D:=.tup (rs.map eP)
def lU(x:j4×!(Str×Tm)):D:=.tup [.str x.1.name,jb x.1.fs,ND x.2]
def mq(x:iM×!(Str×Tm)):D:=.tup [.str x.1.name,jb x.1.ps,.str x.1.res,ND x.2]
def zR(p:PK):!D:=if p.asked=true then (p.kd.b8.zip p.tabs).map lU else (p.kd.cF.zip p.tabs).map mq
def Qu(p:PK):D:=if p.asked=true then .tup (p.kd.cF.map eQ) else .tup (p.kd.b8.map eL)
def F4(p:PK):D:=.tup [.str (bM p.asked),.str p.kd.name,Qu p,.tup (zR p)]
def wL(p:PK):!(Str×!(Str×Tm)):=(if p.asked=true then p.kd.b8.map j4.name else p.kd.cF.map iM.name).zip p.tabs
def kq(asked:Bool)(b:Str×!(Str×Tm)):!((Str×Str)×Tm):=b.2.map λr=>(if asked=true then (b.1,r.1) else (r.1,b.1),r.2)
def ents(p:PK):!((Str×Str)×Tm):=(wL p).flatMap (kq p.asked)
end DL
namespace DL
open PySem L2
theorem kT(b:Bool):decide (fv (.str (bM b))=fv (.str "asked"))=b:=by cases b<;>decide+kernel
theorem vj{W:cZ}(w:iQ W){kd:Kd}(hk:kd∈W.kinds){m:j4}(hm:m∈kd.b8){a:iM}(ha:a∈kd.cF):kY W (m.fs++a.ps):=by
 let(_,m2,m3,m4):=w.mo kd hk m hm;let(_,(a2,a3,a4),_):=w.ao kd hk a ha;have hh:W.heads.take 3++W.heads.drop 3=W.heads:=WX _ _;have hn:W.heads.Nodup:=(Wi.mp w.nd).1;have hs:((m.fs++a.ps).map (·.1)).Sublist W.heads:=by
  rw[VA,m3,a3];have:=XA (Ws m.fs.length (W.heads.take 3)) (Ws a.ps.length (W.heads.drop 3))
  rwa [hh] at this
 show#[by rw[Vw];cbv,hn.sublist hs,λp hp=>#[?_,.inl (hs.subset (VX hp))]];rcases VM.mp hp with h | h
 .exact m4 p h
 .exact a4 p h
theorem zZ{α β:Type}{F:α->β->Prop}:∀ {l₁:!α} {l₂:!β} {a:α} {b:β},Paired F l₁ l₂->F a b->Paired F (l₁++[a]) (l₂++[b])
 | _,_,a,b,.nil,h=>.cons h .nil
 | _,_,a,b,.cons r t,h=>.cons r (zZ t h)
end DL
namespace DL
open PySem PySem.Spec L2
theorem iF{α β:Type}{nt:Nat}{us:!Nat}{g:pN}{ti:mF}{te:aV}(h:α->D)(f:β->D)(Rl:α->β->Prop){Q:!D->DS->Prop}{s:DS}:∀ (xs:!α) {acc:!D},
  (∀ x∈xs,∀ (k:D->DS->Prop) (N:DS->Prop),(∀ (y:β) (s':DS),Rl x y->s'.os=s.os->k (f y) s')->(∀ s':DS,s'.os=s.os->N s')->g (h x) (gL nt us s) λs1=>ti s1 λb s2=>if b=true then te s2 k else N s2)->(∀ (sub:!α) (ys:!β),sub.Sublist xs->Paired Rl sub ys->Q (acc++ys.map f) s)->b4 nt us g ti te (xs.map h) acc s Q
 | [],acc,_,q=>by
  have:=q [] [] (Xd _) .nil;rw[Wj,VJ] at this;exact this
 | x::xs,acc,hx,q=>by
  show hx x Vx (λy s3=>b4 nt us g ti te (xs.map h) (acc++[y]) #[s.sl,s3.os] Q) (λs2=>b4 nt us g ti te (xs.map h) acc #[s.sl,s2.os] Q) (λy s' hy e=>?_) λs' e=>?_
  .show b4 nt us g ti te (xs.map h) (acc++[f y]) #[s.sl,s'.os] Q;rw[e];show iF h f Rl xs (λz hz=>hx z (Vy _ hz)) λsub ys hs hp=>?_;rw[VR];exact q (x::sub) (y::ys) (hs.cons_cons _) (.cons hy hp)
  .show b4 nt us g ti te (xs.map h) acc #[s.sl,s'.os] Q;rw[e];exact iF h f Rl xs (λz hz=>hx z (Vy _ hz)) λsub ys hs hp=>q sub ys (hs.cons _) hp
theorem ue{α:Type}(w:Int)(xs:!α):(lJ w xs).Perm xs:=by
 unfold lJ;split
 .exact List.Perm.refl _
 .exact List.reverse_perm _
theorem wg{α β:Type}(f:α->β)(w:Int)(xs:!α):lJ w (xs.map f)=(lJ w xs).map f:=by
 unfold lJ;split
 .rfl
 .rw[X1]
theorem Bg(b:Bool)(x:Str×!(Str×Tm)):(kq b x).length=x.2.length:=by unfold kq;rw[List.length_map]
theorem mC{b:Bool}{bs:!(Str×!(Str×Tm))}{e:(Str×Str)×Tm}(h:e∈bs.flatMap (kq b)):∃ x∈bs,∃ r∈x.2,e=(if b=true then (x.1,r.1) else (r.1,x.1),r.2):=by
 let(x,hx,he):=V3.mp h;let(r,hr,e):=VI.mp he;exact#[x,hx,r,hr,e.symm]
theorem sR{b:Bool}:∀ {bs:!(Str×!(Str×Tm))},(bs.map (·.1)).Nodup->(∀ x∈bs,(x.2.map (·.1)).Nodup)->((bs.flatMap (kq b)).map (·.1)).Nodup
 | [],_,_=>List.nodup_nil
 | x::bs,h1,h2=>by
  rw[VE,WO] at h1;rw[VS,VA,Wi];show#[?_,sR h1.2 λy hy=>h2 y (Vy _ hy),?_]
  .have:=h2 x Vx;unfold kq;rw[V2];rw[Xy,Xe] at this ⊢;show this.imp λ{a c} hac e=>hac ?_;cases b with
   | true=>exact (Prod.mk.inj e).2
   | false=>exact (Prod.mk.inj e).1
  .intro k hk k' hk' e;subst e;let(a,ha,rfl):=VI.mp hk;let(c,hc,ec):=VI.mp hk';let(r,hr,rfl):=VI.mp ha;let(y,hy,r2,hr2,rfl):=mC hc;show h1.1 ?_;have:y.1=x.1:=by
    cases b with
    | true=>exact (Prod.mk.inj ec).1
    | false=>exact (Prod.mk.inj ec).2
   rw[<- this];exact VX hy
theorem Ah{b:Bool}:∀ {bs:!(Str×!(Str×Tm))},(∀ x∈bs,x.2.length<=5)->(bs.flatMap (kq b)).length<=5 * bs.length
 | [],_=>VT _
 | x::bs,h=>by
  have h1:=h x Vx;have h2:=Ah (b:=b) λy hy=>h y (Vy _ hy);rw[VS,Vw,Bg,VD];cbv
theorem uV{W:cZ}(w:iQ W){kd:Kd}(hk:kd∈W.kinds):(kd.b8.map j4.name).Nodup:=by
 let(a,c,e):=List.append_of_mem hk;have:=w.mn;rw[e,VU,VS] at this;exact (Wi.mp (Wi.mp this).2.1).1
theorem uu{W:cZ}(w:iQ W){kd:Kd}(hk:kd∈W.kinds):(kd.cF.map iM.name).Nodup:=by
 let(a,c,e):=List.append_of_mem hk;have:=w.an;rw[e,VU,VS] at this;exact (Wi.mp (Wi.mp this).2.1).1
theorem jZ{W:cZ}(w:iQ W){kd:Kd}(hk:kd∈W.kinds){m:j4}(hm:m∈kd.b8){a:iM}(ha:a∈kd.cF){t:Tm}(h:Ty W (m.fs++a.ps) a.res t):t.wf=true/\t.By=true :=
 Ty.good w t _ _ (λp hp=>((DL.vj w hk hm ha).nm w p hp).ok) ((w.ao kd hk a ha).2.2.ok w) h
end DL
namespace DL
open PySem L2
theorem map_one{α:Type}{f:α->Str}{l:!α}(h:(l.map f).Nodup){a b:α}(ha:a∈l)(hb:b∈l)(e:f a=f b):a=b:=by
 let(i,hi,rfl):=Wh ha;let(j,hj,rfl):=Wh hb;have h2:(l.map f)[i]'(by simpa using hi)=(l.map f)[j]'(by simpa using hj):=by simpa using e
 have:=(X0 h).mp h2;subst this
 rfl
theorem wZ{α β:Type}{l:!α}{m:!β}{a:α}{b:β}(h:m.length=l.length):(l++[a]).zip (m++[b])=l.zip m++[(a,b)]:=by
 rw[List.zip_append (by cbv)]
 rfl
end DL
namespace Mb
open PySem Sem
open PySem.AutoSeq1 (wpAny_loadPart')
section
variable{prog:Fk}{w:FB}{A:Fr}{E:Yb}{s:Cl}
theorem Se(id:String)(c:Int)(tk:Tok):FM.SmallTypes.indexObject id (AC.int c tk)=Pure.pure (AC.int c tk):=by
 unfold FM.SmallTypes.indexObject;have h:asInt? (AC.int c tk)=Pure.pure (some c):=rfl;rw[h,pure_bind]
 rfl
theorem Au(l:AT)(xs:Array AC)(k c:Nat)(tk:Tok)(od:Option AT)(sl:Array (Option AC))(hc:FM.SmallTypes.fitsIndex (c:Int)=true) :
  Meets (FM.«enumerate.__new__» #[[.type "enumerate",.ref l],[("start",.int c tk)]]) λ_ R s=>s.heap.get? l=some #[.type "tuple",od,.seq xs k,sl] /\
   R (.ok (.ret (.ref (s.heap.push { cls:=.type "tuple_iterator",data:=.fields #v[.ref l,.int 0 0] }).objs.size)))
    { s with heap:=(s.heap.push { cls:=.type "tuple_iterator",data:=.fields #v[.ref l,.int 0 0] }).push { cls:=.type "enumerate",data:=.fields #v[.none,.bool false,.ref ↑s,IR c,.none,.none] } } :=
 .of_wp λprog w A R s h=>by
  let(hp,g,d,t,os):=s;let(hl,h):=h;have hs:=sub_enumerate;have hT:Db.IsTuple (Cl.heap #[hp,g,d,t,os]) l xs:=#[_,hl,U,k,U]
  wp_walk using wpAny_loadPart' hl
  show wpAny_stack_any λst=>EQ ?_;have hc':(not (FM.SmallTypes.fitsIndex (c:Int)))=false:=by rw[hc];rfl
  split
  .rename_i v _ _ _ _ _
   extract_lets z gv dj
   have hd:∀ x:AC×Option AC,x=(AC.ref l,some (AC.int c tk))->Da (model prog w) A.in1 (dj x) (λfin s'=>∃ v,fin=Fin.done (Flow.ret v)/\R (.ok (.ret v)) s') (λe s'=>R (.error e) s') #[hp,g,d,t,os]:=by
    rintro _ rfl;dsimp only[dj];rw[Se,pure_bind,show asInt? (AC.int c tk)=Pure.pure (some (c:Int)) from U,pure_bind];dsimp only;rw[hc',if_neg VN]
    wp_walk using wpAny_loadPart' hl,wpAny_pyIter_tuple hT
    exact#[_,U,h]
   clear_value dj
   cases (v == AC.type "enumerate")
   .simp only[Bool.false_eq_true,if_false];show BT ?_;show wpAny_of_eq (a:=(AC.ref l,some (AC.int c tk))) ?_ (hd _ U)
    kernel_rfl
   .simp only[if_true];show BT ?_;show wpAny_of_eq (a:=(AC.ref l,some (AC.int c tk))) ?_ (hd _ U)
    kernel_rfl
  .extract_lets z gv dj
   have hd:∀ x:AC×Option AC,x=(AC.ref l,some (AC.int c tk))->Da (model prog w) A.in1 (dj x) (λfin s'=>∃ v,fin=Fin.done (Flow.ret v)/\R (.ok (.ret v)) s') (λe s'=>R (.error e) s') #[hp,g,d,t,os]:=by
    rintro _ rfl;dsimp only[dj];rw[Se,pure_bind,show asInt? (AC.int c tk)=Pure.pure (some (c:Int)) from U,pure_bind];dsimp only;rw[hc',if_neg VN]
    wp_walk using wpAny_loadPart' hl,wpAny_pyIter_tuple hT
    exact#[_,U,h]
   clear_value dj
   simp only[Bool.false_eq_true,if_false];show BT ?_;show wpAny_of_eq (a:=(AC.ref l,some (AC.int c tk))) ?_ (hd _ U)
   kernel_rfl
theorem FR{T mk:String}{self:AC}{more:!AC}{kw:!(Str×AC)}(h1:typeLookup (.type T) "__init__"=Pure.pure (some (.builtin "object.__init__")))(h2:Bind.madeBy (.type T)=Pure.pure (some mk))(h3:(some mk != some "object.__new__")=true)(h4:more≠[]) :
  Meets (FM.«object.__init__» #[self::more,kw]) (λ_ R s=>s.TypeIs self T/\R (.ok (.ret .none)) s):=by
 show Meets.of_wp λprog w A R s hs=>?_;let(hT,q):=hs;cases more with
 | nil=>exact absurd U h4
 | cons a r =>
  repeat (any_goals (first | assumption | wp_step))
  exact#[_,U,q]
theorem Hy{T mk Ru:String}{N I:FM}{ps:!AC}{kw:!(Str×AC)}{S:Spec}{Q Q1:Yb}(ft:TypeCalled T mk Ru)(h1:checkTypeCall T #[ps,kw]=Pure.pure Unit.unit)(h2:checkBuiltinCall mk #[.type T::ps,kw]=Pure.pure Unit.unit)(eN:entryFor table mk=some N)(eI:entryFor table Ru=some I)(g:Meets (N #[.type T::ps,kw]) S)(h:S A.in1 (wants Q1 E) s)(hn:∀ o s1,Q1 o s1->s1.TypeIs o T/\argsOk Ru #[o::ps,kw]/\∃ Si,Meets (I #[o::ps,kw]) Si/\Si A.in1 (wants (λr s2=>r=.none/\Q o s2) E) s1) :
  Da (model prog w) A (call (.type T) ps kw) Q E s:=by
 let(c0,tl,m1):=ft.mro;have m2:=ft.made;have m3:=ft.sub;show wpAny_call (codeAny_of_tree ?_);show EQ #[Code.quiet_builtin _ (by decide+kernel),codeAny_builtin F.entry_type_call ?_];rw[Fr.under_plain (weight_type_call_type T ps kw) (units_type_call_type T ps kw)];have m4:=ft.notType;have m5:=ft.canCreate
 repeat (any_goals (first | assumption | wp_step))
 show codeAny_mono (codeAny_call_builtin ft.plain eN (wpAny_of_eq h2 (g prog w A.in1 _ s h))) λr s1 hr=>?_;cases r with
 | error e=>exact hr
 | ok fl =>
  cases fl with
  | ret o =>
   let(hT,ho,Si,gi,hi):=hn _ _ hr;have m6:=ft.init.lookup;have m7:=ft.init.bind o
   repeat (any_goals (first | assumption | wp_step))
   show codeAny_mono (codeAny_call_builtin ft.init.plain eI (ft.init.check _ _ _ _ _ _ _ _ hT ho (gi prog w A.in1 _ s1 hi))) λr2 s2 hr2=>?_;cases r2 with
   | error e=>exact hr2
   | ok fl2 =>
    cases fl2 with
    | ret r =>
     let(rfl,hq):=hr2
     repeat (any_goals (first | assumption | wp_step))
    | _=>exact hr2.elim
  | _=>exact hr.elim
theorem KZ(x:AC)(c:Int)(tk:Tok):checkTypeCall "enumerate" #[[x],[("start",.int c tk)]]=Pure.pure Unit.unit:=by kernel_rfl
theorem Ke(x:AC)(c:Int)(tk:Tok):checkBuiltinCall "enumerate.__new__" #[[.type "enumerate",x],[("start",.int c tk)]]=Pure.pure Unit.unit:=by kernel_rfl
theorem Jw(o x:AC)(c:Int)(tk:Tok):argsOk "object.__init__" #[[o,x],[("start",.int c tk)]]:=by
 unfold argsOk;rw[signature?_of (id:="object.__init__") (n:=['_','_','t','i','n','i','_','_']) (o:=['t','c','e','j','b','o']) (by kernel_rfl) F.owner_object]
 kernel_rfl
theorem xO{l:AT}{xs:Array AC}{c:Nat}{tk:Tok}{Q:Yb}(hL:s.heap.IsTuple l xs)(hc:(c:Int) < 2 ^ 63)(h:∀ h',IsEnum h' (↑s+1) ↑s c .none->h'.IsTupleIter ↑s l 0->(∀ b o,s.heap.get? b=some o->h'.get? b=some o)->Q (.ref (↑s+1)) { s with heap:=h' }) :
  Da (model prog w) A (call (.type "enumerate") [.ref l] [("start",.int c tk)]) Q E s:=by
 let((cl,od,dt,sl),hl,e1,k,e2):=hL
 replace e1:cl=.type "tuple":=e1
 replace e2:dt=.seq xs k:=e2
 subst e1 e2;have hf:FM.SmallTypes.fitsIndex (c:Int)=true:=by
  unfold FM.SmallTypes.fitsIndex;simp only[Bool.and_eq_true,decide_eq_true_eq];cbv
 have z:(s.heap.push { cls:=.type "tuple_iterator",data:=.fields #v[.ref l,.int 0 0] }).objs.size=↑s+1:=Wl ..;have q:IsEnum ((s.heap.push { cls:=.type "tuple_iterator",data:=.fields #v[.ref l,.int 0 0] }).push { cls:=.type "enumerate",data:=.fields #v[.none,.bool false,.ref ↑s,IR c,.none,.none] }) (↑s+1) ↑s c .none:=by
  have:=VP (s.heap.push { cls:=.type "tuple_iterator",data:=.fields #v[.ref l,.int 0 0] }) (o:={ cls:=.type "enumerate",data:=.fields #v[.none,.bool false,.ref ↑s,IR c,.none,.none] }) U
  rwa [z] at this
 show Hy (Q1:=λo s1=>s1.TypeIs o "enumerate"/\Q o s1) F.called_enumerate (KZ _ _ _) (Ke _ _ _) F.entry_enumerate_new F.entry_object_init (Au l xs k c tk od sl hf) #[hl,?_] λo s1 hq=>#[hq.1,Jw _ _ _ _,_,FR F.called_enumerate.init.lookup F.called_enumerate.made () (by simp),hq.1,U,hq.2];change _/\_;rw[z];exact#[#[_,q,U],h _ q #[_,Vz _ (VP _ U),U,U] λb o x=>Vz _ (Vz _ x)]
theorem shift{it:AT}{fp:!AT}{n:Nat}{P:Nat->AC->Prop}{St:Nat->Db->Prop}(D:Draws prog w A it fp n P St)(c:Nat):Draws prog w A it fp (c+n) (λi v=>∃ j,i=c+j/\P j v) (λi h=>∃ j,i=c+j/\St j h) where
 live:=λ_ h #[j,_,st]=>D.live j h st
 frame:=λ_ h h' #[j,e,st] k=>#[j,e,D.frame j h h' st k]
 item:=λi s Q E hi #[j,e,st] hQ=>D.item j s Q E (by cbv) st λx h' tk p st' sb=>hQ x h' tk #[j,e,p] #[j+1,by cbv,st'] sb
 done:=λs Q E #[j,e,st] hE=>D.done s Q E (by rw[show n=j by cbv];exact st) hE
theorem Dm{e it l:AT}{i:Nat}{c:Int}{xs:Array AC}{old:AC}{Q:Option AC->Cl->Prop}(hh:A.handled=none)(he:IsEnum s.heap e it c old)(hit:s.heap.IsTupleIter it l i)(hl:s.heap.IsTuple l xs)(hx:xs[i]?=none)(hQ:∀ h',Db.ExtBut it s.heap h'->Q none { s with heap:=h' }):Da (model prog w) A (pyNext (.ref e)) Q E s:=by
 have hT:s.TypeIs (.ref e) "enumerate":=#[_,he,U];unfold pyNext;show BT (wpAny_attempt (wpAny_callSpecial?_slot (name:=Str.ofString "__next__") hT F.slot_enumerate_next (Ps F.slot_enumerate_next hT F.entry_enumerate_next ?_ (F.args_enumerate_next_1 _))));change Da _ _ (field (.ref e) 2 >>= _) _ _ _;show BT (KF he U (x:=.ref it) U ?_);show BT (LB.eU hh hit hl hx λh' x he' hx'=>?_);let(o,ho,hc):=hx';show BT (wpAny_isInstance (T:="StopIteration") (b:=true) #[o,ho,hc] isSubtype_stop ?_);exact EQ (hQ _ he')
end
end Mb
namespace L2
open PySem PySem.Spec
open PyProof.Rows hiding St
def Sz(K:Frag)(c:Nat)(a:AT):It :=
 #[λi H=>∃ xs x,ir K H a xs/\xs[i]?=some x,λi H x H'=>∃ p,H p=none/\x=.ref p/\∀ xs,ir K H a xs->∃ y,xs[i]?=some y/\H'=upd H p (.tup [.int (c+i:Nat),y]),λi H=>∃ xs,ir K H a xs/\xs.length<=i]
section
variable{P:Fk}{w:FB}{K:Frag}
theorem xW{elts:!Ch}{k:Nat}{mV:Pos}(c:Nat)(a it e:AT)(Rz:e≠it):Turn P w K (.Tuple elts k mV) (Sz K c a) [e,it] e (λi h=>(∃ old,IsEnum h e it (c+i:Nat) old)/\h.IsTupleIter it a i) where
 mem:=by simp
 obj:=λi h st b hb=>by
  rcases VG.mp hb with rfl | hb
  .let((old,he),_):=st;exact#[_,he,λv z=>by
    have z':Data.fields _=Data.cell v:=z;cases z']
  .rw[VH.mp hb];exact iG.obj (tup:=true) st.2
 keep:=λi h h' st kk=>#[let #[old,he]:=st.1;#[old,kk e (by simp) _ he],st.2.at λo x=>kk it (by simp) o x]
 item:=by
  intro X hP hw hK hc i TD s σ H E I hf st hg;subst hP hw hK;let((old,he),hit):=st;let(xs,x,hq,hx):=hg;have hd:(X.A.in1).handled=none:=I.ok.hd hc;have helt:e < ↑s:=VL he;let(its,rv,p,hz):=I.tuple hq;have hef:e∉[it,a]:=λhm=>by
   rcases VG.mp hm with z | hm
   .exact Rz z
   .have z:e=a:=VH.mp hm;subst z;let(o,e1,c1,_):=p;rw[he] at e1;cases e1;exact absurd c1 (by change ¬ AC.type "enumerate"=AC.type "tuple";decide)
  have hai:a≠it:=λz=>by
   subst z;let(o,e1,c1,_):=p;let(o',e2,c2,_):=hit;rw[e1] at e2;cases e2;rw[c1] at c2;exact absurd c2 ()
  let(u,hu,ru):=rv.get hx;have hi:i < its.toArray.size:=by
   have:=(VC.mp hu).1;simpa using this
  show wpAny_pyNext_enum_itemD (Mb.shift (LB.C2 hd it a hai its.toArray) c) he #[i,U,hit,p] (by cbv) Rz hef λy h' tk hy ho Ia hT hsz hk=>?_;let(j,ej,hy):=hy;let(j',ej',Ia,_):=Ia;have:j=i:=by cbv
  subst this;have:j'=j+1:=by cbv
  subst this;have e:y=u:=by
   have hy':its[j]?=some y:=by simpa using hy
   rw[hu] at hy';exact (V5 hy').symm
  subst e;show#[_,U,?_];show wpAny_letOwnedTupleGo_enum (s:={ s with heap:=h',toks:=tk+1 }) ho λh2 he2 xc=>?_;have hkeep:∀ b o,b≠e->b≠it->s.heap.get? b=some o->h2.get? b=some o:=λb o h1 h2' h3=>(xc.2 b h1).trans (hk b o h1 h2' h3);have hTe:↑s≠e:=W7 helt;have hfr:H ↑s=none:=I.aZ.fresh (VB _);have I1:Inv X TD σ (upd H ↑s (.tup [.int (c+j:Nat),x])) { s with heap:=h2,toks:=tk+1 } :=
   Inv.uS I (λb o hb q=>hkeep b o (λz=>hb (by simp[z])) (λz=>hb (by simp[z])) q) hf (Nat.le_refl _)
    #[by change 2<=Ev;decide,[.int (c+j:Nat) tk,y],.cons #[tk,U] (.cons ru .nil),#[_,(xc.2 _ hTe).trans hT,U,_,U]]
  show#[.ref ↑s,_,I1,U,#[↑s,hfr,U,λzs hz=>#[x,by rw[I.mZ hz hq];exact hx,U]],#[#[y,he2],Ia.at λo y=>(xc.2 it Rz.symm).trans y],λb hb=>?_];have hb':b < ↑s:=by
   rcases VG.mp hb with rfl | hb
   .exact helt
   .rw[VH.mp hb];let(o,y,_):=hit;exact VL y
  rw[aw (VW hb')];exact (hf b hb).1
 done:=by
  intro X hP hw hK hc i TD s σ H E I hf st hg;subst hP hw hK;let((old,he),hit):=st;let(xs,hq,hx):=hg;let(its,rv,p,hz):=I.tuple hq;have hn:its.toArray[i]?=none:=by
   have:=rv.length;simp;cbv
  exact Mb.Dm (I.ok.hd hc) he hit p hn λh' eb=>#[U,Inv.oS (t':=s.toks) I (λb o hb q=>eb b o (λz=>hb (by simp[z])) q) hf]
 self:=λ_ _ _ _ _ st h=>by
  let((old,he),_):=st;exact wpAny_pyIter_enum he h
section
variable{M:Model}{A:Fr}{E:Yb}{s:Cl}{env:Env}
theorem Nd{f:Ch}{as:!Ch}{ks:!NE}{pos:Pos}{Q:Yb}(h:Da M A (eval f env) (λv s1=>Da M A (callWith pos v [] (Go pos (GE as env)) (Rs pos (SL ks env))) Q E s1) E s)(he:(eval (.Call f as ks pos) env=(do callWith pos (<- eval f env) [] (Go pos (GE as env)) (Rs pos (SL ks env))))⁻¹):Da M A (eval (.Call f as ks pos) env) Q E s:=by
 rw[he];exact BT h
theorem vm{T:String}{pos:Pos}{as:!(Bool×Sem AC)}{ks:!(Option Str×Sem AC)}{Q:Yb}(h1:as.any (·.1)=false)(h2:ks.any (·.1.isNone)=false)(h:Da M A (evalArgs (.type T) true as ks) (λa s1=>Da M A (call (.type T) a.pos a.kw) Q E s1) E s):Da M A (callWith pos (.type T) [] as ks) Q E s:=by
 unfold callWith;show BT (KK (b3 h λa s1 q=>BT (wpAny_standAt ?_)));simp only[h1,h2,Bool.or_false];show BT (EQ ?_);exact BT (b3 q λr s2 hr=>BT (KK (wpAny_point (EQ hr))))
end
section
variable{X:Cx}
def QC(K:Frag)(t:TA)(u:TE):TI:=λσ H R=>t σ H λvs H1=>u σ H1 λcv H2=>∃ (a:AT) (xs:!V) (c:Nat),vs=[.ref a]/\cv=.int c/\(c:Int) < 2 ^ 63/\ir K H2 a xs/\(xs.length<=Ev->R (Sz K c a) H2)
theorem KJ{elts:!Ch}{k:Nat}{mV p pos kp:Pos}{a e:Ch}{t:TA}{u:TE}(hg:Gl X "enumerate")(hm:X.mg "enumerate"=none)(ha:PA X [a] t)(he:PE X e u)(hs:(GE [a] X.env=[(false,eval a X.env)])⁻¹):PI X (.Tuple elts k mV) (.Call (.Name "enumerate" p) [a] [#[some "start",e,kp]] pos) (QC X.K t u):=by
 intro TD s σ H R I h;show Nd (g0 I hg hm (u:=.type "enumerate") (by decide+kernel) ?_);have hb:Go pos (GE [a] X.env)=(false,eval a X.env)::Go pos (GE [] X.env):=by rw[hs];rfl
 show vm (by rw[hb];rfl) U ?_;rw[hb];show evalArgs_kwB U ?_;rw[<- hb];show b3 (ha pos TD s σ H _ I h) λus s1 zz=>el2 zz λvs H1 I1 r1 q1=>?_;show kws_cons (b3 (he TD s1 σ H1 _ I1 q1) λcu s2 zz=>el2 zz λcv H2 I2 rc q2=>kws_nil ?_);let(a,xs,c,rfl,rfl,hc,hq,q):=q2;let(u0,rfl,ru):=Vals.one r1;cases ru;let(tk,rfl):=rc;have fp:∀ b∈[↑s2+1,↑s2],fX X TD H2 b:=λb hb=>by
  have hle:↑s2<=b:=by
   rcases VG.mp hb with rfl | hb
   .cbv
   .rw[VH.mp hb];exact VB _
  exact I2.rB hle (I2.aZ.fresh hle)
 let(its,rv,pp,hz):=I2.tuple hq;show Mb.xO (xs:=its.toArray) pp hc λh' en hit hk=>?_;show wpAny_pyIter_enum en ?_;exact#[↑s2+1,_,_,_,H2,U,I2.kept (t':=s2.toks) hk,xW c a ↑s2 (↑s2+1) (Nat.succ_ne_self _),#[#[_,en],hit],fp,q hz]
end
end
end L2
namespace DL
open PySem PySem.Spec L2
open PyProof.Rows hiding St
section
variable{X:Cx}{c:Ent}
def pE(n:Nat)(ds:!D):!D:=(List.range ds.length).zipWith (λi d=>.tup [.int (n+i:Nat),d]) ds
theorem AI{n:Nat}{ds:!D}{i:Nat}{d:D}(h:(pE n ds)[i]?=some d):∃ x,ds[i]?=some x/\d=.tup [.int (n+i:Nat),x]:=by
 unfold pE at h;rw[X4] at h;cases e:ds[i]? with
 | none =>
  rw[e] at h;cases e2:(List.range ds.length)[i]? with
  | none=>rw[e2] at h;cases h
  | some j=>rw[e2] at h;cases h
 | some x =>
  have hl:=(VC.mp e).1;rw[e,XB hl] at h;cases h;exact#[x,U,U]
theorem sZ{n:Nat}{ds:!D}:(pE n ds).length=ds.length:=by simp[pE]
def Oh(t:fW)(u:aV):fW:=λs Q=>t s λas s1=>u s1 λv s2=>∃ ds n,as=[.tup ds]/\v=.int (n:Nat)/\(n:Int) < 2 ^ 63/\Q (pE n ds) s2
theorem NP{elts:!Ch}{k:Nat}{mV p pos kp:Pos}{a e:Ch}{t:fW}{u:aV}(hg:Gl X "enumerate")(hm:X.mg "enumerate"=none)(ha:DA X c [a] t)(he:DE X c e u)(hs:(GE [a] X.env=[(false,eval a X.env)])⁻¹):DI X c (.Tuple elts k mV) (.Call (.Name "enumerate" p) [a] [#[some "start",e,kp]] pos) (Oh t u) :=
 #[λTD s σ H R I zz=>dq zz λM s0 as R0 L q k=>KJ hg hm ha.pa he.pe hs TD s σ H R I
  #[M,s0,as,_,L,q,λads s1 q1 M1 H1 vs L1 E1 rv _=>#[M1,s1,as,_,L1,q1,λcd s2 z7r M2 H2 cv L2 E2 rc=>by
   let(ds,n,ed,ec,hn,q2):=z7r;subst ed ec;let(v,ev,rw1):=cV rv;subst ev;let(a,xs,rfl,h,r):=E2.rep L1 rw1;have rc:cv=.int (n:Nat):=rc;show#[a,xs,n,U,rc,hn,h.sq,λhl=>k _ s2 q2 M2 H2 _ L2 (E1.trans L1.base E2) (λM3 H3 G=>?_) (by rw[sZ,<- r.length];exact hl)];have h2:=(h.mono (λb m=>(G b m).1) λb o m e=>(G b m).2 o e).sq;have r2:=G.vK r;show#[λi hi=>#[xs,h2,by rw[r.length];rw[sZ] at hi;exact hi],λi d hd=>?_];let(y,hy,rfl):=AI hd;let(v,g1,g2):=r2.get hy;show#[#[xs,v,h2,g1],λx H3 #[b,hb,ex,hx]=>.inr ?_];let(w,w1,w2):=hx xs h2;rw[g1] at w1;cases w1;subst w2;exact#[b,_,hb,U,b,_,ex,#[.inr U,aA],#[_,_,U,U,_,_,U,qG hb g2,U]]]]]
end
end DL
namespace Mb
open PySem Sem
section
variable{prog:Fk}{w:FB}{A:Fr}{E:Yb}{h:Db}{g:Array GenState}{d:Drawn}{t:Nat}{os:OsState}{a:AT}{o:Obj}
end
end Mb
namespace L2
open PySem PySem.Spec
open PyProof.Rows hiding St
section
variable{X:Cx}{TD:Yc}{σ:St}
end
end L2
namespace DL
open PySem PySem.Spec L2
section
variable{X:Cx}{c:Ent}
end
end DL
namespace HT
open PySem PySem.Spec PyProof.Rows
open PySem.AutoSeq1
theorem tuple_addW0(l b:AT)(items Kz:Array AC)(n n2:Nat)(dd LW:Option AT)(sl Md:Array (Option AC))(UR:items.isEmpty=true) :
  Meets (FM.«tuple.__add__» #[[.ref l,.ref b],[]]) (λ_ R s=>s.heap.get? l=some #[.type "tuple",dd,.seq items n,sl]/\s.heap.get? b=some #[.type "tuple",LW,.seq Kz n2,Md]/\R (.ok (.ret (.ref b))) s) :=
 .of_wp λprog w A R s h=>by
  let(hp,g,d,tk,os):=s;let(hl,hb,h):=h;have f2:=PySem.AutoSeq1.sub_tuple_tuple
  wp_walk using wpAny_loadPart' hl,wpAny_loadPart' hb
  exact#[_,U,h]
section
variable{prog:Fk}{w:FB}{A:Fr}{E:Yb}{s:Cl}
theorem Dl{t b:AT}{ws:!AC}{Q:Yb}(ht:IsTup s.heap t ([]:!AC).toArray)(hb:IsTup s.heap b ws.toArray)(h:Q (.ref b) s):Da (model prog w) A (Os .Add (.ref t) (.ref b)) Q E s:=by
 let((cls,dd,data,sl),ho,hc,n,hd):=id ht;let((cls2,LW,data2,Md),ho2,hc2,n2,hd2):=id hb;simp only at hc hd hc2 hd2;subst hc hd hc2 hd2;exact concat_meets #[_,ho,U] #[_,ho2,U] noFill_tuple_add seq_tuple_add XW XM (XF _ _) (tuple_addW0 t b _ ws.toArray n n2 dd LW sl Md U) #[ho,ho2,h]
end
end HT
namespace L2
open PySem PySem.Spec PyProof.Rows
section
variable{X:Cx}
def IB(K:Frag):R2:=λx y H Q=>∃ a b xs ys,x=.ref a/\y=.ref b/\ir K H a xs/\ir K H b ys/\xs.length+ys.length<=Ev/\(xs=[]->Q (.ref b) H)/\(xs≠[]->ys=[]->Q (.ref a) H)/\(xs≠[]->ys≠[]->∀ p,H p=none->Q (.ref p) (upd H p (.tup (xs++ys))))
theorem zT:ja X (Os .Add) (IB X.K):=by
 intro TD s σ H x y v u Q I rx ry h;let(a,b,xs,ys,rfl,rfl,ha,hb,hz,q0,q1,q2):=h;by_cases hx:xs=[]
 .cases rx;cases ry;let(its,r1,p1,_):=I.tuple ha;let(dM,r2,p2,_):=I.tuple hb;have e:its=[]:=r1.oW.mpr hx;subst e;exact HT.Dl p1 p2 #[.ref b,H,I,U,q0 hx]
 .exact Ac TD s σ H _ _ v u Q I rx ry #[a,b,xs,ys,U,U,ha,hb,hx,hz,q1 hx,q2 hx]
end
end L2
namespace DL
open PySem PySem.Spec L2
section
variable{X:Cx}{c:Ent}
def Oy:D->D->(D->Prop)->Prop:=λa b k=>∃ xs ys,a=.tup xs/\b=.tup ys/\xs.length+ys.length<=Ev/\k (.tup (xs++ys))
theorem Fx:nF X c (IB X.K) Oy:=λM s as σ H x y dx dy k Q L rx ry z8r kk=>by
 let(xs,ys,e1,e2,hl,hk):=z8r;subst e1;subst e2;let(p,vs,rfl,t,r):=rx;let(p',vs',rfl,t',r'):=ry;show#[p,p',vs,vs',U,U,t.sq,t'.sq,by rw[r.length,r'.length];exact hl,λz=>?_,λ_ z=>?_,λ_ z q hq=>?_]
 .have:=r.length;rw[z] at this;have e:xs=[]:=Wf this.symm;subst e;rw[VY] at hk;exact kk _ hk M H _ L .refl #[p',vs',U,t',r']
 .have:=r'.length;rw[z] at this;have e:ys=[]:=Wf this.symm;subst e;rw[VJ] at hk;exact kk _ hk M H _ L .refl #[p,vs,U,t,r]
 .exact kk _ hk _ _ _ (L.fresh hq) (Ext.fresh hq) #[q,vs++vs',U,#[.inr U,aA],iR hq (r.append r')]
end
end DL
namespace DL
open PySem PySem.Spec L2
open PyProof.Rows hiding St
mutual
noncomputable def Ey:D->Bool
 | .lst _=>false
 | .vv _ _=>false
 | .j9 _ _=>false
 | .yR _ _=>false
 | .tup ds=>zJ ds
 | _=>true
noncomputable def zJ:!D->Bool
 | []=>true
 | d::ds=>Ey d&&zJ ds
end
section
variable{K:Frag}{H:Hp}{M:AT->Prop}{a:AT}
mutual
theorem Rep.off(na:∀ xs,H a≠some (.tup xs)):∀ (d:D) (v:V),Ey d=true->Rep K H M d v->Rep K H (λb=>M b/\b≠a) d v
 | .cA,v,_,h=>h
 | .bl b,v,_,h=>h
 | .int i,v,_,h=>h
 | .str x,v,_,h=>h
 | .fO a,v,_,h=>h
 | .ty n,v,_,h=>h
 | .tup ds,v,t,h=>by
  let(b,xs,e,(m,q),r):=h;exact#[b,xs,e,#[#[m,λz=>na xs (z▸q)],q],ay.off na ds xs t r]
 | .lst ds,v,t,h=>(nomatch t)
 | .vv ks vs,v,t,h=>(nomatch t)
 | .j9 ks vs,v,t,h=>(nomatch t)
 | .yR ks vs,v,t,h=>(nomatch t)
theorem ay.off(na:∀ xs,H a≠some (.tup xs)):∀ (ds:!D) (vs:!V),zJ ds=true->ay K H M ds vs->ay K H (λb=>M b/\b≠a) ds vs
 | [],vs,_,h=>h
 | d::ds,vs,t,h=>by
  let(x,r,e,h1,h2):=h;have t:(Ey d&&zJ ds)=true:=t;rw[V1] at t;exact#[x,r,e,Rep.off na d x t.1 h1,ay.off na ds r t.2 h2]
end
end
section
variable{X:Cx}{c:Ent}{k:Nat}{f:AT}{fd:Ix}{ps:!Str}{t:Yd}{x:Str}{p pos:Pos}{e ex:Ch}{te:aV}
def BS(t:Yd)(te:aV)(i:Nat):aV:=λs Q=>te s λd0 s1=>(∃ d1,s1.sl[i]?=some (.dat d1)/\t [d0,d1] λd=>Q d s1)\/(∃ k d1,s1.sl[i]?=some (.own k)/\s1.os[k]?=some (some d1)/\t [d0,d1] λd=>Ey d=true/\Q d s1)
theorem Ho{i:Nat}(hr:dE k X.A)(hg:Gl X x)(hm:X.mg x=some (.ref f))(hk:keepIn X.K (.ref f)=true)(hb:Binds X.K fd ps [])(h0:DE X c e te)(hx:PE X ex (bG i))(F:eV X.prog X.w X.K X.mg X.base aQ k f fd ps (cg X.K .no t))(kg: ~~~(Yg x))(he:(GE (e::[ex]) X.env=(false,eval e X.env)::GE [ex] X.env)⁻¹)(hs:(GE [ex] X.env=[(false,eval ex X.env)])⁻¹)(g6:((Go pos (GE [ex] X.env)).any (·.1)=false)⁻¹) :
  DE X c (.Call (.Name x p) [e,ex] [] pos) (BS t te i):=#[(jV F hr hg hm hk hb .nil (E:=E0) tF (cq h0.pe (cq hx d6 hs) he) kg he g6).imp λσ H Q zz=>dq zz λM s as R L q kk =>
 #[M,s,as,_,L,q,λd0 s1 q1 M1 H1 v0 L1 E1 r0=>by
  rcases q1 with ⟨d1,g1,q1⟩ | ⟨k,d1,g1,g2,q1⟩
  .let(v1,h1,r1):=L1.dat i d1 g1;exact#[v1,h1,M1,[d0,d1],_,L1.base.Ej,#[v0,[v1],U,r0,ay.one r1],q1,λd rd M' H' v B rv=>kk d s1 rd M' H' v (L1.after (L1.base.pS B)) (E1.trans L1.base (Ext.after (L1.base.pS B))) rv]
  .let(a,o,h1,h2,h3,h4):=L1.slot g1 g2;have nM:¬ M1 a:=(L1.obj k d1 a g2 h1).2.1;have nt:∀ xs,o≠.tup xs:=λxs z=>by subst z;exact h4.Az
   have mk:∀ b u,M1 b->H1 b=some u->H1 b=some u:=λ_ _ _ e=>e;show#[_,h2,λb=>M1 b\/b=a,[d0,d1],_,#[trivial,λ_ _ e _=>e,λb m=>?_,λ_ _ h=>h,λ_ m=>m,λ_ m=>.inl m],#[v0,[.ref a],U,Rep.mono (λ_ m=>.inl m) mk d0 v0 r0,ay.one ((h4.mono (λ_ m=>.inl m) mk).rep h3 (.inr U))],q1,λd #[td,rd] M' H' v B rv=>?_]
   .rcases m with m | rfl
    .exact L1.base.md b m
    .exact#[o,h3]
   .have ha:H' a=some o:=B.fr a o h3 λz=>z;have B3:Base #[.no,M1,H1] (λb=>M' b/\b≠a) H':=#[trivial,B.fr,λb m=>B.md b m.1,λ_ _ h=>h,λb m=>#[B.m0 b (.inl m),λz=>nM (z▸m)],λb m=>by
     rcases B.mn b m.1 with z | z
     .rcases z with z | z
      .exact .inl z
      .exact absurd z m.2
     .exact .inr z]
    exact kk d s1 rd _ H' v (L1.after (L1.base.pS B3)) (E1.trans L1.base (Ext.after (L1.base.pS B3))) (Rep.off (λxs z=>nt xs (by rw[ha] at z;injection z)) d v td rv)]]
end
end DL
namespace DL
open PySem L2
end DL
namespace DL
open PySem PySem.Spec L2
open PyProof.Rows hiding St
section
variable{K:Frag}{d l r:AT}{M:AT->Prop}{H:Hp}
end
section
variable{P:Fk}{w:FB}{K:Frag}{mg:Str->Option AC}{base:Db}{d l r:AT}
end
section
variable{X:Cx}{c:Ent}{st:Fa}{e:Ch}{te:aV}{pos:Pos}
end
section
variable{K:Frag}{c:Ent}{M M':AT->Prop}{s:DS}{as:!AT}{σ:St}{H H':Hp}{d l r:AT}
end
section
variable{X:Cx}{k:Nat}{f d l r:AT}{M0:AT->Prop}{H0:Hp}{fd:Ix}{ps:!Str}{x:Str}{p pos:Pos}{e:Ch}{es:!Ch}{ta:fW}
end
end DL
namespace HT
open PySem PySem.Spec PyProof.Rows
open PySem.AutoSeq1
section
variable{prog:Fk}{w:FB}{A:Fr}{E:Yb}{s:Cl}
end
end HT
namespace L2
open PySem PySem.Spec PyProof.Rows
section
variable{X:Cx}
end
end L2
namespace DL
open PySem PySem.Spec L2
section
variable{X:Cx}{c:Ent}
end
end DL
namespace DL
open PySem L2
def vA(x:Str):Prop:=Nm x\/x="number"
def Gv(hs:!(Str×!Str)):Prop:=hs.length<=5/\∀ h∈hs,Nm h.1/\h.2.length<=3/\∀ n∈h.2,Nm n
def mN:Fm->Nat->Prop
 | .nm x,n=>Nm x/\n=0
 | .num i,n=>(0<=i/\i < 1000000)/\n=0
 | .op s,n=>(s="+"\/s="-"\/s="*")/\n=2
 | .j3,n=>n=3
 | .lt x,n=>Nm x/\n=2
 | .mk c,n=>Nm c/\n<=3
 | .ask f,n=>Nm f/\1<=n/\n<=4
 | .k7 r hs,n=>vA r/\Gv hs/\n=hs.length+1
 | .new k hs,n=>vA k/\Gv hs/\n=hs.length
def Fm.w:Fm->Nat
 | .nm _=>0
 | .num _=>0
 | _=>1
mutual
noncomputable def Tm.gt:Tm->Prop
 | .node f ks=>mN f ks.length/\zV ks
noncomputable def zV:!Tm->Prop
 | []=>True
 | t::r=>t.gt/\zV r
end
mutual
noncomputable def Tm.k9:Tm->Nat
 | .node f ks=>f.w+ig ks
noncomputable def ig:!Tm->Nat
 | []=>0
 | t::r=>t.k9+ig r
end
theorem yq:∀ {ks:!Tm},zV ks->∀ t∈ks,t.gt
 | [],_,t,h=>(nomatch h)
 | k::ks,w,t,h=>by
  rcases VG.mp h with rfl | h
  .exact w.1
  .exact yq w.2 t h
theorem wM:∀ {ks:!Tm} {n:Nat},(∀ t∈ks,t.dep<=n)->kJ ks<=n
 | [],n,_=>VT _
 | k::ks,n,h=>Nat.max_le.mpr #[h k Vx,wM λt ht=>h t (Vy _ ht)]
theorem vx.IU{W:cZ}(w:iQ W){k:Str}(h:vx W k):vA k:=by
 rcases h with rfl | ⟨kd,hkd,_,rfl⟩
 .exact .inr U
 .exact .inl (w.kw kd hkd).1
theorem u7.fm{W:cZ}(w:iQ W){sc:!(Str×Str)}{k:Str}{f:Fm}{sp:!(!(Str×Str)×Str)}(wI:∀ p∈sc,Nm p.1)(hk:vA k)(h:u7 W sc k f sp):mN f sp.length/\∀ e∈sp,vA e.2/\∀ p∈e.1,Nm p.1:=by
 have none:∀ p:Str×Str,p∈([]:!(Str×Str))->Nm p.1:=λ_ h=>by cases h
 cases h with
 | @nm x _ hx=>exact#[#[wI _ hx,U],λ_ h=>by cases h]
 | num h0 h1=>exact#[#[#[h0,h1],U],λ_ h=>by cases h]
 | @op o ho =>
  show#[#[by simpa using ho,U],λe he=>?_];simp at he;subst he;exact#[.inr U,none]
 | j3 =>
  show#[U,λe he=>?_];simp at he;rcases he with rfl | rfl
  .exact#[.inr U,none]
  .exact#[hk,none]
 | @lt x _ k' hb hk' =>
  have hx:=hb.nm w x (VH.mpr U);show#[#[hx,U],λe he=>?_];simp at he;rcases he with rfl | rfl
  .exact#[hk'.IU w,none]
  .exact#[hk,λp hp=>by rw[VH.mp hp];exact hx]
 | @mk kd m h1 h2 =>
  let(m1,m2,m3,m4):=w.mo kd h1 m h2;show#[#[m1,by rw[Vv];exact m2],λe he=>?_];let(p,hp,rfl):=VI.mp he;exact#[(m4 p hp).IU w,none]
 | @ask kd a h1 h2 h3 =>
  let(m1,(m2,m3,m4),m5):=w.ao kd h1 a h3;show#[#[m1,by simp,by rw[List.length_cons,List.length_map];cbv],λe he=>?_];rcases VG.mp he with rfl | he
  .exact#[.inl (w.kw kd h1).1,none]
  let(p,hp,rfl):=VI.mp he;exact#[(m4 p hp).IU w,none]
 | @k7 _ kd sub h1 h2 h3 h4 h5 =>
  have hl:=h4.length_le;have hl5:=(w.kw kd h1).2.1;rw[Vv] at hl;show#[#[hk,#[by rw[List.length_map];cbv,λh hh=>?_],by simp],λe he=>?_]
  .let(p,hp,rfl):=VI.mp hh;have hm:p.1∈kd.b8:=h4.subset (VX hp);let(m1,m2,_):=w.mo kd h1 p.1 hm;show#[m1,?_,λx hx=>(h5 p hp).2.nm w x hx];change p.2.length<=3;rw[(h5 p hp).1];exact m2
  .rcases VG.mp he with rfl | he
   .exact#[.inl (w.kw kd h1).1,none]
   let(p,hp,rfl):=VI.mp he;exact#[hk,λq hq=>(h5 p hp).2.nm w _ (Ww hq).1]
 | @new kd sub h1 h2 h3 h4 h5 =>
  have hl:=h4.length_le;have hl5:=(w.kw kd h1).2.2;rw[Vv] at hl;show#[#[hk,#[by rw[List.length_map];cbv,λh hh=>?_],by simp],λe he=>?_]
  .let(p,hp,rfl):=VI.mp hh;have hm:p.1∈kd.cF:=h4.subset (VX hp);let(m1,(m2,_),_):=w.ao kd h1 p.1 hm;show#[m1,?_,λx hx=>(h5 p hp).2.nm w x hx];change p.2.length<=3;rw[(h5 p hp).1];exact m2
  .let(p,hp,rfl):=VI.mp he;have hm:p.1∈kd.cF:=h4.subset (VX hp);exact#[(w.ao kd h1 p.1 hm).2.2.IU w,λq hq=>(h5 p hp).2.nm w _ (Ww hq).1]
mutual
theorem Ty.Mg{W:cZ}(w:iQ W):∀ (t:Tm) (sc:!(Str×Str)) (k:Str),(∀ p∈sc,Nm p.1)->vA k->Ty W sc k t->t.gt
 | .node f ts,sc,k,wI,hk,h=>by
  let(sp,hf,hr):=(show ∃ sp,u7 W sc k f sp/\fF W sc sp ts from h);let(s1,s2):=hf.fm w wI hk;show#[?_,fF.Mg w ts sc sp wI s2 hr];rw[hr.len];exact s1
theorem fF.Mg{W:cZ}(w:iQ W):∀ (ts:!Tm) (sc:!(Str×Str)) (sp:!(!(Str×Str)×Str)),(∀ p∈sc,Nm p.1)->(∀ e∈sp,vA e.2/\∀ p∈e.1,Nm p.1)->fF W sc sp ts->zV ts
 | [],sc,sp,wI,hs,h=>trivial
 | t::ts,sc,sp,wI,hs,h=>by
  let(e,r,rfl,h1,h2):=(show ∃ e r,sp=e::r/\Ty W (sc++e.1) e.2 t/\fF W sc r ts from h);let(e1,e2):=hs e Vx;exact#[Ty.Mg w t (sc++e.1) e.2 (λp hp=>(VM.mp hp).elim (wI p) (e2 p)) e1 h1,fF.Mg w ts sc r wI (λx hx=>hs x (Vy _ hx)) h2]
end
theorem kY.Up{W:cZ}(w:iQ W){sc:!(Str×Str)}(h:kY W sc):∀ p∈sc,Nm p.1:=λp hp=>by
 rcases (h.ok p hp).2 with z | ⟨j,_,z⟩
 .exact w.nm _ (Wa _ z)
 .exact w.nm _ (V6 _ (V8 z))
end DL
namespace DL
open PySem PySem.Spec L2
def Ur:!Key:=[.inr "kinds",.inr "vars",.inr "heads",.inr "inner"]
def mE(W:cZ):D:=.vv Ur [.lst (W.kinds.map lb),.lst (W.vars.map .str),.lst (W.heads.map .str),.bl W.inner]
theorem eX{W:cZ}{k:Option D->Prop}(h:k (some (.lst (W.kinds.map lb)))):rC (mE W)=true/\um (mE W) (.str "kinds") k:=#[U,.inl #[_,_,_,U,U,h]]
theorem sQ{W:cZ}{k:Option D->Prop}(h:k (some (.lst (W.vars.map .str)))):rC (mE W)=true/\um (mE W) (.str "vars") k:=#[U,.inl #[_,_,_,U,U,h]]
theorem xE{W:cZ}{k:Option D->Prop}(h:k (some (.lst (W.heads.map .str)))):rC (mE W)=true/\um (mE W) (.str "heads") k:=#[U,.inl #[_,_,_,U,U,h]]
theorem qD{W:cZ}{k:Option D->Prop}(h:k (some (.bl W.inner))):rC (mE W)=true/\um (mE W) (.str "inner") k:=#[U,.inl #[_,_,_,U,U,h]]
structure jm(ws:!Str)(ks:!Kd):Prop where
 ex:∃ (ns ML AL:!Str) (rh:!Kd),ns=ws.take ns.length/\1<=ns.length/\ns.length<=3/\ML.Perm ws/\AL.Perm ws/\rh.length=ns.length/\Hz ws ns ML AL rh /\
  (ks=rh\/∃ kd:Kd,ks=rh++[kd]/\kd.b8=[]/\ws[3]?=some kd.name/\kd.cF.length<=2/\Fq ws [] (AL.drop (cU rh).length) kd.cF)
theorem jm.cb{ws:!Str}{ks:!Kd}(inner:Bool)(h:jm ws ks)(hl:ws.length=45)(hn:ws.Nodup)(hm:∀ x∈ws,Nm x):iQ (kr ws ks inner):=by
 let(ns,ML,AL,rh,e1,n1,n3,pM,pA,rl,I,hk):=h.ex;have hML:ML.Nodup:=pM.nodup_iff.mpr hn;have hAL:AL.Nodup:=pA.nodup_iff.mpr hn;have rk:rh.map Kd.name=ns:=by rw[I.kn,rl,List.take_length]
 have hh:(ws.drop 24).take 6++ws.drop 30=ws.drop 24:=by
  have:=WX 6 (ws.drop 24)
  rwa [List.drop_drop] at this
 have h3:((ws.drop 24).take 6).take 3=(ws.drop 24).take 3:=by rw[List.take_take];rfl
 have h4:((ws.drop 24).take 6).drop 3=(ws.drop 27).take 3:=by rw[List.drop_take,List.drop_drop]
 have mem:∀ k∈ks,k∈rh\/(k.b8=[]/\ws[3]?=some k.name/\k.cF.length<=2/\Fq ws [] (AL.drop (cU rh).length) k.cF):=λk hkk=>by
  rcases hk with rfl | ⟨kd,rfl,a,b,c,d⟩
  .exact .inl hkk
  .rcases VM.mp hkk with z | z
   .exact .inl z
   .rw[VH.mp z];exact .inr #[a,b,c,d]
 have sub:∀ k∈rh,k∈ks:=λk hkk=>by
  rcases hk with rfl | ⟨kd,rfl,_⟩
  .exact hkk
  .exact Wa _ hkk
 have inML:∀ x∈ML,Nm x:=λx hx=>hm x (pM.mem_iff.mp hx);have inAL:∀ x∈AL,Nm x:=λx hx=>hm x (pA.mem_iff.mp hx);have mnm:∀ k∈rh,∀ m∈k.b8,Nm m.name:=λk hkk m hmm=>by
  have:m.name∈dO rh:=V3.mpr #[k,hkk,VX hmm];rw[I.mn] at this;exact inML _ (Wc this)
 have anm:∀ k∈rh,∀ a∈k.cF,Nm a.name:=λk hkk a haa=>by
  have:a.name∈cU rh:=V3.mpr #[k,hkk,VX haa];rw[I.an] at this;exact inAL _ (Wc this)
 have kok:∀ x∈ns++hX,vx (kr ws ks inner) x:=λx hx=>by
  rcases VM.mp hx with hx | hx
  .rw[<- rk] at hx;let(k,hkk,e):=VI.mp hx;exact .inr #[k,sub k hkk,(I.rg k hkk).m0,e]
  .exact .inl (VH.mp hx)
 have kok0:∀ x∈([]:!Str)++hX,vx (kr ws ks inner) x:=λx hx=>.inl (VH.mp hx);show#[?_,?_,λk hkk=>?_,?_,?_,λk hkk m hmm=>?_,λk hkk a haa=>?_,λk hkk m r e=>?_,?_,?_,?_,λx hx=>?_]
 .rcases hk with rfl | ⟨kd,rfl,_⟩
  .show ks.length<=5;cbv
  .show (rh++[kd]).length<=5;rw[Vw];simp;cbv
 .rcases hk with rfl | ⟨kd,rfl,_,b,_⟩
  .show (ks.map Kd.name).Nodup;rw[rk,e1];exact hn.sublist (Ws _ _)
  .show ((rh++[kd]).map Kd.name).Nodup;rw[VA,rk,e1];exact pH hn (by cbv) b
 .rcases mem k hkk with z | ⟨a,b,c,d⟩
  .refine#[?_,(I.rg k z).ml,(I.rg k z).al];have:k.name∈ns:=rk▸VX z;rw[e1] at this;exact hm _ (Wc this)
  .exact#[hm _ (V8 b),by rw[a];decide,by cbv]
 .have:dO ks=dO rh:=by
   rcases hk with rfl | ⟨kd,rfl,a,_⟩
   .rfl
   .rw[gz,a,Wj,VJ]
  change (dO ks).Nodup;rw[this,I.mn];exact hML.sublist (Ws _ _)
 .show (cU ks).Nodup;rcases hk with rfl | ⟨kd,rfl,_,_,_,d⟩
  .rw[I.an];exact hAL.sublist (Ws _ _)
  .rw[gJ];have:=take_snoc (A:=cU rh) (B:=kd.cF.map iM.name) I.an (by rw[Vv];exact d.nm);rw[this];exact hAL.sublist (Ws _ _)
 .rcases mem k hkk with z | ⟨a,_⟩
  .refine#[mnm k z m hmm,?_];let(q1,q2,q3):=(I.rg k z).mp m hmm;exact#[q1,by rw[show (kr ws ks inner).heads.take 3=(ws.drop 24).take 3 from h3];exact q2,λp hp=>kok _ (q3 p hp)]
  .rw[a] at hmm;cases hmm
 .rcases mem k hkk with z | ⟨_,_,_,d⟩
  .refine#[anm k z a haa,?_];let((q1,q2,q3),q4):=(I.rg k z).ap a haa;exact#[#[q1,by rw[show (kr ws ks inner).heads.drop 3=(ws.drop 27).take 3 from h4];exact q2,λp hp=>kok _ (q3 p hp)],kok _ q4]
  .let((q1,q2,q3),q4):=d.ap a haa;show#[?_,#[q1,by rw[show (kr ws ks inner).heads.drop 3=(ws.drop 27).take 3 from h4];exact q2,λp hp=>kok0 _ (q3 p hp)],kok0 _ q4];have:a.name∈k.cF.map iM.name:=VX haa;rw[d.nm] at this;exact inAL _ (WA (Wc this))
 .rcases mem k hkk with z | ⟨a,_⟩
  .exact (I.rg k z).mf m r e
  .rw[a] at e;cases e
 .show ((ws.drop 24).take 6).length=6;simp[hl]
 .show (ws.drop 30).length=15;simp[hl]
 .show ((ws.drop 24).take 6++ws.drop 30).Nodup;rw[hh];exact hn.sublist (List.drop_sublist _ _)
 .have hx:x∈(ws.drop 24).take 6++ws.drop 30:=hx;rw[hh] at hx;exact hm x (WA hx)
def Uq:!Nat:=[4,4,25,26,51,52,76,77,103,104,105,127,154,177,178,179,207]
def UU:!Nat:=[1,1,7,8,15,16,22,23,31,32,33,37,46,51,52,53,63]
def sz(r:Nat):Nat:=Uq.getD r 207
def si(r:Nat):Nat:=UU.getD r 63
theorem oH{a b:Nat}(h:a<=b)(hb:b<=16):sz a<=sz b/\si a<=si b:=by
 have:∀ b,b < 17->∀ a,a < 17->a<=b->sz a<=sz b/\si a<=si b:=by decide
 exact this b (by cbv) a (by cbv) h
def Qa(n q r:Nat):Prop:=n * sz q+1<=sz r/\n * si q+1<=si r
theorem xT{r n:Nat}(h:r<=16)(h2:2<=r)(hn:n<=4):Qa n ((r - 1) / max 1 n) r:=by
 have:∀ r,r < 17->2<=r->∀ n,n < 5->n * sz ((r - 1) / max 1 n)+1<=sz r/\n * si ((r - 1) / max 1 n)+1<=si r:=by decide
 exact this r (by cbv) h2 n (by cbv)
theorem J8{r:Nat}(h:r<=16)(h2:2<=r):Qa 3 (r / 3) r:=by
 have:∀ r,r < 17->2<=r->3 * sz (r / 3)+1<=sz r/\3 * si (r / 3)+1<=si r:=by decide
 exact this r (by cbv) h2
theorem KA{r:Nat}(h:r<=16)(h2:2<=r):Qa 2 (r / 2) r:=by
 have:∀ r,r < 17->2<=r->2 * sz (r / 2)+1<=sz r/\2 * si (r / 2)+1<=si r:=by decide
 exact this r (by cbv) h2
theorem Cv{r m:Nat}(h:r<=16)(h2:2<=r)(hm:m<=5):sz (r / 3)+m * sz ((r - 1) / (1+m))+1<=sz r/\si (r / 3)+m * si ((r - 1) / (1+m))+1<=si r:=by
 have:∀ r,r < 17->2<=r->∀ m,m < 6->sz (r / 3)+m * sz ((r - 1) / (1+m))+1<=sz r/\si (r / 3)+m * si ((r - 1) / (1+m))+1<=si r:=by decide
 exact this r (by cbv) h2 m (by cbv)
theorem l0{m:Nat}:∀ {ts:!Tm},(∀ t∈ts,t.size<=m)->aU ts<=ts.length * m
 | [],_=>VT _
 | t::ts,h=>by
  have h1:=h t Vx;have h2:=l0 λu hu=>h u (Vy _ hu);change t.size+aU ts<=(ts.length+1) * m;rw[Nat.add_mul];cbv
theorem oO{m:Nat}:∀ {ts:!Tm},(∀ t∈ts,t.k9<=m)->ig ts<=ts.length * m
 | [],_=>VT _
 | t::ts,h=>by
  have h1:=h t Vx;have h2:=oO λu hu=>h u (Vy _ hu);change t.k9+ig ts<=(ts.length+1) * m;rw[Xr];cbv
theorem Kc(f:Fm):f.w<=1:=by cases f<;>exact Nat.le_of_ble_eq_true U
def Tm.rq(n r:Nat)(t:Tm):Prop:=t.dep<=n/\t.size<=sz r/\t.k9<=si r
theorem j5{f:Fm}{ts:!Tm}{n r q:Nat}(h:∀ t∈ts,t.rq n q)(hb:Qa ts.length q r):(Tm.node f ts).rq (n+1) r:=by
 show#[lF λt ht=>(h t ht).1,?_,?_]
 .show aU ts+1<=_;exact VF (Nat.add_le_add_right (l0 λt ht=>(h t ht).2.1) 1) hb.1
 .show f.w+ig ts<=_;have:=Kc f;have:=oO λt ht=>(h t ht).2.2;have:=hb.2;cbv
theorem K6{f:Fm}{t0:Tm}{ts:!Tm}{n r m:Nat}(h0:t0.rq n (r / 3))(h:∀ t∈ts,t.rq n ((r - 1) / (1+m)))(hl:ts.length<=m)(hm:m<=5)(h2:2<=r)(hr:r<=16):(Tm.node f (t0::ts)).rq (n+1) r:=by
 let(e4,e5):=Cv hr h2 hm;show#[lF λt ht=>?_,?_,?_]
 .rcases VG.mp ht with rfl | ht
  .exact h0.1
  .exact (h t ht).1
 .show (t0.size+aU ts)+1<=_;have e1:=h0.2.1;have e2:=l0 λt ht=>(h t ht).2.1;have e3:ts.length * sz ((r - 1) / (1+m))<=m * sz ((r - 1) / (1+m)):=W2 _ hl;cbv
 .show f.w+(t0.k9+ig ts)<=_;have e0:=Kc f;have e1:=h0.2.2;have e2:=oO λt ht=>(h t ht).2.2;have e3:ts.length * si ((r - 1) / (1+m))<=m * si ((r - 1) / (1+m)):=W2 _ hl;cbv
theorem JA{f:Fm}{ts:!Tm}{n r m:Nat}(h:∀ t∈ts,t.rq n ((r - 1) / (1+m)))(hl:ts.length<=m)(hm:m<=5)(h2:2<=r)(hr:r<=16):(Tm.node f ts).rq (n+1) r:=by
 show j5 h ?_;let(e4,e5):=Cv hr h2 hm;have e3:ts.length * sz ((r - 1) / (1+m))<=m * sz ((r - 1) / (1+m)):=W2 _ hl;have e6:ts.length * si ((r - 1) / (1+m))<=m * si ((r - 1) / (1+m)):=W2 _ hl;exact#[by cbv,by cbv]
def Tm.lf(n:Nat)(k:Str)(t:Tm):Prop:=t.dep<=n/\t.size<=4/\(k="number"->t.size<=1)/\t.k9<=1/\(k="number"->t.k9<=0)
theorem zc{f:Fm}{n:Nat}{k:Str}(hf:(f.w=0)⁻¹):(Tm.node f []).lf (n+1) k:=#[lF λ_ h=>(nomatch h),by change 0+1<=4;cbv,λ_=>by change 0+1<=1;cbv,by change f.w+0<=1;cbv,λ_=>by change f.w+0<=0;cbv]
theorem FP{f:Fm}{ts:!Tm}{n:Nat}{k:Str}(hk:k≠"number")(hl:ts.length<=3)(h:∀ t∈ts,t.lf n "number"):(Tm.node f ts).lf (n+1) k:=by
 show#[lF λt ht=>(h t ht).1,?_,λe=>absurd e hk,?_,λe=>absurd e hk]
 .show aU ts+1<=4;have h2:=l0 λt ht=>(h t ht).2.2.1 U;cbv
 .show f.w+ig ts<=1;have h2:=oO λt ht=>(h t ht).2.2.2.2 U;have:=Kc f;cbv
theorem Tm.lf.rq{n m r:Nat}{k:Str}{t:Tm}(h:t.lf n k)(hm:n<=m)(hr:r<=16):t.rq m r:=#[VF h.1 hm,VF h.2.1 (oH (VT r) hr).1,VF h.2.2.2.1 (oH (VT r) hr).2]
end DL
namespace DL
open PySem L2 PyProof.Rows
abbrev D3:=Str×Fa×!Str
def Own(K:Frag)(mg:Str->Option AC)(d:D3):Prop:=∃ f fd,Bh K d.1 d.1 d.2.1 f fd/\mg d.1=some (.ref f)/\Binds K fd d.2.2 []
def C4(P:Fk)(w:FB)(K:Frag)(mg:Str->Option AC)(base:Db)(CX:Ak)(d:D3)(k:Nat)(sp:Sp):Prop:=∃ f fd,eV P w K mg base CX k f fd d.2.2 sp/\Bh K d.1 d.1 d.2.1 f fd/\mg d.1=some (.ref f)/\Binds K fd d.2.2 []
section
variable{P:Fk}{w:FB}{K:Frag}{mg:Str->Option AC}{base:Db}{CX:Ak}{d:D3}{k:Nat}{sp PN:Sp}
theorem Own.c(o:Own K mg d)(h:∀ f fd,Bh K d.1 d.1 d.2.1 f fd->eV P w K mg base CX k f fd d.2.2 sp):C4 P w K mg base CX d k sp :=
 let #[f,fd,F,m,b]:=o
 #[f,fd,h f fd F,F,m,b]
theorem C4.imp(c:C4 P w K mg base CX d k sp)(h:∀ f fd,eV P w K mg base CX k f fd d.2.2 sp->eV P w K mg base CX k f fd d.2.2 PN):C4 P w K mg base CX d k PN :=
 let #[f,fd,G,r]:=c
 #[f,fd,h f fd G,r]
theorem K4{h:Db}{f:AT}{oc:AC}{od an:Option AT}{FF:Array (Option AC)}{kV doc pm bT ct:AC}(X:K.In h)(G:h.Ns GM mg)(a:nsIn K GM d.1=some (some (.ref f)))(l:K.lookup f=some #[oc,od,.func (fnOf d.1 d.1 (gH d.2.1) (bx d.2.1) (ai d.2.1) .none kV doc pm an bT ct),FF])(c:codeIn K bT d.1=true)(k:keepIn K (.ref f)=true)(b:∀ (kV doc pm:AC) (an:Option AT) (bT ct:AC) (us:!AC),us.length=d.2.2.length->bindArgs (fnOf d.1 d.1 (gH d.2.1) (bx d.2.1) (ai d.2.1) .none kV doc pm an bT ct) #[us,[]]=pure (d.2.2.zip us)):Own K mg d :=
 #[f,_,xj l c k,PySem.W.mg_of X G a,(xj (st:=d.2.1) l c k).binds b]
end
section
variable{X:Cx}{c:Ent}{d:D3}{k m:Nat}{t:Yd}{x:Str}{p pos:Pos}{e:Ch}{es:!Ch}{ta:fW}
theorem ak(hr:dE m X.A)(G:C4 X.prog X.w X.K X.mg X.base aQ d k (cg X.K c.g t))(ha:DA X c (e::es) ta)(hx:(d.1=x)⁻¹)(hk:k<=m:=by ac_rfl)(hg:(Gl X x)⁻¹)(kg: ~~~(Yg x))(he:(Ye X.env e es)⁻¹)(g6:(Yf X.env pos es)⁻¹) :
  DE X c (.Call (.Name x p) (e::es) [] pos) (iB t ta):=by
 subst hx;let(f,fd,G,F,M,b):=G;exact Ln (hr.mono hk) hg M F.kp b ha G kg he g6
theorem bB(hr:dE m X.A)(G:C4 X.prog X.w X.K X.mg X.base aQ d k (cg X.K .no t))(ha:DA X c (e::es) ta)(hx:(d.1=x)⁻¹)(hk:k<=m:=by ac_rfl)(hg:(Gl X x)⁻¹)(kg: ~~~(Yg x))(he:(Ye X.env e es)⁻¹)(g6:(Yf X.env pos es)⁻¹) :
  DE X c (.Call (.Name x p) (e::es) [] pos) (iB t ta):=by
 subst hx;let(f,fd,G,F,M,b):=G;exact F9 (hr.mono hk) hg M F.kp b ha G kg he g6
theorem aG(hr:dE m X.A)(G:C4 X.prog X.w X.K X.mg X.base aQ d k (fZ X.K .no t))(ha:DA X c (e::es) ta)(hx:(d.1=x)⁻¹)(hk:k<=m:=by ac_rfl)(hg:(Gl X x)⁻¹)(kg: ~~~(Yg x))(he:(Ye X.env e es)⁻¹)(g6:(Yf X.env pos es)⁻¹) :
  DN X c (.Call (.Name x p) (e::es) [] pos) (iB t ta):=by
 subst hx;let(f,fd,G,F,M,b):=G;exact F1 (hr.mono hk) hg M F.kp b ha G kg he g6
end
theorem fJ{N P:!Str}{sc:Scope}(h1:(sc.kind=.function)⁻¹)(h2:(sc.isCoroutine=false)⁻¹)(h3:(sc.isGenerator=false)⁻¹)(h4:N.Nodup:=by decide+kernel)(h5:(N.take P.length=P)⁻¹)(h6:∀ x∈P,sc.names.lookup x=some .local\/sc.names.lookup x=some .cell:=by decide+kernel)(h7:∀ y∈sc.names,y.2≠.free:=by decide+kernel):av N P sc:=#[h1,h2,h3,h4,h5,h6,h7]
theorem cO{g:pN}{tb:kI}{R:kG}(I:!D->DS->Prop)(h0:∀ s,I [] s->R.nx s)(h1:∀ x xs s (E:kG),I (x::xs) s->(∀ s',I xs s'->E.nx s')->(∀ d,R.rt d->E.rt d)->g x s λs1=>tb E s1):∀ xs s,I xs s->mM g tb R xs s
 | [],s,h=>h0 s h
 | x::xs,s,h=>h1 x xs s { R with nx:=λs'=>mM g tb R xs s',ct:=λs'=>mM g tb R xs s',bk:=R.nx } h (λs' h'=>cO I h0 h1 xs s' h') λ_ h=>h
section
variable{X:Cx}{c:Ent}{x:Str}{pos p:Pos}
theorem vd(i:Nat)(hN:(X.N[i]?=some x)⁻¹)(hv:LR X.env.scope x:=by first | exact Or.inl U | exact Or.inr (Or.inl U) | exact Or.inr (Or.inr U))(hd: ~~~(Yg x))(uY: ~~~((x == ("__classdict__":Str))=false)):DE X c (.Name x pos) (JP i):=dv (xZ hN hv hd uY)
theorem gN{n:Nat}(i:Nat)(hN:X.N.Nodup)(hi:(X.N[i]?=some x)⁻¹)(hx:Loc X.env.scope x:=by exact Or.inl U)(hf:Yh X x:=by ac_nf)(hl: ~~~(i < n)):DG X c n (.Name x pos) (uI i):=kP (fo hN hi hx hf) hl
theorem gM{n:Nat}(i:Nat)(L:!Str)(hN:L.Nodup:=by decide+kernel)(hL:(X.N=L)⁻¹)(hi:(L[i]?=some x)⁻¹)(hx:Loc X.env.scope x:=by exact Or.inl U)(hf:Yh X x:=by ac_nf)(hl: ~~~(i < n)):DG X c n (.Name x pos) (uI i):=kP (fo (hL▸hN) (hL▸hi) hx hf) hl
theorem sS{e:Ch}{te:aV}(i:Nat)(hN:X.N.Nodup)(he:DE X c e te)(hi:(X.N[i]?=some x)⁻¹)(hx:Loc X.env.scope x:=by exact Or.inl U)(hs:(swapsWith e (some (.Name x p)) pos.line X.env=pure false)⁻¹)(hf:Yh X x:=by ac_nf):vz X c (.Assign [.Name x p] e pos) (Ex i te):=gF (dQ hN hi hx he.pe hs hf)
theorem sN{e:Ch}{te:aV}(k i:Nat)(hN:X.N.Nodup)(he:DN X c e te)(hi:(X.N[i]?=some x)⁻¹)(hx:Loc X.env.scope x:=by exact Or.inl U)(hs:(swapsWith e (some (.Name x p)) pos.line X.env=pure false)⁻¹)(hf:Yh X x:=by ac_nf)(jI:c.g.qN.length<=k:=by first | exact VT _ | exact VB _ | exact WK (VT _)):vz X c (.Assign [.Name x p] e pos) (HQ i k te):=Kt (dQ hN hi hx he.pe hs hf) jI
variable{a b:Ch}{ta tb:aV}
theorem bN(ha:DE X c a ta)(hb:DE X c b tb)(hs:lq b:=by exact λ_ _=>rfl):DE X c (.Subscript a b pos) (BA Co ta tb):=AO EG IE ha hb hs
theorem lA(ha:DE X c a ta)(hb:DE X c b tb)(hs:lq b:=by exact λ_ _=>rfl):DE X c (.Subscript a b pos) (BA J9 ta tb):=AO vp HR ha hb hs
theorem sF{tg iter:Ch}{body:!Fa}{ti:fW}{g:pN}{tb:kI}(hi:DI X c tg iter ti)(hg:DG X c 1000 tg g)(hb:yM X c body tb)(hc:(X.calm=true)⁻¹)(hp:PassesOwn (model X.prog X.w) X.A X.env X.xe:=by exact PassesOwn.never)(hs:Yi iter X.env:=by intro _;rfl):vz X c (.For tg iter body [] pos) (Im ti g tb):=NV hp hc hi hg hb hs
theorem la{e:Ch}{es:!Ch}{t:fW}{apos bV:Pos}(i:Nat)(ha:DA X c (e::es) t)(hN:(X.N[i]?=some x)⁻¹)(hv:LR X.env.scope x:=by first | exact Or.inl U | exact Or.inr (Or.inl U) | exact Or.inr (Or.inr U))(hd: ~~~(Yg x))(uY: ~~~((x == ("__classdict__":Str))=false))(gf:(attributeBase (.Name x p) "append" X.env (eval (.Name x p) X.env)=eval (.Name x p) X.env)⁻¹)(qf:(((Go bV (GE (e::es) X.env)).all (λx=>(not x.1))&&(Rs bV (SL [] X.env)).all (λx=>x.1.isSome)
   && decide ((e::es).length+([]:!NE).length+(if ([]:!NE).isEmpty then 0 else 1) < 30))=true)⁻¹)(fz:((apos.endLine == bV.line)=true)⁻¹)(hs:(Ye X.env e es)⁻¹)(f9:((Go bV (GE es X.env)).any (·.1)=false)⁻¹)(Om:(swapsWith (.Call (.Attribute (.Name x p) "append" apos) (e::es) [] bV) none pos.line X.env=pure false)⁻¹) :
  vz X c (.Expr (.Call (.Attribute (.Name x p) "append" apos) (e::es) [] bV) pos) (ET (Nv i MV t)):=iA (pY PySem.F.slot_list_append PySem.F.type_list_append sH Oi (xZ hN hv hd uY) ha gf qf fz hs f9) Om
end
section
variable{X:Cx}{c:Ent}{pos p:Pos}{e:Ch}{es:!Ch}{t:fW}
theorem fE(hm:X.mg "len"=none)(ha:DA X c (e::es) t)(hg:(Gl X "len")⁻¹)(he:(Ye X.env e es)⁻¹)(g6:(Yf X.env pos es)⁻¹):DE X c (.Call (.Name "len" p) (e::es) [] pos) (lV C6 t):=cm c9 OX hg hm WY ha () () he g6
theorem iE(hm:X.mg "tuple"=none)(ha:DA X c (e::es) t)(hg:(Gl X "tuple")⁻¹)(he:(Ye X.env e es)⁻¹)(g6:(Yf X.env pos es)⁻¹):DE X c (.Call (.Name "tuple" p) (e::es) [] pos) (lV Jv t):=ip rT Pk hg hm (by decide+kernel) ha () () he g6
variable{tg elt iter:Ch}{ifs:!Ch}{scope:Scope}{tx:fW}{g:pN}{ti:mF}{te:aV}
theorem nC(ts:!Str)(us:!Nat)(hi:DI X c tg iter tx)(hg:∀ C s H fp,DG (X.comp ts us scope C s H fp) c ts.length tg g)(BM:∀ C s H fp,N1 (X.comp ts us scope C s H fp) c ifs ti)(he:∀ C s H fp,DE (X.comp ts us scope C s H fp) c elt te)(S:bF X ts us scope:=by exact#[U,U,U,U,U,U])(hc:(X.calm=true)⁻¹)(hs:Yi iter X.env:=by intro _;rfl):DN X c (.ListComp elt [#[tg,iter,ifs,0]] scope pos) (qO ts.length us tx g ti te):=LI S hc hi hg BM he hs
end
section
variable{P:Fk}{w:FB}{K:Frag}{mg:Str->Option AC}{base:Db}{q:D3}{k nos:Nat}{g:BC}{t:Yd}{N:!Str}
theorem Own.d(o:Own K mg q)(S:av N q.2.2 (ai q.2.1))(len:∀ ds R,t ds R->ds.length=q.2.2.length)(hb:∀ (f:AT) (bT:AC) (A:Fr) (outer:!Env) (s:Cl) (H:Hp) (E:XK) (M:AT->Prop),dE k (A.deeper (envOfC q.1 (ai q.2.1) ↑s f bT)) ->
   ∃ tb,yM (n9 aQ P w K mg base N q.1 (ai q.2.1) f bT A outer s H E).FA #[g,M,H] (bx q.2.1) tb/\∀ ds R,t ds R->tb { nx:=λ_=>R .cA,rt:=R } (fI N.length nos ds))(hg:(g.qN=[])⁻¹):C4 P w K mg base aQ q (k+1) (cg K g t):=o.c λf fd F=>Qn F S len (hb f) hg
end
end DL
namespace DL
open PySem PySem.Spec L2
open PyProof.Rows hiding St
section
variable{X:Cx}{k m:Nat}{d l r:AT}{M0:AT->Prop}{H0:Hp}{q:D3}{x:Str}{p pos:Pos}
end
end DL
namespace DL
open PySem L2
abbrev cd(x:Str):!Nat:=x.cps.toList
abbrev cD(l:!Nat):Str:=#[l.toArray]
theorem d3{x y:Str}(h:cd x=cd y):x=y:=by
 obtain⟨a⟩:=x;obtain⟨b⟩:=y;have:a=b:=Array.toList_inj.mp h;rw[this]
theorem bI(x y:Str):cd (x++y)=cd x++cd y:=Xz
theorem zj(x:Str):cD (cd x)=x:=d3 U
theorem cX(a:!Nat):(cD a).length=a.length:=by simp[Str.length]
theorem mW(x:Str):(cd x).length=x.length:=by simp[Str.length]
def fM:!(!Nat)->!Nat
 | []=>[]
 | a::l=>a++l.flatMap (32::·)
theorem yJ:∀ zs:!Str,cd (Txt.join " " zs)=fM (zs.map cd)
 | []=>rfl
 | a::l=>by
  change cd (FM.Str.glued " " (a::l))=_;rw[StrLaws.glued_eq_join]
  induction l generalizing a with
  | nil=>simp[PySem.Str.join,fM]
  | cons b l ih =>
   change cd (a++" "++PySem.Str.join " " (b::l))=_;rw[bI,bI,ih b];change cd a++[32]++(cd b++(l.map cd).flatMap (32::·))=cd a++(32::cd b++(l.map cd).flatMap (32::·));simp
def qd(i:Int):Str:=toString i
def eC:!(Str×!Str)->!(!Nat)->!Nat
 | h::hs,t::ts=>32::124::32::(fM (cd h.1::h.2.map cd)++32::58::32::t)++eC hs ts
 | _,_=>[]
def pB:Fm->!(!Nat)->!Nat
 | .nm x,_=>cd x
 | .num i,_=>cd (qd i)
 | .op s,ts=>cd s++ts.flatMap (32::·)
 | .j3,ts=>cd "zero"++ts.flatMap (32::·)
 | .lt x,ts=>cd "let "++cd x++ts.flatMap (32::·)
 | .mk c,ts=>cd "make "++cd c++ts.flatMap (32::·)
 | .ask f,ts=>cd "ask "++ts.headD []++(32::cd f)++ts.tail.flatMap (32::·)
 | .k7 r hs,ts=>cd "case "++ts.headD []++cd " to "++cd r++eC hs ts.tail
 | .new k hs,ts=>cd "new "++cd k++eC hs ts
def pK(f:Fm)(l:!Nat):!Nat:=if f.w=0 then l else 40::l++[41]
mutual
noncomputable def Tm.T:Tm->!Nat
 | .node f ks=>pK f (pB f (vt ks))
noncomputable def vt:!Tm->!(!Nat)
 | []=>[]
 | t::r=>t.T::vt r
end
theorem zp:∀ ks:!Tm,vt ks=ks.map Tm.T
 | []=>rfl
 | t::r=>by rw[vt,zp r,VE]
theorem qB{i:Int}(h0:0<=i)(h1:i < 1000000):(qd i).length<=8:=by
 have:=PyProof.Rows.toString_length_le (k:=6) (v:=i) h0 () (by cbv);change (PySem.Str.ofString (toString i)).length<=8;cbv
inductive Pc where
 | s (x:Str) | t (u:Tm)
def C5:Pc->D
 | .s x=>.str x
 | .t u=>toD u
def Ft:Pc->!Nat
 | .s x=>cd x
 | .t u=>u.T
def bK(ks:!Tm):!Pc:=ks.flatMap λk=>[.s " ",.t k]
def BX(h:Str×!Str):Str:=" | "++Txt.join " " (h.1::h.2)++" : "
def bo:!(Str×!Str)->!Tm->!Pc
 | h::hs,k::ks=>.s (BX h)::.t k::bo hs ks
 | _,_=>[]
def pieces:Fm->!Tm->!Pc
 | .nm x,_=>[.s x]
 | .num i,_=>[.s (qd i)]
 | .op s,ks=>[.s ("("++s)]++bK ks++[.s ")"]
 | .j3,ks=>[.s "(zero"]++bK ks++[.s ")"]
 | .lt x,ks=>[.s ("(let "++x)]++bK ks++[.s ")"]
 | .mk c,ks=>[.s ("(make "++c)]++bK ks++[.s ")"]
 | .ask f,ks=>[.s "(ask ",.t (ks.headD (.node .j3 [])),.s (" "++f)]++bK ks.tail++[.s ")"]
 | .k7 r hs,ks=>[.s "(case ",.t (ks.headD (.node .j3 [])),.s (" to "++r)]++bo hs ks.tail++[.s ")"]
 | .new k hs,ks=>[.s ("(new "++k)]++bo hs ks++[.s ")"]
theorem lD(ks:!Tm):(bK ks).flatMap Ft=(vt ks).flatMap (32::·):=by
 induction ks with
 | nil=>rfl
 | cons k ks ih =>
  change ([Pc.s " ",.t k]++bK ks).flatMap Ft=(k.T::vt ks).flatMap (32::·);rw[VU,ih,VS];change [32]++(k.T++[])++_=_;simp
theorem GD(h:Str×!Str):cd (BX h)=32::124::32::(fM (cd h.1::h.2.map cd)++[32,58,32]):=by
 unfold BX;rw[bI,bI,yJ];change [32,124,32]++fM (cd h.1::h.2.map cd)++[32,58,32]=_;simp
theorem xI:∀ (hs:!(Str×!Str)) (ks:!Tm),(bo hs ks).flatMap Ft=eC hs (vt ks)
 | [],_=>by simp[bo,eC]
 | h::hs,[]=>by simp[bo,eC,vt]
 | h::hs,k::ks=>by
  rw[bo,VS,VS,xI hs ks];change cd (BX h)++(k.T++eC hs (vt ks))=eC (h::hs) (k.T::vt ks);rw[GD,eC];simp
theorem C3{f:Fm}{ks:!Tm}(h:mN f ks.length):(pieces f ks).flatMap Ft=(Tm.node f ks).T:=by
 have ends:∀ (a b:!Pc) (l:!Nat),a.flatMap Ft=40::l->(a++b++[Pc.s ")"]).flatMap Ft=40::(l++b.flatMap Ft)++[41]:=λa b l e=>by
  rw[VU,VU,e]
  rfl
 rw[Tm.T];cases f with
 | nm x=>simp[pieces,pK,Fm.w,pB,Ft]
 | num i=>simp[pieces,pK,Fm.w,pB,Ft]
 | op s =>
  rw[pieces,ends [.s ("("++s)] _ (cd s) (by change cd ("("++s)++[]=_;rw[bI,VJ];rfl),lD]
  rfl
 | j3 =>
  rw[pieces,ends [.s "(zero"] _ (cd "zero") U,lD]
  rfl
 | lt x =>
  rw[pieces,ends [.s ("(let "++x)] _ (cd "let "++cd x) (by change cd ("(let "++x)++[]=_;rw[bI,VJ];rfl),lD]
  rfl
 | mk c =>
  rw[pieces,ends [.s ("(make "++c)] _ (cd "make "++cd c) (by change cd ("(make "++c)++[]=_;rw[bI,VJ];rfl),lD]
  rfl
 | ask f =>
  cases ks with
  | nil=>exact absurd h.2.1 ()
  | cons k ks =>
   rw[pieces,List.headD_cons,ends [.s "(ask ",.t k,.s (" "++f)] _ (cd "ask "++k.T++(32::cd f)) (by
    change cd "(ask "++(k.T++(cd (" "++f)++[]))=_;rw[bI,VJ];change 40::(cd "ask "++(k.T++(32::cd f)))=_;rw[VR]),List.tail_cons,lD]
   rfl
 | k7 r hs =>
  cases ks with
  | nil=>exact absurd h.2.2 (by simp)
  | cons k ks =>
   rw[pieces,List.headD_cons,ends [.s "(case ",.t k,.s (" to "++r)] _ (cd "case "++k.T++cd " to "++cd r) (by
    change cd "(case "++(k.T++(cd (" to "++r)++[]))=_;rw[bI,VJ];change 40::(cd "case "++(k.T++(cd " to "++cd r)))=_;simp only[List.append_assoc]),List.tail_cons,xI]
   rfl
 | new k hs =>
  rw[pieces,ends [.s ("(new "++k)] _ (cd "new "++cd k) (by change cd ("(new "++k)++[]=_;rw[bI,VJ];rfl),xI]
  rfl
def xf:Pc->Nat
 | .s _=>1
 | .t u=>4 * u.size - 1
theorem jo(u:Tm):1<=u.size:=by
 cases u with
 | node f ks=>exact WK (VT _)
theorem lG(ks:!Tm):((bK ks).map xf).sum=4 * aU ks:=by
 induction ks with
 | nil=>rfl
 | cons k ks ih =>
  have hp:=jo k;change (([Pc.s " ",.t k]++bK ks).map xf).sum=_;rw[VA,Wx,ih];change 1+(4 * k.size - 1+0)+_=4 * (k.size+aU ks);cbv
theorem xV:∀ (hs:!(Str×!Str)) (ks:!Tm),((bo hs ks).map xf).sum<=4 * aU ks
 | [],_=>by simp[bo]
 | h::hs,[]=>by simp[bo]
 | h::hs,k::ks=>by
  have:=xV hs ks;have hp:=jo k;change 1+(4 * k.size - 1+((bo hs ks).map xf).sum)<=4 * (k.size+aU ks);cbv
theorem BO{f:Fm}{ks:!Tm}(h:mN f ks.length):((pieces f ks).map xf).sum < xf (.t (.node f ks)):=by
 change _ < 4 * (aU ks+1) - 1;have ends:∀ (a b:!Pc),((a++b++[Pc.s ")"]).map xf).sum=(a.map xf).sum+(b.map xf).sum+1:=λa b=>by
  rw[VA,VA,Wx,Wx]
  rfl
 cases f with
 | nm x=>change 1 < _;cbv
 | num i=>change 1 < _;cbv
 | op s =>
  rw[pieces,ends,lG];change 1+_+1 < _;cbv
 | j3 =>
  rw[pieces,ends,lG];change 1+_+1 < _;cbv
 | lt x =>
  rw[pieces,ends,lG];change 1+_+1 < _;cbv
 | mk c =>
  rw[pieces,ends,lG];change 1+_+1 < _;cbv
 | ask f =>
  cases ks with
  | nil=>exact absurd h.2.1 ()
  | cons k ks =>
   have hp:=jo k;rw[pieces,ends,List.tail_cons,lG];change 1+(4 * k.size - 1+(1+0))+_+1 < 4 * (k.size+aU ks+1) - 1;cbv
 | k7 r hs =>
  cases ks with
  | nil=>exact absurd h.2.2 (by simp)
  | cons k ks =>
   have hp:=jo k;rw[pieces,ends,List.tail_cons];have:=xV hs ks;change 1+(4 * k.size - 1+(1+0))+_+1 < 4 * (k.size+aU ks+1) - 1;cbv
 | new k hs =>
  rw[pieces,ends];have:=xV hs ks;change 1+_+1 < _;cbv
end DL
namespace L2
open PySem PySem.Spec PyProof.Rows
section
variable{X:Cx}
theorem Aw:cT X (.type "str") (λxs H Q=>(∃ i,xs=[.int i]/\i.natAbs.log2 < 1920/\Q (.str (toString i)) H)\/∃ z,xs=[.str z]/\Q (.str z) H):=by
 intro TD s σ H xs us Q I r h;rcases h with h | ⟨z,rfl,q⟩
 .exact u2 TD s σ H xs us Q I r h
 .let(u,rfl,t,rfl):=vals1 r;exact PySem.P.str_of_str #[.str z,H,I,#[_,U],q]
theorem AV:Ib X "str.startswith" (λx vs H Q=>∃ z y,x=.str z/\vs=[.str y]/\Q (.bl (Txt.startswith z y)) H):=by
 intro TD s σ H x vs v us Q I rx rv h;let(z,y,rfl,rfl,q):=h;let(t,rfl):=rx;let(u,rfl,t',rfl):=rv.one;exact PySem.SC.startswith #[.bl _,H,I,U,q]
end
end L2
namespace DL
open PySem PySem.Spec L2
section
variable{X:Cx}{c:Ent}
def NT:Yd:=λas k=>(∃ i,as=[.int i]/\i.natAbs.log2 < 1920/\k (.str (toString i)))\/∃ z,as=[.str z]/\k (.str z)
theorem Lj:AM X c (λxs H Q=>(∃ i,xs=[.int i]/\i.natAbs.log2 < 1920/\Q (.str (toString i)) H)\/∃ z,xs=[.str z]/\Q (.str z) H) NT:=λM s as σ H xs ds k Q L r h kk=>by
 rcases h with ⟨i,rfl,hz,hk⟩ | ⟨i,rfl,hk⟩
 .let(v,rfl,e1):=cV r;have e1:v=.int i:=e1;subst e1;exact .inl #[i,U,hz,kk _ hk M H _ L .refl U]
 .let(v,rfl,e1):=cV r;have e1:v=.str i:=e1;subst e1;exact .inr #[i,U,kk _ hk M H _ L .refl U]
end
theorem Lq{i:Int}(h0:0<=i)(h1:i < 1000000):i.natAbs.log2 < 1920:=by
 have h:i.natAbs < 2 ^ 20:=by cbv
 by_cases z:i.natAbs=0
 .rw[z];decide
 .have:=(Nat.log2_lt z).mpr h;cbv
end DL
namespace DL
open PySem L2
theorem Dp:∀ zs:!Str,cd (Txt.join "" zs)=zs.flatMap cd
 | []=>rfl
 | a::l=>by
  change cd (FM.Str.glued "" (a::l))=_;rw[StrLaws.glued_eq_join]
  induction l generalizing a with
  | nil=>simp[PySem.Str.join]
  | cons b l ih =>
   change cd (a++""++PySem.Str.join "" (b::l))=_;rw[bI,bI,ih b];change cd a++[]++_=cd a++_;rw[VJ]
   rfl
theorem mN.IG{f:Fm}{n:Nat}(h:mN f n):n<=6 * f.w:=by
 cases f with
 | nm x=>exact Xq h.2
 | num i=>exact Xq h.2
 | op s=>rw[h.2];exact (by decide:2<=6 * 1)
 | j3=>rw[show n=3 from h];decide
 | lt x=>rw[h.2];exact (by decide:2<=6 * 1)
 | mk c=>exact VF h.2 (by decide:3<=6 * 1)
 | ask f=>exact VF h.2.2 (by decide:4<=6 * 1)
 | k7 r hs=>rw[h.2.2];exact WK h.2.1.1
 | new k hs=>rw[h.2.2];exact VF h.2.1.1 (by decide:5<=6 * 1)
mutual
theorem wW:∀ t:Tm,t.gt->t.size<=1+6 * t.k9
 | .node f ks,h=>by
  have h1:=tD ks h.2;have h2:=h.1.IG;change aU ks+1<=1+6 * (f.w+ig ks);cbv
theorem tD:∀ ks:!Tm,zV ks->aU ks<=ks.length+6 * ig ks
 | [],_=>VT _
 | t::r,h=>by
  have h1:=wW t h.1;have h2:=tD r h.2;change t.size+aU r<=r.length+1+6 * (t.k9+ig r);cbv
end
theorem K8(u:Tm):AR (toD u) "str"=some false:=by
 cases u with
 | node f ks =>
  change AR (P5 f (toDs ks)) "str"=_;cases f<;>rfl
theorem hW(ts:!(!Nat)):(ts.flatMap (32::·)).length=ts.length+(ts.map List.length).sum:=by
 induction ts with
 | nil=>rfl
 | cons a l ih =>
  rw[VS,Vw,ih];simp only[List.length_cons,List.map_cons,List.sum_cons];cbv
theorem Lo{x:Str}(h:Nm x):(cd x).length<=8:=by rw[mW];exact h.2.2.1
theorem Pq{x:Str}(h:vA x):(cd x).length<=8:=by
 rcases h with h | rfl
 .exact Lo h
 .decide
theorem Bf{x:Str}{ns:!Str}(hx:Nm x)(hl:ns.length<=3)(hn:∀ n∈ns,Nm n):(fM (cd x::ns.map cd)).length<=35:=by
 have h1:=Lo hx;have h2:((ns.map cd).map List.length).sum<=8 * ns.length:=by
  clear hl
  induction ns with
  | nil=>exact VB _
  | cons a l ih =>
   have a1:=ih λn h=>hn n (Vy _ h);have a2:=Lo (hn a Vx);simp only[List.map_cons,List.sum_cons,List.length_cons];cbv
 rw[fM,Vw,hW,Vv];cbv
theorem mQ:∀ (hs:!(Str×!Str)) (ts:!(!Nat)),(∀ h∈hs,Nm h.1/\h.2.length<=3/\∀ n∈h.2,Nm n)->(eC hs ts).length<=41 * hs.length+(ts.map List.length).sum
 | [],_,_=>by simp[eC]
 | _::_,[],_=>by simp[eC]
 | h::hs,t::ts,hh=>by
  have h1:=mQ hs ts λx hx=>hh x (Vy _ hx);let(a,b,c):=hh h Vx;have h2:=Bf a b c;rw[eC];simp only[List.length_cons,List.length_append,List.map_cons,List.sum_cons];cbv
theorem A9{f:Fm}{ts:!(!Nat)}(h:mN f ts.length):(pB f ts).length<=8+230 * f.w+(ts.map List.length).sum:=by
 cases f with
 | nm x=>exact VF (Lo h.1) (by cbv)
 | num i =>
  have:=qB h.1.1 h.1.2;change (cd (qd i)).length<=_;rw[mW];cbv
 | op s =>
  have hs:(cd s).length=1:=by rcases h.1 with rfl | rfl | rfl<;>rfl
  have h2:=h.2;change (cd s++_).length<=8+230 * 1+_;rw[Vw,hW];cbv
 | j3 =>
  have h2:ts.length=3:=h;change (cd "zero"++_).length<=8+230 * 1+_;rw[Vw,hW,show (cd "zero").length=4 from U];cbv
 | lt x =>
  have h1:=Lo h.1;have h2:=h.2;change (cd "let "++cd x++_).length<=8+230 * 1+_;rw[Vw,Vw,hW,show (cd "let ").length=4 from U];cbv
 | mk x =>
  have h1:=Lo h.1;have h2:=h.2;change (cd "make "++cd x++_).length<=8+230 * 1+_;rw[Vw,Vw,hW,show (cd "make ").length=5 from U];cbv
 | ask x =>
  have h1:=Lo h.1;have h2:=h.2.2;cases ts with
  | nil=>exact absurd h.2.1 ()
  | cons t ts =>
   change (cd "ask "++t++(32::cd x)++ts.flatMap (32::·)).length<=8+230 * 1+_;rw[Vw,Vw,Vw,hW,show (cd "ask ").length=4 from U];simp only[List.length_cons,List.map_cons,List.sum_cons] at h2 ⊢;cbv
 | k7 r hs =>
  have h1:=Pq h.1;have h2:=h.2.2;have h3:=h.2.1.1;cases ts with
  | nil=>exact absurd h2 (by simp)
  | cons t ts =>
   have h4:=mQ hs ts h.2.1.2;change (cd "case "++t++cd " to "++cd r++eC hs ts).length<=8+230 * 1+_;rw[Vw,Vw,Vw,Vw,show (cd "case ").length=5 from U,show (cd " to ").length=4 from U];simp only[List.map_cons,List.sum_cons];cbv
 | new k hs =>
  have h1:=Pq h.1;have h3:=h.2.1.1;have h4:=mQ hs ts h.2.1.2;change (cd "new "++cd k++eC hs ts).length<=8+230 * 1+_;rw[Vw,Vw,show (cd "new ").length=4 from U];cbv
mutual
theorem zx:∀ t:Tm,t.gt->t.T.length<=8+290 * t.k9
 | .node f ks,h=>by
  have h1:=zG ks h.2;have h2:=h.1.IG;have hl:(vt ks).length=ks.length:=by rw[zp,Vv]
  have h3:=A9 (f:=f) (ts:=vt ks) (by rw[hl];exact h.1);rw[Tm.T,pK];change _<=8+290 * (f.w+ig ks);split
  .next e =>
   rw[e] at h2 h3;cbv
  .next e =>
   simp only[List.length_append,List.length_cons,List.length_nil];have:1<=f.w:=by cbv
   cbv
theorem zG:∀ ks:!Tm,zV ks->((vt ks).map List.length).sum<=8 * ks.length+290 * ig ks
 | [],_=>VT _
 | t::r,h=>by
  have h1:=zx t h.1;have h2:=zG r h.2;change t.T.length+((vt r).map List.length).sum<=8 * (r.length+1)+290 * (t.k9+ig r);cbv
end
theorem bJ{α:Type}{g:pN}{tb:kI}{R:kG}(f:α->D)(I:!α->DS->Prop){l:!α}(h0:∀ s,I l s->R.nx s)(h1:∀ dn x td s (E:kG),l=dn++x::td->I dn s->(∀ s',I (dn++[x]) s'->E.nx s')->(∀ d,R.rt d->E.rt d)->g (f x) s λs1=>tb E s1)(s:DS)(h:I [] s):mM g tb R (l.map f) s:=by
 show cO (λxs s=>∃ dn td,l=dn++td/\xs=td.map f/\I dn s) ?_ ?_ _ s #[[],l,U,U,h]
 .rintro s ⟨dn,td,e,hx,hi⟩;cases td with
  | nil=>rw[VJ] at e;subst e;exact h0 s hi
  | cons a b=>cases hx
 .rintro x xs s E ⟨dn,td,e,hx,hi⟩ hN hE;cases td with
  | nil=>cases hx
  | cons a td =>
   injection hx with e1 e2;subst e1 e2;exact h1 dn a td s E e hi (λs' hs=>hN s' #[dn++[a],td,by rw[e];simp,U,hs]) hE
section
variable{X:Cx}{c:Ent}{a b:Ch}{ta tb:aV}{pos:Pos}
theorem Mr{r1 r2:R2}(h1:HW X r1)(h2:HW X r2):HW X λx y H Q=>r1 x y H Q\/r2 x y H Q:=λvalue slice TD s σ H x y v u Q I rx ry h hs=>h.elim (λh=>h1 value slice TD s σ H x y v u Q I rx ry h hs) λh=>h2 value slice TD s σ H x y v u Q I rx ry h hs
def Nw:D->D->(D->Prop)->Prop:=λa b k=>∃ ds i d,(a=.tup ds\/a=.lst ds)/\b=.int i/\jd ds i=some d/\k d
theorem Pz:nF X c (λx y H Q=>KR X.K x y H Q\/Gk X.K x y H Q) Nw:=λM s as σ H x y dx dy k Q L rx ry h kk=>by
 let(ds,i,d,e1,e2,h,hk):=h;rcases e1 with e1 | e1
 .exact .inl (IE M s as σ H x y dx dy k Q L rx ry #[ds,i,d,e1,e2,h,hk] kk)
 .exact .inr (HR M s as σ H x y dx dy k Q L rx ry #[ds,i,d,e1,e2,h,hk] kk)
theorem Ob(ha:DE X c a ta)(hb:DE X c b tb)(hs:lq b:=by exact λ_ _=>rfl):DE X c (.Subscript a b pos) (BA Nw ta tb):=AO (Mr EG vp) Pz ha hb hs
end
section
open PyProof.Rows
variable{P:Fk}{w:FB}{K:Frag}{mg:Str->Option AC}{base:Db}{q:D3}{k nos:Nat}{g:BC}{t:Yd}{N:!Str}
theorem Own.n(o:Own K mg q)(S:av N q.2.2 (ai q.2.1))(len:∀ ds R,t ds R->ds.length=q.2.2.length)(hb:∀ (f:AT) (bT:AC) (A:Fr) (outer:!Env) (s:Cl) (H:Hp) (E:XK) (M:AT->Prop),dE k (A.deeper (envOfC q.1 (ai q.2.1) ↑s f bT)) ->
   ∃ tb,yM (n9 aQ P w K mg base N q.1 (ai q.2.1) f bT A outer s H E).FA #[g,M,H] (bx q.2.1) tb/\∀ ds R,t ds R->tb { nx:=λ_=>False,rt:=λ_=>False,rf:=R } (fI N.length nos ds))(hg:(g.qN=[])⁻¹):C4 P w K mg base aQ q (k+1) (fZ K g t):=o.c λf fd F=>L0 F S len (hb f) hg
end
theorem yL{α:Type}{x y:α}{r:!α}:jd (x::y::r) 1=some y:=fk (j:=1) U
theorem yp{α:Type}{x y z:α}{r:!α}:jd (x::y::z::r) 2=some z:=fk (j:=2) U
end DL
namespace DL
open L2 PySem
section
variable{i j:Nat}{s:DS}{Q:D->DS->Prop}{d a b:D}{k:D->Prop}{ds:!D}{n m:Int}{c:Bool}{B:Bool->Prop}
theorem q_v(h:s.sl[i]?=some (.dat d))(q:Q d s):JP i s Q:=#[d,h,q]
theorem q_bl(q:B c):∃ k,D.bl c=D.bl k/\B k:=#[c,U,q]
theorem q_eq(h:fN a=true/\fN b=true/\DQ (fv a) (fv b)=true)(q:k (.bl (decide (fv a=fv b)))):SY a b k:=#[h,q]
theorem q_t0{x:D}{r:!D}(q:k x):Co (.tup (x::r)) (.int 0) k:=#[_,_,_,U,U,cM,q]
theorem q_t1{x y:D}{r:!D}(q:k y):Co (.tup (x::y::r)) (.int 1) k:=#[_,_,_,U,U,yL,q]
theorem q_t2{x y z:D}{r:!D}(q:k z):Co (.tup (x::y::z::r)) (.int 2) k:=#[_,_,_,U,U,yp,q]
theorem q_b0{f:Int->Int->Bool}(q:k (.bl (f n m))):So f (.int n) (.int m) k:=#[n,m,U,U,q]
theorem q_i0{f:Int->Int->Int}(q:k (.int (f n m))):Rp f (.int n) (.int m) k:=#[n,m,U,U,q]
theorem q_ll(q:k (.int ds.length)):C6 [.lst ds] k:=#[ds,.inl U,q]
theorem q_lt(q:k (.int ds.length)):C6 [.tup ds] k:=#[ds,.inr U,q]
end
end DL
namespace DL
open PySem L2
inductive El where
 | w (x:Str) | k (t:Tm)
def El.T:El->!Nat
 | .w x=>cd x
 | .k t=>t.T
theorem DB:∀ {a b:!(!Nat)},a≠[]->fM (a++b)=fM a++b.flatMap (32::·)
 | x::a,b,_=>by
  change x++(a++b).flatMap (32::·)=x++a.flatMap (32::·)++_;rw[VU,VR]
end DL
namespace HT
open PySem PySem.Spec PyProof.Rows
open PySem.Builtin PySem.Builtin.Str
section
variable{prog:Fk}{w:FB}{A:Fr}{E:Yb}{s:Cl}{x y:Str}{t u:Tok}{Q:Yb}
theorem xU(hy:(y.length == 0)=false)(h:∀ (l:!(Str×Tok)) (k:Nat),l.map (·.1)=Txt.split x y->Q (.ref ↑s) { s with heap:=s.heap.push { cls:=.type "list",data:=.seq (strValues l).toArray },toks:=k })(hsz:x.length+2<=Ev) :
  Da (model prog w) A (call (.builtin "str.split") [.str x t,.str y u]) Q E s:=by
 have hn:(partsBetween x (occurrences x y 0 x.length (x.length+1)) y.length).length<=Ev:=by
  have e1:=StrLaws.occ_length_le x y 0 x.length (x.length+1);rw[length_partsBetween];cbv
 cases h1:(decide (x.length < y.length)||decide (strKind x < strKind y))
 .cases hf:(occurrences x y 0 x.length (x.length+1)).isEmpty
  .refine call_meets Xn (typeIs_str _ _ _) XQ (XH _ _) (meets_str_split_sep x y t u h1 hy hf (by cbv) hn) ?_;change wants Q E _ { s with toks:=_,heap:=s.heap.push { cls:=.type "list",data:=.seq (strsFrom s.toks (partsBetween x (occurrences x y 0 x.length (x.length+1)) y.length)).toArray } };rw[strsFrom_eq];exact h (numbered s.toks _) _ ((numbered_texts _ _).trans ((if_neg (ne_true_of_eq_false h1)).trans (if_neg (ne_true_of_eq_false hf))).symm)
  .exact call_meets Xn (typeIs_str _ _ _) XQ (XH _ _) (meets_str_split_not_found x y t u h1 hy hf)
    (h [(x,t)] s.toks ((if_neg (ne_true_of_eq_false h1)).trans (if_pos hf)).symm)
 .exact call_meets Xn (typeIs_str _ _ _) XQ (XH _ _) (meets_str_split_cannot_occur x y t u h1)
   (h [(x,t)] s.toks (if_pos h1).symm)
end
end HT
namespace L2
open PySem PySem.Spec PyProof.Rows
section
variable{X:Cx}
theorem ua:∀ (l:!(Str×Tok)),Vals ((l.map (·.1)).map V.str) (strValues l)
 | []=>.nil
 | p::l=>.cons #[p.2,U] (ua l)
def Ji:V->!V->Hp->VK->Prop:=λx vs H Q=>∃ z y,x=.str z/\vs=[.str y]/\(y.length == 0)=false/\z.length+2<=Ev/\(Txt.split z y).length<=Ev/\∀ p,H p=none->Q (.ref p) (upd H p (.lst ((Txt.split z y).map V.str)))
theorem Fe:Ib X "str.split" Ji:=by
 intro TD s σ H x vs v us Q I rx rv h;let(z,y,rfl,rfl,hy,hz,hl,q):=h;let(t,rfl):=rx;let(u,rfl,t',rfl):=rv.one;show HT.xU hy (λl k e=>?_) hz;have hf:H ↑s=none:=I.aZ.fresh (VB _);show#[.ref ↑s,upd H ↑s (.lst ((Txt.split z y).map V.str)),I.laid (t':=k) (λb u e=>Vz _ e) (VB _) ?_,U,q _ hf];have hv:=ua l;rw[e] at hv;exact#[by rw[Vv];exact hl,strValues l,0,hv,VP _ U]
end
end L2
namespace DL
open PySem L2
def dF(c:Nat):!(!Nat)->!Nat
 | []=>[]
 | a::l=>a++l.flatMap (c::·)
theorem iV{c:Nat}{l:!(!Nat)}(h:l≠[]):l.flatMap (c::·)=c::dF c l:=by
 cases l with
 | nil=>exact absurd U h
 | cons a l=>rfl
theorem ON{c:Nat}:∀ {x y:!Nat} {r s:!Nat},c∉x->c∉y->x++c::r=y++c::s->x=y/\r=s
 | [],[],r,s,_,_,h=>#[U,by injection h]
 | [],b::y,r,s,_,hy,h=>by
  injection h with h1 h2;exact absurd (h1▸Vx) hy
 | a::x,[],r,s,hx,_,h=>by
  injection h with h1 h2;exact absurd (h1▸Vx) hx
 | a::x,b::y,r,s,hx,hy,h=>by
  injection h with h1 h2;let(e1,e2):=ON (λz=>hx (Vy _ z)) (λz=>hy (Vy _ z)) h2;exact#[by rw[h1,e1],e2]
theorem tj{c:Nat}:∀ {a b:!(!Nat)},a≠[]->b≠[]->(∀ x∈a,c∉x)->(∀ x∈b,c∉x)->dF c a=dF c b->a=b
 | [x],[y],_,_,_,_,h=>by simpa [dF] using h
 | [x],y::z::b,_,_,ha,_,h=>by
  have h:x++[]=y++(z::b).flatMap (c::·):=h;rw[iV (by simp),List.append_nil] at h;exact absurd (by rw[h];simp) (ha x List.mem_cons_self)
 | x::z::a,[y],_,_,_,hb,h=>by
  have h:x++(z::a).flatMap (c::·)=y++[]:=h;rw[iV (by simp),List.append_nil] at h;exact absurd (by rw[<- h];simp) (hb y List.mem_cons_self)
 | x::z::a,y::u::b,_,_,ha,hb,h=>by
  have h:x++(z::a).flatMap (c::·)=y++(u::b).flatMap (c::·):=h;rw[iV (by simp),iV (by simp)] at h;let(e1,e2):=ON (ha x Vx) (hb y Vx) h;rw[e1,tj (by simp) (by simp) (λx hx=>ha x (List.mem_cons_of_mem _ hx)) (λx hx=>hb x (List.mem_cons_of_mem _ hx)) e2]
theorem o6{s:Str}{c:Nat}(hs:cd s=[c]):∀ zs:!Str,cd (PySem.Str.join s zs)=dF c (zs.map cd)
 | []=>rfl
 | [a]=>by simp[PySem.Str.join,dF]
 | a::b::l=>by
  have ih:=o6 hs (b::l);change cd (a++s++PySem.Str.join s (b::l))=_;rw[bI,bI,hs,ih];simp[dF]
theorem Dr{s:Str}{c:Nat}(hs:cd s=[c])(zs:!Str):cd (Txt.join s zs)=dF c (zs.map cd):=by
 change cd (FM.Str.glued s zs)=_;rw[StrLaws.glued_eq_join];exact o6 hs zs
theorem BQ:∀ l:!Str,l.map (cD∘cd)=l:=λl=>by
 induction l with
 | nil=>rfl
 | cons a l ih=>rw[VE,ih];exact congrArg (·::l) (zj a)
theorem FQ{s:Str}{c:Nat}(hs:cd s=[c])(e2:∀ z:Str,∀ p∈Txt.split z s,c∉cd p){ws:!(!Nat)}(h1:ws≠[])(h3:∀ x∈ws,c∉x):Txt.split (cD (dF c ws)) s=ws.map cD:=by
 have e1:PySem.Str.join s (Txt.split (cD (dF c ws)) s)=cD (dF c ws):=StrLaws.join_split _ _;have e3:dF c ((Txt.split (cD (dF c ws)) s).map cd)=dF c ws:=by
  rw[<- o6 hs,e1]
 have wN:Txt.split (cD (dF c ws)) s≠[]:=λz=>by
  have:=PyProof.Rows.split_pos (cD (dF c ws)) s;rw[z] at this;exact absurd this ()
 have e4:=tj (a:=(Txt.split (cD (dF c ws)) s).map cd) (b:=ws) (λz=>wN (List.map_eq_nil_iff.mp z)) h1 (λx hx=>by
  let(p,hp,rfl):=VI.mp hx;exact e2 _ p hp) h3 e3
 have e5:Txt.split (cD (dF c ws)) s=((Txt.split (cD (dF c ws)) s).map cd).map cD:=by
  rw[V2];exact (BQ _).symm
 rw[e4] at e5;exact e5
theorem CK{ws:!(!Nat)}(h1:ws≠[])(h3:∀ x∈ws,10∉x):Txt.split (cD (dF 10 ws)) "\n"=ws.map cD:=FQ U (λz=>StrLaws.split_free z 10) h1 h3
structure Hd where
 nm:Str
 fs:!(Str×Str)
 res:Option Str
def Hd.tl(h:Hd):!D:=match h.res with
 | none=>[]
 | some r=>[.str r]
def Hd.cells(h:Hd):!D:=.str h.nm::.tup (h.fs.map pairD)::h.tl
def wm(h:Hd):D:=.tup h.cells
structure Tb where
 h:Hd
 rows:!(Str×Tm)
def i6(t:Tb):D:=.tup (t.h.cells++[.tup (t.rows.map eP)])
structure Kp where
 asked:Bool
 nm:Str
 heads:!Hd
 tabs:!Tb
def bW(k:Kp):D:=.tup [.str (bM k.asked),.str k.nm,.tup (k.heads.map wm),.tup (k.tabs.map i6)]
structure dw(mk:Bool)(h:Hd):Prop where
 nm:Nm h.nm
 fl:h.fs.length<=3
 fs:∀ p∈h.fs,Nm p.1/\vA p.2
 res:if mk=true then h.res=none else ∃ r,h.res=some r/\vA r
def qP(t:Tm):Prop:=t.gt/\t.dep<=20/\t.k9<=127
structure og(mk:Bool)(t:Tb):Prop where
 h:dw mk t.h
 rl:t.rows.length<=5
 rs:∀ r∈t.rows,Nm r.1/\qP r.2
structure eW(k:Kp):Prop where
 nm:Nm k.nm
 hl:k.heads.length<=5
 hs:∀ h∈k.heads,dw (not k.asked) h
 tl:k.tabs.length<=5
 ts:∀ t∈k.tabs,og k.asked t
def Hd.ws(h:Hd):!Str:=h.nm::(h.fs.flatMap λp=>[p.1,p.2])
def Hd.to(h:Hd):!Str:=match h.res with
 | none=>[]
 | some r=>["to",r]
def Hd.gg(h:Hd):!El:=(h.ws++h.to).map .w
def Kp.gg(k:Kp):!El:=.w (bM k.asked)::.w k.nm::k.heads.flatMap λh=>.w "|"::h.gg
def tabS(b:Bool):Str:=if b=true then "tab" else "def"
def qo(r:Str×Tm):!El:=[.w r.1,.w ":",.k r.2]
def Tb.gg(a:Bool)(t:Tb):!El:=.w (tabS a)::(t.h.gg++t.rows.flatMap λr=>.w "|"::qo r)
def Kp.rws(k:Kp):!(!El):=k.gg::k.tabs.map (Tb.gg k.asked)
def cL(es:!El):!Nat:=fM (es.map El.T)
theorem oM{a b:!El}(h:a≠[]):cL (a++b)=cL a++b.flatMap λe=>32::e.T:=by
 unfold cL;rw[List.map_append,DB (by simpa using h),List.flatMap_map]
theorem qh(e:El)(b:!El):cL (e::b)=e.T++b.flatMap λe=>32::e.T:=by
 rw[show e::b=[e]++b from U,oM (by simp)];simp[cL,fM]
theorem vH{b:!El}(h:b≠[]):(b.flatMap λe=>32::e.T)=32::cL b:=by
 cases b with
 | nil=>exact absurd U h
 | cons e b =>
  rw[qh,VS]
  rfl
theorem DV:∀ (g:!El) (gs:!(!El)),g≠[]->(∀ x∈gs,x≠[])->cd (PySem.Str.join " | " ((g::gs).map λx=>cD (cL x)))=cL (g++gs.flatMap λx=>.w "|"::x)
 | g,[],hg,_=>by
  rw[WB,VJ];simp[PySem.Str.join]
 | g,x::gs,hg,h=>by
  have ih:=DV x gs (h x Vx) λy hy=>h y (Vy _ hy);change cd (cD (cL g)++" | "++PySem.Str.join " | " ((x::gs).map λx=>cD (cL x)))=_;rw[bI,bI,ih,oM hg,VS,Xv,VS];have e:(El.w "|"::(x++gs.flatMap λx=>.w "|"::x)).flatMap (λe=>32::e.T)=32::124::32::cL (x++gs.flatMap λx=>.w "|"::x):=by
   rw[List.flatMap_cons,vH (by simp[h x List.mem_cons_self])]
   rfl
  rw[VS] at e;rw[e];change cL g++cd " | "++_=_;rw[show cd " | "=[32,124,32] from U];simp
theorem oB(g:!El)(gs:!(!El))(hg:g≠[])(h:∀ x∈gs,x≠[]):Txt.join " | " ((g::gs).map λx=>cD (cL x))=cD (cL (g++gs.flatMap λx=>.w "|"::x)):=by
 show d3 ?_;change cd (FM.Str.glued " | " _)=_;rw[StrLaws.glued_eq_join];exact DV g gs hg h
theorem Hv(ws:!Str):Txt.join " " ws=cD (cL (ws.map .w)):=by
 show d3 ?_;rw[yJ];change _=fM _;rw[V2]
 rfl
theorem Gj{n:Nat}:∀ {es:!El},(∀ e∈es,e.T.length<=n)->(cL es).length<=(n+1) * es.length
 | [],_=>by simp[cL,fM]
 | e::es,h=>by
  have h1:=h e Vx;have h2:∀ {l:!El},(∀ e∈l,e.T.length<=n)->(l.flatMap λe=>32::e.T).length<=(n+1) * l.length:=λ{l} h=>by
   induction l with
   | nil=>simp
   | cons a l ih =>
    have h3:=ih λe he=>h e (Vy _ he);have h4:=h a Vx;rw[VS,Vw,VD,VD,Nat.mul_add];cbv
  have h3:=h2 λe he=>h e (Vy _ he);rw[qh,Vw,VD,Nat.mul_add];cbv
theorem lO:∀ {l:!(Str×Str)},(∀ p∈l,p.1.length<=8/\p.2.length<=8)->((l.flatMap λp=>[p.1,p.2]).map (·.length)).sum<=16 * l.length/\(l.flatMap λp=>[p.1,p.2]).length=2 * l.length
 | [],_=>by simp
 | p::l,h=>by
  let(h1,h2):=lO λq hq=>h q (Vy _ hq);let(h3,h4):=h p Vx;rw[VS,VA,Wx,Vw,h2,VD];simp only[List.map_cons,List.map_nil,List.sum_cons,List.sum_nil,List.length_cons,List.length_nil];cbv
theorem cJ{x:Str}(h:Nm x):x.length<=8:=h.2.2.1
theorem iK{x:Str}(h:vA x):x.length<=8:=by
 rcases h with h | rfl
 .exact cJ h
 .decide
theorem dw.D9{b:Bool}{h:Hd}(o:dw b h):h.nm.length<=8/\h.fs.length<=3/\∀ p∈h.fs,p.1.length<=8/\p.2.length<=8:=#[cJ o.nm,o.fl,λp hp=>#[cJ (o.fs p hp).1,iK (o.fs p hp).2]]
theorem FG{h:Hd}(o:h.nm.length<=8/\h.fs.length<=3/\∀ p∈h.fs,p.1.length<=8/\p.2.length<=8):(cL (h.ws.map .w)).length<=63:=by
 have h1:=(lO o.2.2).2;have h2:=Gj (n:=8) (es:=h.ws.map .w) λe he=>by
  let(x,hx,rfl):=VI.mp he;change (cd x).length<=8;rw[mW];rcases VG.mp hx with rfl | hx
  .exact o.1
  .let(p,hp,hx):=V3.mp hx;rcases VG.mp hx with rfl | hx
   .exact (o.2.2 p hp).1
   .rw[VH.mp hx];exact (o.2.2 p hp).2
 have h3:(h.ws.map El.w).length=1+2 * h.fs.length:=by
  change ((h.nm::h.fs.flatMap λp=>[p.1,p.2]).map El.w).length=_;rw[Vv,VD,h1];cbv
 rw[h3] at h2;have:=o.2.1;cbv
theorem MZ{ws:!Str}(hw:ws≠[])(r:Str):cD (cL (ws.map .w))++" to "++r=cD (cL ((ws++(["to",r]:!Str)).map .w)):=by
 show d3 ?_;rw[bI,bI,List.map_append,oM (by simpa using hw)];change cL (ws.map .w)++cd " to "++cd r=cL (ws.map .w)++((32::cd "to")++((32::cd r)++[]));rw[show cd " to "=32::cd "to"++[32] from U];simp
theorem OJ(x:Str)(t:Tm):x++" : "++cD t.T=cD (cL (qo (x,t))):=by
 show d3 ?_;rw[bI,bI];change cd x++cd " : "++t.T=cd x++((32::cd ":")++((32::t.T)++[]));rw[show cd " : "=32::cd ":"++[32] from U];simp
end DL
set_option maxRecDepth 190000
namespace DL
open PySem L2
def iY(l:!El)(n:Nat):Prop:=(l.map λe=>e.T.length+1).sum<=n
theorem iY.len{l:!El}{n:Nat}(h:iY l n):(cL l).length<=n:=by
 have e:∀ l:!(!Nat),(l.flatMap (32::·)).length=(l.map λx=>x.length+1).sum:=λl=>by
  induction l with
  | nil=>rfl
  | cons a l ih=>rw[VS,Vw,ih,VE,We,VD]
 show VF ?_ h;cases l with
 | nil=>exact VT _
 | cons a l =>
  change (a.T++(l.map El.T).flatMap (32::·)).length<=_;rw[Vw,e,VE,We,V2];change a.T.length+(l.map λe=>e.T.length+1).sum<=_;cbv
theorem iY.app{l r:!El}{m n:Nat}(h:iY l m)(k:iY r n):iY (l++r) (m+n):=by
 unfold iY at *;rw[VA,Wx];cbv
theorem iY.cons{r:!El}{n:Nat}{x:Str}(h:x.length<=8)(k:iY r n):iY (.w x::r) (n+9):=by
 unfold iY at *;rw[VE,We];change (cd x).length+1+_<=_;rw[mW];cbv
theorem iY.nil:iY [] 0:=VB 0
theorem iY.ws{l:!Str}{n:Nat}(hl:l.length<=n)(h:∀ x∈l,x.length<=8):iY (l.map .w) (n * 9):=by
 show VF ?_ (W2 9 hl);clear hl
 induction l with
 | nil=>exact VB _
 | cons a l ih =>
  rw[VE,VE,We,VD,Xr];have h1:=h a Vx;have h2:=ih λx hx=>h x (Vy _ hx);change (cd a).length+1+_<=_;rw[mW];cbv
theorem iY.flat{α:Type}{f:α->!El}{m:Nat}:∀ {l:!α} {n:Nat},l.length<=n->(∀ x∈l,iY (f x) m)->iY (l.flatMap f) (n * m)
 | [],n,_,_=>VT _
 | x::l,0,h,_=>absurd h (by simp)
 | x::l,n+1,h,k=>by
  rw[VS,Xr,Nat.add_comm];exact (k x Vx).app (iY.flat (Nat.le_of_succ_le_succ h) λy hy=>k y (Vy _ hy))
theorem dw.S7{b:Bool}{h:Hd}(o:dw b h):h.ws.length<=7/\∀ x∈h.ws,x.length<=8:=by
 have hl:=o.D9;show#[?_,λx hx=>?_]
 .show (_::_).length<=_;rw[VD,(lO hl.2.2).2];have:=o.fl;cbv
 .rcases VG.mp hx with rfl | hx
  .exact hl.1
  .let(p,hp,hx):=V3.mp hx;rcases VG.mp hx with rfl | hx
   .exact (hl.2.2 p hp).1
   .rw[VH.mp hx];exact (hl.2.2 p hp).2
theorem dw.L7{b:Bool}{h:Hd}(o:dw b h):h.to.length<=2/\∀ x∈h.to,x.length<=8:=by
 have hr:=o.res;unfold Hd.to;cases e:h.res with
 | none=>exact#[VT _,λ_ h=>by cases h]
 | some r =>
  show#[VB _,λx hx=>?_];rcases VG.mp hx with rfl | hx
  .decide
  .rw[VH.mp hx];cases b with
   | true=>rw[if_pos U,e] at hr;cases hr
   | false =>
    rw[if_neg VN] at hr;let(r',h1,h2):=hr;rw[e] at h1;injection h1 with h1;rw[h1];exact iK h2
theorem dw.gg{b:Bool}{h:Hd}(o:dw b h):iY h.gg (9 * 9):=by
 unfold Hd.gg;show iY.ws (by rw[Vw];have:=o.S7.1;have:=o.L7.1;cbv) λx hx=>?_;exact (VM.mp hx).elim (o.S7.2 x) (o.L7.2 x)
theorem vq{r:Str×Tm}(h1:Nm r.1)(h2:qP r.2):iY (qo r) (36840+9+9):=by
 show iY.cons (cJ h1) (iY.cons () ?_);have:=zx r.2 h2.1;have:=h2.2.2;change (r.2.T.length+1)+0<=_;cbv
theorem BR(b:Bool):(bM b).length<=8:=by cases b<;>decide
theorem Hc(b:Bool):(tabS b).length<=8:=by cases b<;>decide
theorem og.gg{b a:Bool}{t:Tb}(o:og b t):iY (t.gg a) (9 * 9+5 * (36840+9+9+9)+9):=iY.cons (Hc a) (o.h.gg.app (iY.flat o.rl λr hr=>iY.cons () (vq (o.rs r hr).1 (o.rs r hr).2)))
theorem eW.gg{k:Kp}(o:eW k):iY k.gg (5 * (9 * 9+9)+9+9):=iY.cons (BR _) (iY.cons (cJ o.nm) (iY.flat o.hl λh hh=>iY.cons () (o.hs h hh).gg))
theorem eW.rws{k:Kp}(o:eW k):k.rws.length<=6/\∀ r∈k.rws,(cL r).length<=190000:=by
 show#[?_,λr hr=>?_]
 .show (_::_).length<=_;rw[VD,Vv];exact WK o.tl
 .rcases VG.mp hr with rfl | hr
  .exact VF o.gg.len ()
  .let(t,ht,rfl):=VI.mp hr;exact VF (o.ts t ht).gg.len ()
theorem tM{ws:!Str}{n:Nat}(hn:ws.length<=n)(HU:n<=80)(h:∀ x∈ws,x.length<=190000){s:Str}(hs:s.length<=3):(ws.map (·.length)).sum+ws.length * s.length<=16777216:=by
 have h1:∀ {l:!Str},(∀ x∈l,x.length<=190000)->(l.map (·.length)).sum<=l.length * 190000:=λ{l} h=>by
  induction l with
  | nil=>exact VB _
  | cons a l ih =>
   have:=ih λx hx=>h x (Vy _ hx);have:=h a Vx;rw[VE,We,VD,Xr];cbv
 have h2:=h1 h;have h3:ws.length * s.length<=80 * 3:=Nat.mul_le_mul (VF hn HU) hs;have h4:ws.length * 190000<=80 * 190000:=W2 _ (VF hn HU);cbv
theorem jL{g:!El}{gs:!(!El)}(hl:gs.length<=79)(hg:(cL g).length<=190000)(h:∀ x∈gs,(cL x).length<=190000){s:Str}(hs:s.length<=3):(((g::gs).map λx=>cD (cL x)).map (·.length)).sum+((g::gs).map λx=>cD (cL x)).length * s.length<=16777216:=by
 show tM (n:=80) (by rw[Vv,VD];cbv) (VB _) (λx hx=>?_) hs;let(y,hy,rfl):=VI.mp hx;rw[cX];rcases VG.mp hy with rfl | hy
 .exact hg
 .exact h y hy
theorem oE{α:Type}(g:!El)(f:α->!El)(l:!α):[D.lst ([D.str (cD (cL g))]++l.map λx=>.str (cD (cL (f x))))]=[D.lst (((g::l.map f).map λx=>cD (cL x)).map .str)]:=by simp
theorem Iq(a b:Str):a++" "++b=cD (cL [.w a,.w b]):=by
 show d3 ?_;rw[bI,bI];change _=cd a++((32::cd b)++[]);rw[show cd " "=[32] from U];simp
theorem Ja(b:Str):("made ":Str)++b=cD (cL [.w "made",.w b]):=Iq "made" b
theorem Hr(b:Str):("asked ":Str)++b=cD (cL [.w "asked",.w b]):=Iq "asked" b
theorem IW{a:Str}{l:!El}(h:l≠[]):a++" "++cD (cL l)=cD (cL (.w a::l)):=by
 show d3 ?_;rw[bI,bI,qh,vH h];rw[show cd " "=[32] from U];simp[El.T]
theorem OA{l:!El}(h:l≠[]):("def ":Str)++cD (cL l)=cD (cL (.w "def"::l)):=IW (a:="def") h
theorem O9{l:!El}(h:l≠[]):("tab ":Str)++cD (cL l)=cD (cL (.w "tab"::l)):=IW (a:="tab") h
end DL
set_option maxRecDepth 190000
namespace DL
open PySem L2
theorem mN.arr{f:Fm}{n:Nat}(h:mN f n):f.ar n=true:=by
 cases f<;>simp only[mN,Fm.ar] at h ⊢
 .simp[h.2]
 .simp[h.2]
 .simp[h.2]
 .simp[h]
 .simp[h.2]
 .simp[h.2.1]
 .simp[h.2.2];exact λa b hab=>VF (h.2.1.2 _ hab).2.1 ()
 .simp[h.2.2];exact λa b hab=>VF (h.2.1.2 _ hab).2.1 ()
mutual
theorem nz:∀ t:Tm,t.gt->t.wf=true/\t.size<=1+6 * t.k9
 | .node f ks,h=>by
  let(h1,h2):=EL ks h.2;have h3:=h.1.IG;show#[?_,?_]
  .show (f.ar ks.length&&mD ks)=true;rw[h.1.arr,h1]
   rfl
  .show aU ks+1<=1+6 * (f.w+ig ks);cbv
theorem EL:∀ ks:!Tm,zV ks->mD ks=true/\aU ks<=ks.length+6 * ig ks
 | [],_=>#[U,VT _]
 | t::r,h=>by
  let(h1,h2):=nz t h.1;let(h3,h4):=EL r h.2;show#[?_,?_]
  .show (t.wf&&mD r)=true;rw[h1,h3]
   rfl
  .show t.size+aU r<=(r.length+1)+6 * (t.k9+ig r);cbv
end
def uw:Tm->Option (Bool×Str)
 | .node (.mk x) _=>some (false,x)
 | .node (.ask x) _=>some (true,x)
 | _=>none
def Gh(b:Bool):Str:=if b=true then "ask" else "make"
def dX(u:Bool×Str):!Key:=[.inr (Gh u.1),.inr u.2]
def M7:Option (Bool×Str)->D
 | none=>.cA
 | some u=>.tup [.str (Gh u.1),.str u.2]
theorem ik{u v:Bool×Str}:dX u=dX v↔u=v:=by
 show#[λh=>?_,λh=>by rw[h]];let(b,x):=u;let(c,y):=v;simp only[dX,List.cons.injEq,Sum.inr.injEq,and_true] at h;let(h1,h2):=h;subst h2;cases b<;>cases c<;>first | rfl | exact absurd h1 ()
abbrev Cn:=!((Bool×Str)×Nat)
def GC(l:Cn):D:=.j9 (l.map λp=>dX p.1) (l.map λp=>.int p.2)
def lk:Cn->Bool×Str->Nat
 | [],_=>0
 | p::r,u=>if p.1=u then p.2 else lk r u
def n8(l:Cn)(u:Bool×Str):Bool:=l.any λp=>decide (p.1=u)
def bump(l:Cn)(u:Bool×Str):Cn:=if n8 l u=true then l.map λp=>if p.1=u then (p.1,lk l u+1) else p else l++[(u,1)]
theorem vc:∀ (l:Cn) (u:Bool×Str),(cp (l.map λp=>dX p.1) (l.map λp=>D.int p.2) (dX u)).getD (.int 0)=.int (lk l u)
 | [],_=>rfl
 | p::r,u=>by
  rw[VE,VE,cp,lk];by_cases h:p.1=u
  .rw[if_pos (ik.mpr h),if_pos h]
   rfl
  .rw[if_neg (λz=>h (ik.mp z)),if_neg h];exact vc r u
theorem Kw(l:Cn)(u:Bool×Str):mG (l.map λp=>dX p.1) (dX u)=n8 l u:=by
 unfold mG n8;rw[List.any_map];show congrArg (List.any l) (funext λp=>?_);exact decide_eq_decide.mpr ik
theorem G7{l:Cn}{u:Bool×Str}(h:n8 l u=false):lk l u=0:=by
 induction l with
 | nil=>rfl
 | cons p r ih =>
  unfold n8 at h ih;rw[WM,X8] at h;rw[lk,if_neg (of_decide_eq_false h.1)];exact ih h.2
theorem K9(l:Cn)(u:Bool×Str):D.j9 (d7 (l.map λp=>dX p.1) (dX u)) (fc (l.map λp=>dX p.1) (l.map λp=>.int p.2) (dX u) (.int ((lk l u:Nat)+1:Int)))=GC (bump l u):=by
 unfold d7 fc bump;rw[Kw];cases e:n8 l u with
 | false =>
  simp only[Bool.false_eq_true,if_false];rw[G7 e];unfold GC;rw[VA,VA]
  rfl
 | true =>
  simp only[if_true];unfold GC;have h1:(l.map λp=>if p.1=u then (p.1,lk l u+1) else p).map (λp=>dX p.1)=l.map λp=>dX p.1:=by
   rw[V2];show WQ λp _=>?_;change dX (if p.1=u then (p.1,lk l u+1) else p).1=_;split<;>rfl
  rw[h1]
  congr 1
  have h2:∀ (r:Cn) (n:Nat),i9 (r.map λp=>dX p.1) (r.map λp=>D.int p.2) (dX u) (.int ((n:Nat)+1:Int))=(r.map λp=>if p.1=u then (p.1,n+1) else p).map λp=>D.int p.2:=λr n=>by
   induction r with
   | nil=>rfl
   | cons p r ih =>
    simp only[List.map_cons,i9];rw[ih];by_cases h:p.1=u
    .rw[if_pos (ik.mpr h),if_pos h]
     rfl
    .rw[if_neg (λz=>h (ik.mp z)),if_neg h]
  exact h2 l _
theorem GO(l:Cn)(u v:Bool×Str):lk (bump l u) v=if u=v then lk l u+1 else lk l v:=by
 unfold bump;cases e:n8 l u with
 | false =>
  simp only[Bool.false_eq_true,if_false];have h:∀ r:Cn,n8 r u=false->lk (r++[(u,1)]) v=if u=v then lk r u+1 else lk r v:=λr hr=>by
   induction r with
   | nil=>simp[lk]
   | cons p r ih =>
    unfold n8 at hr ih;rw[WM,X8] at hr;have hp:=of_decide_eq_false hr.1;rw[Xv,lk,ih hr.2,lk,lk,if_neg hp];by_cases h:u=v
    .subst h;rw[if_neg hp,if_pos U];simp
    .rw[if_neg h,if_neg h]
  exact h l e
 | true =>
  simp only[if_true];have h:∀ (r:Cn) (n:Nat),n8 r u=true->lk (r.map λp=>if p.1=u then (p.1,n) else p) v=if u=v then n else lk r v:=λr n hr=>by
   induction r with
   | nil=>cases hr
   | cons p r ih =>
    rw[VE,lk];by_cases hp:p.1=u
    .rw[if_pos hp];change (if p.1=v then n else _)=_;rw[hp];by_cases h:u=v
     .rw[if_pos h,if_pos h]
     .rw[if_neg h,if_neg h,lk,hp,if_neg h];have h2:∀ r:Cn,lk (r.map λp=>if p.1=u then (p.1,n) else p) v=lk r v:=λr=>by
       induction r with
       | nil=>rfl
       | cons p r ih =>
        rw[VE,lk,lk,ih];by_cases hp:p.1=u
        .rw[if_pos hp];change (if p.1=v then n else _)=_;rw[hp,if_neg h,if_neg h]
        .rw[if_neg hp]
      exact h2 r
    .have hr:n8 r u=true:=by
      unfold n8 at hr ⊢;rw[WM,decide_eq_false hp,Bool.false_or] at hr;exact hr
     rw[if_neg hp,ih hr,lk];by_cases h:u=v
     .subst h;rw[if_pos U,if_pos U,if_neg hp]
     .rw[if_neg h,if_neg h]
  exact h l _ e
theorem C9(l:Cn)(u:Bool×Str):(bump l u).length<=l.length+1:=by
 unfold bump;split
 .rw[Vv];cbv
 .rw[Vw];exact VB _
def rM(l:Cn)(us:!(Bool×Str)):Prop:=l.length<=us.length/\∀ u,lk l u=us.count u
theorem rM.nil:rM [] []:=#[VB _,λ_=>rfl]
theorem rM.bump{l:Cn}{us:!(Bool×Str)}(h:rM l us)(u:Bool×Str):rM (bump l u) (us++[u]):=by
 show#[by rw[Vw];exact VF (C9 l u) (WK h.1),λv=>?_];rw[GO,List.count_append,<- h.2 v];by_cases e:u=v
 .subst e;rw[if_pos U];simp
 .rw[if_neg e];simp[e]
def Bd(r:Str×Tm):!(Bool×Str):=r.2.pre.filterMap uw
def Tb.uses(t:Tb):!(Bool×Str):=t.rows.flatMap Bd
def Kp.uses(k:Kp):!(Bool×Str):=k.tabs.flatMap Tb.uses
theorem bj{α β:Type}{f:α->!β}{m:Nat}:∀ {l:!α} {n:Nat},l.length<=n->(∀ x∈l,(f x).length<=m)->(l.flatMap f).length<=n * m
 | [],n,_,_=>VT _
 | x::l,0,h,_=>absurd h (by simp)
 | x::l,n+1,h,k=>by
  rw[VS,Xr,Vw];have h1:=bj (f:=f) (Nat.le_of_succ_le_succ h) λy hy=>k y (Vy _ hy);have h2:=k x Vx;cbv
theorem wY{r:Str×Tm}(h:qP r.2):(Bd r).length<=763:=by
 show VF (XG _ _) ?_;rw[iC];have:=(nz r.2 h.1).2;have:=h.2.2;cbv
theorem eW.uses{k:Kp}(o:eW k):k.uses.length<=5 * (5 * 763):=bj o.tl λt ht=>bj (o.ts t ht).rl λr hr=>wY ((o.ts t ht).rs r hr).2
end DL
set_option maxRecDepth 190000
namespace DL
open PySem L2
def Kp.wb(k:Kp)(b:Bool):!Hd:=if k.asked=b then k.heads else k.tabs.map (·.h)
def Kp.told(k:Kp):!(Bool×Str):=(k.wb false).map (λh=>(false,h.nm))++(k.wb true).map λh=>(true,h.nm)
def Pn(l:!(Bool×Str)):D:=.j9 (l.map dX) (l.map λ_=>.bl true)
def oZ(l us:!(Bool×Str)):Prop:=l.length<=us.length/\l.Nodup/\∀ u,u∈l↔u∈us
theorem oZ.nil:oZ [] []:=#[VB _,.nil,λ_=>Iff.rfl]
def AD(l:!(Bool×Str))(u:Bool×Str):!(Bool×Str):=if u∈l then l else l++[u]
theorem BP(l:!(Bool×Str))(u:Bool×Str):D.j9 (d7 (l.map dX) (dX u)) (fc (l.map dX) (l.map λ_=>D.bl true) (dX u) (.bl true))=Pn (AD l u):=by
 have hh:mG (l.map dX) (dX u)=decide (u∈l):=by
  unfold mG;rw[List.any_map,Xm,List.any_eq_true,decide_eq_true_iff];show#[λ#[x,hx,e]=>?_,λh=>#[u,h,decide_eq_true U]];rw[ik.mp (of_decide_eq_true e)] at hx;exact hx
 unfold d7 fc AD;rw[hh];by_cases h:u∈l
 .rw[decide_eq_true h,if_pos U,if_pos U,if_pos h];have h2:∀ r:!(Bool×Str),i9 (r.map dX) (r.map λ_=>D.bl true) (dX u) (.bl true)=r.map λ_=>D.bl true:=λr=>by
   induction r with
   | nil=>rfl
   | cons p r ih =>
    simp only[List.map_cons,i9];rw[ih];split<;>rfl
  rw[h2]
  rfl
 .rw[decide_eq_false h,if_neg VN,if_neg VN,if_neg h];unfold Pn;rw[VA,VA]
  rfl
theorem oZ.put{l us:!(Bool×Str)}(h:oZ l us)(u:Bool×Str):oZ (AD l u) (us++[u]):=by
 let(h1,h2,h3):=h;unfold AD;by_cases e:u∈l
 .rw[if_pos e];show#[by rw[Vw];cbv,h2,λv=>?_];rw[VM,<- h3 v,VH];exact#[.inl,λz=>z.elim id λz=>z▸e]
 .rw[if_neg e];show#[by rw[Vw,Vw];exact WK h1,?_,λv=>?_]
  .rw[Wi];exact#[h2,by simp,λa ha b hb=>by rw[List.mem_singleton.mp hb];exact λz=>e (z▸ha)]
  .rw[VM,VM,h3 v]
theorem eW.wb{k:Kp}(o:eW k)(b:Bool):(k.wb b).length<=5:=by
 unfold Kp.wb;split
 .exact o.hl
 .rw[Vv];exact o.tl
theorem eW.told{k:Kp}(o:eW k):k.told.length<=10:=by
 unfold Kp.told;rw[Vw,Vv,Vv];have:=o.wb false;have:=o.wb true;cbv
theorem Bp{l us ns:!(Bool×Str)}(h:oZ l ns):(l.map λu=>us.count u).sum=us.countP λu=>decide (u∈ns):=by
 have h0:us.countP (λu=>decide (u∈ns))=us.countP λu=>decide (u∈l):=congrArg (λf=>List.countP f us) (funext λu=>decide_eq_decide.mpr (h.2.2 u).symm);rw[h0];have hn:=h.2.1;clear h0 h
 induction us with
 | nil =>
  clear hn
  induction l with
  | nil=>rfl
  | cons a l ih=>simpa using ih
 | cons u us ih =>
  rw[List.countP_cons,<- ih];have h1:∀ {l:!(Bool×Str)},l.Nodup->(l.map λv=>(u::us).count v).sum=(l.map λv=>us.count v).sum+if decide (u∈l)=true then 1 else 0:=λ{l} hn=>by
   induction l with
   | nil=>simp
   | cons v l ih =>
    rw[WO] at hn;rw[VE,We,ih hn.2,VE,We,List.count_cons];by_cases e:u=v
    .subst e;simp[hn.1];cbv
    .simp[e];cbv
  exact h1 hn
end DL
namespace DF
open PySem PyProof.Rows
variable{prog:Fk}{w:FB}{A:Fr}{E:Yb}{s:Cl}{it d:AT}{i ep:Nat}{es:Array Sc}{od:Obj}
theorem Iu:FM.Dict_items.ownsTuple "dict_keyiterator"=false:=by decide
theorem Ms{Q:Yb}(n:(d == P3)=false)(g:s.heap.get? d=some od)(c:od.ExactDict)(e:od.data=.dict es ep)(q:Q (.ref ↑s) { s with heap:=s.heap.push { cls:=.type "dict_keyiterator",data:=.fields #v[.ref d,.int 0 0,.int es.size 0,.int ep 0] } }):Da (model prog w) A (pyIter (.ref d)) Q E s:=by
 have ty:s.TypeIs (.ref d) "dict":=#[od,g,c.1];show wpAny_pyIter_slot ty F.slot_dict_iter (Ps F.slot_dict_iter ty F.entry_dict_iter ?_ (F.args_dict_iter_1 _));unfold FM.«dict.__iter__»;unfold FM.Dict.dictSlotNone;show BT (BT (wpAny_notOrdered_dict ty (EQ ?_)));change Da _ _ (FM.Dict.showsAll d >>= _) _ _ s;unfold FM.Dict.showsAll;rw[if_neg (by rw[n];exact VN)];show BT (EQ (BT (wpAny_dictEntries g e (BT (wpAny_dictEpoch g e ?_)))));exact BT (Re (EQ #[_,U,"dict_keyiterator",_,#[_,Db.get?_push_size _ U,U],F.slot_dict_keyiterator_next.lookup,by simpa [IR] using q]))
theorem MU{Q:Option AC->Cl->Prop}(hit:s.heap.IsKeyIter it d i es.size ep)(g:s.heap.get? d=some od)(e:od.data=.dict es ep)(lt:i < es.size)(q:∀ h',h'.IsKeyIter it d (i+1) es.size ep->Db.SameBut it s.heap h'->Q (some es[i].key) { s with heap:=h' }):Da (model prog w) A (pyNext (.ref it)) Q E s:=by
 let(oi,gi,ci,di):=id hit;unfold pyNext;show BT (wpAny_attempt (wpAny_callSpecial?_slot (name:=Str.ofString "__next__") hit.typeIs F.slot_dict_keyiterator_next (Ps F.slot_dict_keyiterator_next hit.typeIs F.entry_dict_keyiterator_next ?_ (F.args_dict_keyiterator_next_1 _))));show BT (EQ (BT (BT ?_)))
 first | show BT (wpAny_typeNameOfWhole_keyiter hit.typeIs (EQ (BT (wpAny_fieldsOf gi di ?_)))) | show BT (wpAny_typeNameOf_keyiter hit.typeIs (EQ (BT (wpAny_fieldsOf gi di ?_))))
 simp only[Iu,Bool.false_eq_true,if_false];change Da _ _ (if (AC.ref d == AC.none)=true then _ else _) _ _ s;rw[if_neg (show ¬ ((AC.ref d == AC.none)=true) from VN)];show BT (EQ (BT (wpAny_dictEntries g e ?_)));rw[if_neg (by simp)];show BT (EQ (BT (wpAny_dictEpoch g e ?_)));rw[if_neg (by simp)];show EQ ?_;simp only[show ¬ ((i:Int) < 0) from by cbv,if_false,Int.toNat_natCast,Array.getElem?_eq_getElem lt];show BT ?_
 first | show BT (wpAny_typeNameOfWhole_keyiter hit.typeIs (EQ (BT (wpAny_isOneOf_keyiter hit.typeIs ?_)))) | show BT (wpAny_typeNameOf_keyiter hit.typeIs (EQ (BT (wpAny_isOneOf_keyiter hit.typeIs ?_))))
 change Da _ _ (setField (.ref it) 1 (IR ((i:Int)+1)) >>= _) _ _ s;show BT (wpAny_setField gi di (by simp) ?_);have u1:(s.heap.update it (Obj.mapFields (·.setIfInBounds 1 (IR ((i:Int)+1))))).IsKeyIter it d (i+1) es.size ep:=#[_,Db.get?_update_self _ gi (Obj.isFreed_of_fields (Obj.data_mapFields di _)),(Obj.cls_mapFields ..).trans ci,by rw[Obj.data_mapFields di];simp[IR]];show BT (KK (BT (wpAny_isOneOf_keyiter (s:={ s with heap:=s.heap.update it (Obj.mapFields (·.setIfInBounds 1 (IR ((i:Int)+1)))) }) u1.typeIs ?_)));change Da _ _ (pure es[i].key) _ _ _;exact EQ (EQ #[_,U,EQ (q _ u1 (WR ..))])
theorem RY{Q:Option AC->Cl->Prop}(hh:A.handled=none)(hit:s.heap.IsKeyIter it d i es.size ep)(g:s.heap.get? d=some od)(e:od.data=.dict es ep)(ge:es.size<=i)(q:∀ h',Db.ExtBut it s.heap h'->Q none { s with heap:=h' }):Da (model prog w) A (pyNext (.ref it)) Q E s:=by
 let(oi,gi,ci,di):=id hit;unfold pyNext;show BT (wpAny_attempt (wpAny_callSpecial?_slot (name:=Str.ofString "__next__") hit.typeIs F.slot_dict_keyiterator_next (Ps F.slot_dict_keyiterator_next hit.typeIs F.entry_dict_keyiterator_next ?_ (F.args_dict_keyiterator_next_1 _))));show BT (EQ (BT (BT ?_)))
 first | show BT (wpAny_typeNameOfWhole_keyiter hit.typeIs (EQ (BT (wpAny_fieldsOf gi di ?_)))) | show BT (wpAny_typeNameOf_keyiter hit.typeIs (EQ (BT (wpAny_fieldsOf gi di ?_))))
 simp only[Iu,Bool.false_eq_true,if_false];change Da _ _ (if (AC.ref d == AC.none)=true then _ else _) _ _ s;rw[if_neg (show ¬ ((AC.ref d == AC.none)=true) from VN)];show BT (EQ (BT (wpAny_dictEntries g e ?_)));rw[if_neg (by simp)];show BT (EQ (BT (wpAny_dictEpoch g e ?_)));rw[if_neg (by simp)];show EQ ?_;simp only[show ¬ ((i:Int) < 0) from by cbv,if_false,Int.toNat_natCast,Array.getElem?_eq_none ge];show BT ?_
 first | show BT (wpAny_typeNameOfWhole_keyiter hit.typeIs (EQ ?_)) | show BT (wpAny_typeNameOf_keyiter hit.typeIs (EQ ?_))
 change Da _ _ (setField (.ref it) 0 .none >>= _) _ _ s;show BT (wpAny_setField gi di (by simp) ?_);change Da _ _ (newExc (.type "StopIteration") [] >>= _) _ _ _;show BT ?_;simp only[newExc,newTuple];show BT (Re (BT (m:=firstArgMember _ _) (wpAny_of_eq (a:=AC.none) (by first | rfl | (simp only[firstArgMember];rfl)) (Re ?_ (by size_fits)))) (by size_fits));simp only[raiseNew];show BT (wpAny_handled ?_);rw[show A.in1.handled=none from hh];show BT (EQ (wpAny_throw ?_));show BT (wpAny_isInstance (T:="StopIteration") (b:=true) #[_,VP _ U,U] isSubtype_stop ?_);exact EQ (q _ (((WR ..).extBut.push _).push _))
end DF
namespace L2
open PySem PySem.Spec PyProof.Rows DL
def SF(a:AT)(o:Obj)(ts:!AT):It :=
 #[λi H=>(∃ u,H a=some (.fB o u))/\i < ts.length,λi H x H'=>H'=H/\∃ t,ts[i]?=some t/\x=.ref t,λi H=>(∃ u,H a=some (.fB o u))/\ts.length<=i]
theorem xQ{P:Fk}{w:FB}{K:Frag}{tg:Ch}{a it:AT}{o:Obj}{ts:!AT}{es:Array Sc}{ep:Nat}(e:o.data=.dict es ep)(hk:es.toList.map (·.key)=ts.map AC.ref):Turn P w K tg (SF a o ts) [it] it (λi h=>h.IsKeyIter it a i es.size ep) where
 mem:=by simp
 obj:=λi h st b hb=>by
  obtain rfl:b=it:=by simpa using hb
  let(o,e,c,d):=st;exact#[o,e,λv z=>by rw[d] at z;cases z]
 keep:=λi h h' st k=>by
  let(o,e,r):=st;exact#[o,k it (by simp) o e,r]
 item:=by
  intro X hP hw hK hc i TD s σ H E I hf st hg;subst hP hw hK;let((u,hu),hl):=hg;have g:s.heap.get? a=some o:=(I.aZ a _ hu).1;let(f0,f1,f2,f3,f4,f5):=hf it (by simp);have hn:es.size=ts.length:=by
   have:=congrArg List.length hk;simpa using this
  have lt:i < es.size:=by cbv
  show DF.MU st g e lt λh' st' sb=>?_;have I1:Inv X TD σ H { s with heap:=h' }:=I.turned (t':=s.toks) (λb o hb e=>(sb.2 b hb).trans e) f0 f1 f3 f4 f5;let(oi,ei,c,d):=id st';have hk2:es[i].key=.ref ts[i]:=by
   have:=congrArg (λl=>l[i]?) hk;simp only[List.getElem?_map,List.getElem?_eq_getElem hl] at this;rw[show es.toList[i]?=some es[i] by simp[lt]] at this;simpa using this
  exact#[_,U,Ae (s:={ s with heap:=h' }) ei c d () #[.ref ts[i],H,I1,hk2,#[U,ts[i],VO hl,U],st',λb hb=>(hf b hb).1]]
 done:=by
  intro X hP hw hK hc i TD s σ H E I hf st hg;subst hP hw hK;let((u,hu),hl):=hg;have g:s.heap.get? a=some o:=(I.aZ a _ hu).1;let(f0,f1,f2,f3,f4,f5):=hf it (by simp);have hn:es.size=ts.length:=by
   have:=congrArg List.length hk;simpa using this
  exact DF.RY (I.ok.hd hc) st g e (by cbv) λh' eb=>#[U,I.turned (t':=s.toks) (λb o hb e=>eb b o hb e) f0 f1 f3 f4 f5]
 self:=λA i s Q E st h=>wpAny_pyIter_keyiter st h
def Kx(tl:TE):TI:=λσ H R=>tl σ H λv H1=>∃ a o kvs ts,v=.ref a/\H1 a=some (.fB o (.dT kvs))/\uP o ts/\(ts.length<=Ev->R (SF a o ts) H1)
section
variable{X:Cx}
theorem CO{tg l:Ch}{tl:TE}(hl:PE X l tl):PI X tg l (Kx tl):=by
 intro TD s σ H R I h;show b3 (hl TD s σ H _ I h) λv s1 z=>?_;let(x,H1,I1,r1,a,o,kvs,ts,rfl,e,(hc,es,ep,hd,hk),q):=z;cases r1;let(g,z,y,xs,r,o2,es2,ep2,g2,c2,d2,k2,n2):=(show b6 X.prog X.w H1 s1.heap a (.fB o (.dT kvs)) from I1.aZ a _ e);show DF.Ms y g hc hd ?_;have hz:ts.length<=Ev:=by
  rw[g] at g2;cases g2;rw[hd] at d2;cases d2;have h1:=congrArg List.length hk;have h2:=congrArg List.length k2;simp only[List.length_map] at h1 h2;have h3:=Paired.length r;cbv
 exact#[↑s1,[↑s1],_,_,H1,U,I1.kept (t':=s1.toks) λb o e=>Vz _ e,xQ hd hk,#[_,VP _ U,U,U],λb hb=>by
  obtain rfl:b=↑s1:=by simpa using hb
  exact I1.rB (VB _) (I1.aZ.fresh (VB _)),q hz]
end
end L2
namespace L2
open PySem PySem.Spec DL
open PyProof.Rows hiding St
section
variable{X:Cx}
theorem qi{α β γ:Type}{F:α->β->Prop}{G:α->γ->Prop}(f:β->γ):∀ {l:!α} {m:!β},Paired F l m->(∀ a b,F a b->G a (f b))->Paired G l (m.map f)
 | _,_,.nil,_=>.nil
 | _,_,.cons r t,k=>.cons (k _ _ r) (qi f t k)
theorem Inv.fB{TD:Yc}{σ:St}{H:Hp}{s:Cl}{a:AT}{kvs:!(!Key×V)}(I:Inv X TD σ H s)(h:H a=some (.dT kvs)) :
  ∃ o ts,uP o ts/\Paired (λp t=>H t=some (.tup (p.1.map kV))) kvs ts/\Inv X TD σ (upd H a (.fB o (.dT kvs))) s:=by
 let(z,y,xs,r,o,es,ep,g,c,d,k,n):=(show b6 X.prog X.w H s.heap a (.dT kvs) from I.aZ a _ h);show#[o,xs.map (·.2.1),#[c,es,ep,d,by rw[k];simp[entryOfKey]],qi _ r λp q z=>z.2.1,?_];have I':=Inv.write (x:=a) (e:=a) (o:=.fB o (.dT kvs)) (t':=s.toks) (h':=s.heap) I (by rw[h];exact trivial) (.inl U) (λb u _ e=>e) #[o,g] #[g,z,y,xs,L2.Paired.D6 r λp q z=>#[z.1,by
  rw[aw (λe=>by rw[e,h] at z;exact absurd z.2.1 (by intro z;cases z))];exact z.2.1,z.2.2],o,es,ep,g,c,d,k,n]
 exact I'
def UE(t:TE):TE:=λσ H Q=>t σ H λv H1=>∃ a kvs,v=.ref a/\H1 a=some (.dT kvs)/\∀ o ts,uP o ts->Paired (λp t=>H1 t=some (.tup (p.1.map kV))) kvs ts->Q v (upd H1 a (.fB o (.dT kvs)))
theorem Oo{e:Ch}{t:TE}(h:PE X e t):PE X e (UE t):=by
 intro TD s σ H Q I h';show b3 (h TD s σ H _ I h') λu s1 z=>?_;let(x,H1,I1,r,a,kvs,rfl,ea,q):=z;let(o,ts,k,p,IF):=I1.fB ea;exact#[_,_,IF,r,q o ts k p]
end
end L2
namespace DL
open PySem PySem.Spec L2
open PyProof.Rows hiding St
section
variable{K:Frag}{c:Ent}{M M' M1:AT->Prop}{s s' s1:DS}{as:!AT}{σ:St}{H H' H1:Hp}{a q:AT}{o:HO}
theorem aC.Uo{kvs:!(!Key×V)}(L:aC K c M s as σ H)(hq:H q=some (.dT kvs))(nm:¬ M q)(ng:¬ c.g.own q)(nw:¬ d4 s as q)(h0:c.H0 q=none):aC K c M s as σ (upd H q o):=by
 have kp:∀ b u,b≠q->H b=some u->upd H q o b=some u:=λb u ne e=>by rw[aw ne];exact e
 have km:∀ b u,M b->H b=some u->upd H q o b=some u:=λb u m e=>kp b u (λz=>nm (z▸m)) e;show#[#[c.g.loc H _ L.base.qe λb u g e=>kp b u (λz=>g.elim (λg=>ng (z▸g)) λ#[φ,f]=>by subst f;rw[z,hq] at e;cases e) e,λb u e g=>kp b u (λz=>by rw[z,h0] at e;cases e) (L.base.fr b u e g),λb m=>?_,L.base.mo,L.base.m0,L.base.mn],L.len,L.gr,λi e h=>?_,L.own,λl e b h1 h2=>?_,L.inj,L.lt]
 .let(u,e):=L.base.md b m;exact#[u,km b u m e]
 .let(w,h1,h2):=L.dat i e h;exact#[w,h1,Rep.mono (λ_ m=>m) km e w h2]
 .let((u,q1,q2),q3):=L.obj l e b h1 h2;show#[#[u,kp b u (λz=>?_) q1,q2.mono (λ_ m=>m) km],q3];subst z;exact nw #[l,e,h1,h2]
theorem aC.yN:∀ {ts:!AT} {M:AT->Prop},aC K c M s as σ H->(∀ t∈ts,∃ xs,H t=some (.tup xs))->aC K c (λb=>M b\/b∈ts) s as σ H
 | [],M,L,_=>by
  have e:(λb=>M b\/b∈([]:!AT))=M:=by funext b;simp
  rw[e];exact L
 | t::ts,M,L,h=>by
  let(xs,e):=h t Vx;have:=(L.JH e).yN (ts:=ts) λt ht=>h t (Vy _ ht);have e2:(λb=>(M b\/b=t)\/b∈ts)=λb=>M b\/b∈t::ts:=by funext b;simp[or_assoc]
  rw[e2] at this;exact this
end
section
variable{X:Cx}{c:Ent}{e:Ch}{te:aV}
def Ra(te:aV):aV:=λs Q=>te s λd s1=>∃ ks vs,d=.j9 ks vs/\Q (.yR ks vs) s1
theorem DN.df(h:DN X c e te):DE X c e (Ra te):=#[(Oo h.pe).imp λσ H Q zz=>dq zz λM s as R L q k =>
 #[M,s,as,_,L,q,λd s' z M' H' a o L' E ha ro nm ng nw h0 hn=>by
  let(ks,vs,rfl,r):=z;cases o with
  | dT kvs =>
   let(e1,r1):=(show kvs.map (·.1)=ks/\ay X.K H' M' vs (kvs.map (·.2)) from ro);show#[a,kvs,U,ha,λob ts hk hp=>?_];have wN:∀ t xs,H' t=some (HO.tup xs)->t≠a:=λt xs e z=>by rw[z,ha] at e;cases e
   have hts:∀ t∈ts,∃ xs,H' t=some (HO.tup xs):=by
    intro t ht;clear hk r1 ro e1 ha
    induction hp with
    | nil=>cases ht
    | cons p q ih=>exact (VG.mp ht).elim (λz=>z▸#[_,p]) ih
   have L1:aC X.K c M' s' as σ (upd H' a (.fB ob (.dT kvs))):=L'.Uo ha nm ng nw h0;have L2:=(L1.grown aA ng nw h0).yN (ts:=ts) λt ht=>by
    let(xs,e):=hts t ht;exact#[xs,by rw[aw (wN t xs e)];exact e]
   have kM:∀ b u,M' b->H' b=some u->upd H' a (.fB ob (.dT kvs)) b=some u:=λb u m e=>by
    rw[aw (show b≠a from λz=>nm (z▸m))];exact e
   show k (.yR ks vs) s' r _ _ (.ref a) L2 ?_ #[a,ob,kvs,ts,U,#[.inl (.inr U),aA],hk,?_,e1,ay.mono (λb m=>.inl (.inl m)) kM _ _ r1]
   .refine#[λb m=>.inl (.inl (E.sub b m)),λb m=>?_,λb u e g n=>?_,E.jt]
    .rcases m with (m | rfl) | m
     .exact E.new b m
     .exact .inr (hn.imp .inl id)
     .let(xs,e):=hts b m;cases f:H b with
      | none=>exact .inr (.inl (.inl f))
      | some u =>
       by_cases g:c.g.own b
       .exact absurd e (c.g.nt H' b xs L'.base.qe g)
       .by_cases w:d4 s as b
        .exact .inr (.inr w)
        .have:=E.keep b u f g w;rw[e] at this;cases this;exact .inr (.inl (.inr #[xs,f]))
    .have ne:b≠a:=λz=>by
      subst z;rcases hn with hn | hn
      .rw[hn] at e;cases e
      .exact n hn
     rw[aw ne];exact E.keep b u e g n
   .rw[<- e1];have up:∀ {l:!(!Key×V)} {Ql:!AT},(∀ t∈Ql,t∈ts)->Paired (λp t=>H' t=some (.tup (p.1.map kV))) l Ql->Paired (λk t=>(((M' t\/t=a)\/t∈ts)/\upd H' a (.fB ob (.dT kvs)) t=some (HO.tup (k.map kV)))) (l.map (·.1)) Ql:=λ{l Ql} hs p=>by
     induction p with
     | nil=>exact .nil
     | cons p q ih=>exact .cons #[.inr (hs _ Vx),by rw[aw (wN _ _ p)];exact p] (ih λt ht=>hs t (Vy _ ht))
    exact up (λ_ h=>h) hp
  | _=>exact ro.elim]]
end
section
variable{X:Cx}{c:Ent}
theorem qV{α β:Type}{F:α->β->Prop}:∀ {l:!α} {m:!β} {i:Nat} {x:α},Paired F l m->l[i]?=some x->∃ y,m[i]?=some y/\F x y
 | _,_,i,x,.nil,h=>by simp at h
 | _,_,0,x,.cons r t,h=>by
  simp at h;subst h;exact#[_,U,r]
 | _,_,i+1,x,.cons r t,h=>by
  let(y,h1,h2):=qV (i:=i) (x:=x) t (by simpa using h);exact#[y,by simpa using h1,h2]
def OU(k:!Key):D:=.tup (k.map kD)
def Kq(te:aV):fW:=λs Q=>te s λd s1=>∃ ks vs,d=.yR ks vs/\Q (ks.map OU) s1
theorem Gp{tg e:Ch}{te:aV}(he:DE X c e te):DI X c tg e (Kq te):=#[λTD s σ H R I zz=>dq zz λM s0 as R0 L q k=>CO he.pe TD s σ H R I
 #[M,s0,as,_,L,q,λd s1 z M1 H1 v L1 E1 rv=>by
  let(ks,vs,rfl,q1):=z;let(a,o,kvs,ts,rfl,(m,h),hk,hp,e1,rr):=rv;have hl:=Paired.length hp;show#[a,o,kvs,ts,U,h,hk,λhz=>k _ s1 q1 M1 H1 _ L1 E1 (λM2 H2 G=>?_) (by rw[Vv];cbv)];have h2:H2 a=some (.fB o (.dT kvs)):=(G a m).2 _ h;show#[λi hi=>#[#[_,h2],by rw[Vv] at hi;cbv],λi d hd=>?_];rw[V0] at hd;let(kk,g1,g2):=Wb.mp hd;subst g2;let(t,f1,f2,f3):=qV hp g1;let(f4,_):=VC.mp f1;show#[#[#[_,h2],f4],λx H3 y=>.inl ?_];let(y1,t',y2,y3):=y;rw[f1] at y2;cases y2;exact#[y1,t,_,y3,#[(G t f2).1,(G t f2).2 _ f3],sy kk]]]
end
end DL
namespace L2
open PySem PySem.Spec
open PyProof.Rows hiding St
section
variable{X:Cx}
theorem tR:∀ {ns:!Nat} {us:!AC},Vals (ns.map λn:Nat=>V.int n) us->∃ l:!(Int×Tok),us=l.map (λp=>AC.int p.1 p.2)/\l.map (·.1)=ns.map λn:Nat=>(n:Int)
 | [],us,h=>by
  cases h;exact#[[],U,U]
 | n::ns,us,h=>by
  cases h with
  | cons r t =>
   let(l,e1,e2):=tR t;let(tk,e):=(show ∃ t,_=AC.int (n:Int) t from r);exact#[((n:Int),tk)::l,by rw[e1,e];rfl,by rw[VE,e2];rfl]
theorem jw{l:!(Int×Tok)}{ns:!Nat}(h:l.map (·.1)=ns.map λn:Nat=>(n:Int)):∀ k,preSum (numAt l.toArray) k=(((ns.take k).sum:Nat):Int)
 | 0=>by simp[preSum]
 | k+1=>by
  have hk:=jw h k;have hn:numAt l.toArray k=(((ns[k]?).getD 0:Nat):Int):=by
   have:=congrArg (λl=>l[k]?) h;simp only[List.getElem?_map] at this;unfold numAt;rw[List.getElem?_toArray,this];cases ns[k]?<;>rfl
  rw[preSum,hk,hn,XS,Wx];cases ns[k]?<;>simp
theorem nN(ns:!Nat)(k:Nat):(ns.take k).sum<=ns.sum:=by
 have:=congrArg List.sum (WX k ns);rw[Wx] at this;cbv
theorem wu(hc:X.calm=true):cT X (.builtin "sum") (λxs H Q=>∃ (p:AT) (ns:!Nat),xs=[.ref p]/\eM X.K H p (ns.map λn:Nat=>V.int n)/\ns.sum<=1000000/\Q (.int (ns.sum:Nat)) H):=by
 intro TD s σ H xs us Q I r h;let(p,ns,rfl,hq,hs,q):=h;let(u,rfl,rx):=vals1 r;cases rx;let(its,rv,pl,hz):=I.list hq;let(l,e1,e2):=tR rv;have ei:its.toArray=intItems l.toArray:=by rw[e1];simp[intItems]
 have hll:l.length=ns.length:=by simpa using congrArg List.length e2
 show sum_intList (xs:=l.toArray) (I.ok.hd hc) (by rw[<- ei];exact pl.isList) (λj hj=>#[?_,?_]) λh' tk t' kp=>?_
 .have hn:numAt l.toArray j=(((ns[j]?).getD 0:Nat):Int):=by
   have:=congrArg (λl=>l[j]?) e2;simp only[List.getElem?_map] at this;unfold numAt;rw[List.getElem?_toArray,this];cases ns[j]?<;>rfl
  have hle:(ns[j]?).getD 0<=ns.sum:=by
   have h1:=nN ns (j+1);rw[XS,Wx] at h1;cases e:ns[j]? with
   | none=>exact VT _
   | some v=>rw[e] at h1;simp at h1 ⊢;cbv
  rw[hn];exact#[by cbv,by cbv]
 .rw[jw e2];have:=nN ns (j+1);exact#[by cbv,by cbv]
 .have hsum:preSum (numAt l.toArray) l.toArray.size=((ns.sum:Nat):Int):=by
   rw[jw e2,VQ,hll,List.take_length]
  rw[hsum];exact#[.int (ns.sum:Nat),H,I.kept (t':=tk) kp,#[t',U],q]
end
end L2
namespace DL
open PySem PySem.Spec L2
open PyProof.Rows hiding St
section
variable{X:Cx}{c:Ent}
def QQ:Yd:=λas k=>∃ ns:!Nat,as=[.lst (ns.map λn:Nat=>D.int n)]/\ns.sum<=1000000/\k (.int (ns.sum:Nat))
theorem vW{K:Frag}{H:Hp}{M:AT->Prop}:∀ {ns:!Nat} {vs:!V},ay K H M (ns.map λn:Nat=>D.int n) vs->vs=ns.map λn:Nat=>V.int n
 | [],vs,r=>r
 | n::ns,vs,r=>by
  let(x,xr,rfl,r1,r2):=r;have r1:x=.int n:=r1;rw[r1,vW r2,VE]
theorem Il:AM X c (λxs H Q=>∃ (p:AT) (ns:!Nat),xs=[.ref p]/\eM X.K H p (ns.map λn:Nat=>V.int n)/\ns.sum<=1000000/\Q (.int (ns.sum:Nat)) H) QQ:=λM s as σ H xs ds k Q L r h kk=>by
 let(ns,e,hs,hk):=h;subst e;let(v,rfl,p,ys,rfl,(m,h),r'):=cV r;rw[vW r'] at h;exact#[p,ns,U,.of h,hs,kk _ hk M H _ L .refl U]
end
end DL
namespace L2
open PySem PySem.Spec
open PyProof.Rows hiding St
section
variable{X:Cx}{e:Ch}{es:!Ch}{te:TE}{pos:Pos}
abbrev TJ:=Str->St->Hp->(Str->Hp->Prop)->Prop
def PJ(X:Cx)(es:!Ch)(t:TJ):Prop:=∀ (TD:Yc) (s:Cl) (σ:St) (H:Hp) (acc:Str) (Q:Str->Hp->Prop),Inv X TD σ H s->t acc σ H Q->Joins (model X.prog X.w) X.A X.xe (evalEach es X.env) acc (λout s1=>∃ H',Inv X TD σ H' s1/\Q out H') s
theorem J7:PJ X [] λacc _ H Q=>Q acc H:=λTD s σ H acc Q I h=>#[H,I,h]
theorem Gx{t:TJ}(he:PE X e te)(hr:PJ X es t):PJ X (e::es) λacc σ H Q=>te σ H λv H1=>∃ y,v=.str y/\(acc++y).length<=Ev/\t (acc++y) σ H1 Q:=λTD s σ H acc Q I h=>b3 (he TD s σ H _ I h) λu s1 z=>by
 let(x,H1,I1,r,y,rfl,hl,q):=z;let(t,rfl):=(show ∃ t,u=AC.str y t from r);exact#[y,t,U,hl,hr TD s1 σ H1 _ Q I1 q]
theorem Bt{e2:Ch}{t:TJ}(h:PJ X (e::e2::es) t):PE X (.JoinedStr (e::e2::es) pos) λσ H Q=>t Str.empty σ H λout H1=>out.length<=Ev/\Q (.str out) H1:=λTD s σ H Q I q=>wpAny_JoinedStr (by
 have:=h TD s σ H _ _ I q;show qI this λout s1 z=>?_;let(H1,I1,hl,q1):=z;exact#[hl,.str out,H1,I1.tok _,#[_,U],q1])
where qI {M:Model} {A:Fr} {E:Yb}:∀ {l:!(Sem AC)} {acc:Str} {Q Q':Str->Cl->Prop} {s:Cl},Joins M A E l acc Q s->(∀ o s,Q o s->Q' o s)->Joins M A E l acc Q' s
 | [],acc,Q,Q',s,h,k=>k _ _ h
 | x::l,acc,Q,Q',s,h,k=>b3 (show Da M A x _ E s from h) λv s1 z=>by
  let(y,t,e,hl,q):=z;exact#[y,t,e,hl,qI q k]
def Rk(te:TE):TE:=λσ H Q=>te σ H λv H1=>(∃ i:Int,v=.int i/\i.natAbs.log2 < 1920/\Q (.str (toString i)) H1)\/∃ x,v=.str x/\x.length<=Ev/\Q (.str x) H1
theorem K3(he:PE X e te):PE X (.FormattedValue e (-1) none pos) (Rk te):=λTD s σ H Q I h=>wpAny_FormattedValue_plain (b3 (he TD s σ H _ I h) λu s1 z=>by
 let(v,H1,I1,r,z):=z;rcases z with ⟨i,rfl,hi,q⟩ | ⟨x,rfl,hx,q⟩
 .let(t,rfl):=(show ∃ t,u=AC.int i t from r);exact wpAny_formatField_int hi #[.str (toString i),H1,I1.tok _,#[_,U],q]
 .let(t,rfl):=(show ∃ t,u=AC.str x t from r);exact wpAny_formatField_str #[.str x,H1,I1,#[_,U],q] #[.str x,H1,I1.tok _,#[_,U],q] hx)
end
end L2
namespace DL
open PySem PySem.Spec L2
open PyProof.Rows hiding St
section
variable{X:Cx}{c:Ent}{e:Ch}{es:!Ch}{te:aV}{pos:Pos}
abbrev HL:=Str->DS->(Str->DS->Prop)->Prop
def Uv(K:Frag)(c:Ent)(t:HL):TJ:=λacc σ H Q=>∃ M s as R,aC K c M s as σ H/\t acc s R/\∀ o s',R o s'->∀ M' H',aC K c M' s' as σ H'->Ext c as M s H M' s' H'->Q o H'
structure DJ(X:Cx)(c:Ent)(es:!Ch)(t:HL):Prop where
 pj:PJ X es (Uv X.K c t)
def NL:HL:=λacc s Q=>Q acc s
def LF(te:aV)(t:HL):HL:=λacc s Q=>te s λd s1=>∃ y,d=.str y/\(acc++y).length<=Ev/\t (acc++y) s1 Q
theorem Km:DJ X c [] NL:=#[λTD s σ H acc Q I zz=>dq zz λM s0 as R L q k=>J7 TD s σ H acc Q I (k acc s0 q M H L .refl)]
theorem jP{t:HL}(he:DE X c e te)(hr:DJ X c es t):DJ X c (e::es) (LF te t):=#[λTD s σ H acc Q I zz=>dq zz λM s0 as R L q k=>Gx he.pe hr.pj TD s σ H acc Q I
 #[M,s0,as,_,L,q,λd s1 z M1 H1 v L1 E1 rv=>by
  let(y,rfl,hl,q1):=z;exact#[y,rv,hl,M1,s1,as,_,L1,q1,λo s2 r M2 H2 L2 E2=>k o s2 r M2 H2 L2 (E1.trans L1.base E2)]]]
def Lp(t:HL):aV:=λs Q=>t Str.empty s λo s1=>o.length<=Ev/\Q (.str o) s1
theorem CU{e2:Ch}{t:HL}(h:DJ X c (e::e2::es) t):DE X c (.JoinedStr (e::e2::es) pos) (Lp t):=#[(Bt h.pj).imp λσ H Q zz=>dq zz λM s as R L q k =>
 #[M,s,as,_,L,q,λo s1 z M1 H1 L1 E1=>#[z.1,k _ s1 z.2 M1 H1 _ L1 E1 U]]]
def QM:D->(D->Prop)->Prop:=λd k=>(∃ i:Int,d=.int i/\i.natAbs.log2 < 1920/\k (.str (toString i)))\/∃ x,d=.str x/\x.length<=Ev/\k (.str x)
theorem Cp(he:DE X c e te):DE X c (.FormattedValue e (-1) none pos) (Uc QM te):=#[(K3 he.pe).imp λσ H Q zz=>dq zz λM s as R L q k =>
 #[M,s,as,_,L,q,λd s1 z M1 H1 v L1 E1 rv=>by
  rcases z with ⟨i,rfl,hi,r⟩ | ⟨x,rfl,hx,r⟩
  .exact .inl #[i,rv,hi,k _ s1 r M1 H1 _ L1 E1 U]
  .exact .inr #[x,rv,hx,k _ s1 r M1 H1 _ L1 E1 U]]]
end
end DL
set_option maxRecDepth 190000
namespace DL
open PySem L2
def rJ(k o:Kp):Nat:=k.uses.countP λu=>decide (u∈o.told)
theorem Ed{k o:Kp}(h:eW k):rJ k o<=19075:=VF (List.countP_le_length) h.uses
def Mc(l:!(Bool×Str)):D:=.yR (l.map dX) (l.map λ_=>.bl true)
theorem pX{α β:Type}{F:α->β->Prop}(f:α->D)(g:β->D):∀ {ps:!α} {ls:!β},Paired F ps ls->(ps.zip ls).map (·.1)=ps/\(∀ p∈ps.zip ls,F p.1 p.2)/\ow (ps.map f) (ls.map g)=(ps.zip ls).map λp=>.tup [f p.1,g p.2]
 | _,_,.nil=>#[U,λ_ h=>(nomatch h),U]
 | _,_,.cons r t=>by
  let(h1,h2,h3):=pX f g t;show#[?_,λp hp=>?_,?_]
  .rw[XI,VE,h1]
  .rw[XI] at hp;rcases VG.mp hp with rfl | hp
   .exact r
   .exact h2 p hp
  .rw[XI,VE,VE,VE,<- h3]
   rfl
theorem FT{k o:Kp}{l:Cn}{n:!(Bool×Str)}(hl:rM l k.uses)(hn:oZ n o.told):(n.map λu=>lk l u).sum=rJ k o:=by
 rw[show (n.map λu=>lk l u)=n.map λu=>k.uses.count u from WQ λu _=>hl.2 u];exact Bp hn
def nq(ps:!Kp):!(Kp×Kp):=ps.flatMap λk=>ps.map λo=>(k,o)
def Th(p:Kp×Kp):D:=.tup [bW p.1,bW p.2,.int (rJ p.1 p.2:Nat)]
theorem GX(ps:!Kp):(ps.flatMap λk=>ps.map λo=>D.tup [bW k,bW o,.int (rJ k o:Nat)])=(nq ps).map Th:=by
 unfold nq;rw[List.map_flatMap];show congrArg (λf=>List.flatMap f ps) (funext λk=>?_);rw[V2]
 rfl
def fj(p:Kp×Kp):Bool:=(p.1.asked != p.2.asked)&&decide (0 < rJ p.1 p.2)
def t7(p:Kp×Kp):Str×Str×Nat:=(p.1.nm,p.2.nm,rJ p.1 p.2)
def iH(ps:!Kp):!(Str×Str×Nat):=((nq ps).filter fj).map t7
def yi(x:Str×Str×Nat):D:=.tup [.str x.1,.str x.2.1,.int (x.2.2:Nat)]
end DL
set_option maxRecDepth 190000
namespace DL
open PySem L2
def qg(x:Str×Str×Nat):Str:="cross "++x.1++" "++x.2.1++" "++qd (x.2.2:Nat)
def rp(ps:!Kp):!Str:=(ps.flatMap λk=>k.rws.map λr=>cD (cL r))++(iH ps).map qg
def eY(ps:!Kp):Prop:=ps.length<=5/\∀ k∈ps,eW k
structure Qk(x:Str×Str×Nat):Prop where
 a:Nm x.1
 b:Nm x.2.1
 n:x.2.2<=19075
theorem CY{ps:!Kp}(h:eY ps):(nq ps).length<=25/\∀ p∈nq ps,eW p.1/\eW p.2:=by
 show#[bj (m:=5) h.1 λx _=>by rw[Vv];exact h.1,λp hp=>?_];let(k,hk,hp):=V3.mp hp;let(o,ho,rfl):=VI.mp hp;exact#[h.2 k hk,h.2 o ho]
theorem mv{ps:!Kp}(h:eY ps):(iH ps).length<=25/\∀ x∈iH ps,Qk x:=by
 let(h1,h2):=CY h;show#[?_,λx hx=>?_]
 .unfold iH;rw[Vv];exact VF (V9 _ _) h1
 .let(p,hp,rfl):=VI.mp hx;let(o1,o2):=h2 p (Wo.mp hp).1;exact#[o1.nm,o2.nm,Ed o1]
theorem wj{x:Str×Str×Nat}(h:Qk x):(qg x).length<=40:=by
 have h1:=cJ h.a;have h2:=cJ h.b;have h3:=qB (i:=((x.2.2:Nat):Int)) (by cbv) (by have:=h.n;cbv);unfold qg;simp only[Str.length_append];have e6:("cross ":Str).length=6:=rfl;have e1:(" ":Str).length=1:=rfl;cbv
theorem qS{ps:!Kp}(h:eY ps):(rp ps).length<=55/\∀ x∈rp ps,x.length<=190000:=by
 let(h1,h2):=mv h;show#[?_,λx hx=>?_]
 .unfold rp;rw[Vw,Vv];have:=bj (f:=λk:Kp=>k.rws.map λr=>cD (cL r)) (m:=6) h.1 λk hk=>by
   rw[Vv];exact (h.2 k hk).rws.1
  cbv
 .rcases VM.mp hx with hx | hx
  .let(k,hk,hx):=V3.mp hx;let(r,hr,rfl):=VI.mp hx;rw[cX];exact (h.2 k hk).rws.2 r hr
  .let(y,hy,rfl):=VI.mp hx;exact VF (wj (h2 y hy)) ()
theorem empty_app(x:Str):Str.empty++x=x:=by
 show d3 ?_;rw[bI]
 rfl
end DL
namespace L2
open PySem PySem.Spec
open PyProof.Rows hiding St
section
variable{X:Cx}{a:Ch}{pos:Pos}{ta:TE}
theorem GH(ha:PE X a ta):PE X (.UnaryOp .Not a pos) (λσ H Q=>ta σ H λx H'=>∃ k,Ki X.K x H' k/\Q (.bl (not k)) H'):=by
 intro TD s σ H Q I h;show UnaryOp_ (b3 (ha TD s σ H _ I h) λv s1 z=>?_);let(x,H1,I1,r1,k,t,q):=z;exact not_of (KM (Dx TD s1 σ H1 x v (λk H2=>Q (.bl (not k)) H2) I1 r1 #[k,t,q]) (λb s2 z=>by
  let(H2,I2,q2):=z;exact#[.bl (not b),H2,I2,U,q2]) λ_ _ z=>z)
end
end L2
namespace DL
open PySem PySem.Spec L2
section
variable{X:Cx}{c:Ent}{e:Ch}{te:aV}{pos:Pos}
def OE(te:aV):aV:=λs Q=>te s λd s1=>∃ xs,(d=.lst xs\/d=.tup xs)/\Q (.bl xs.isEmpty) s1
theorem Jf(he:DE X c e te):DE X c (.UnaryOp .Not e pos) (OE te):=#[(GH he.pe).imp λσ H Q zz=>dq zz λM s as R L q kk =>
 #[M,s,as,_,L,q,λd s1 z M1 H1 v L1 E1 rv=>by
  let(xs,hd,q1):=z;rcases hd with rfl | rfl
  .let(p,us,rfl,(m,t),r):=rv;show#[(not us.isEmpty),.inl #[us,.of t,U],?_];rw[jD r.length,Bool.not_not];exact kk _ s1 q1 M1 H1 _ L1 E1 U
  .let(p,us,rfl,t,r):=rv;show#[(not us.isEmpty),.inr (.inl #[us,t.sq,U]),?_];rw[jD r.length,Bool.not_not];exact kk _ s1 q1 M1 H1 _ L1 E1 U]]
end
end DL
namespace DL
open PySem L2
theorem sj(a:!Nat):cd (cD a)=a:=by simp
abbrev nl(l:!Nat):Prop:=∀ n∈l,n≠10/\n < 1114112
theorem bZ{a b:!Nat}(h:nl a)(k:nl b):nl (a++b):=λn z=>(VM.mp z).elim (h n) (k n)
theorem ff{n:Nat}{b:!Nat}(h:n≠10/\n < 1114112)(k:nl b):nl (n::b):=λm z=>(VG.mp z).elim (λe=>e▸h) (k m)
theorem Ar{α:Type}{f:α->!Nat}{l:!α}(h:∀ x∈l,nl (f x)):nl (l.flatMap f):=λn z=>by
 let(x,hx,hz):=V3.mp z;exact h x hx n hz
theorem gx{x:Str}(h:Nm x):nl (cd x):=λn z=>by
 have:=h.1 n z;cbv
theorem qw{x:Str}(h:vA x):nl (cd x):=by
 rcases h with h | rfl
 .exact gx h
 .decide
theorem BK{i:Int}(h0:0<=i):nl (cd (qd i)):=λm hc=>by
 let(n,rfl):=Xl h0;have e:cd (qd (n:Int))=(Nat.toDigits 10 n).map Char.toNat:=PySem.W.KIN.signs_num n;rw[e] at hc;let(ch,hm,hh):=VI.mp hc;have:=Nat.isDigit_of_mem_toDigits () () hm;unfold Char.isDigit at this;simp only[Bool.and_eq_true,decide_eq_true_eq] at this;have h2:48<=ch.toNat:=this.1;have h3:ch.toNat<=57:=this.2;cbv
theorem qv{x:Str}(h:nl (cd x)):FS.strOk x=true:=by
 unfold FS.strOk;rw[Array.all_eq_true'];intro n hn;exact decide_eq_true (h n (W3.mpr hn)).2
theorem yQ{l:!(!Nat)}(h:∀ x∈l,nl x):nl (fM l):=by
 cases l with
 | nil=>exact λ_ z=>by cases z
 | cons a l=>exact bZ (h a Vx) (Ar λx hx=>ff () (h x (Vy _ hx)))
theorem ux:∀ {hs:!(Str×!Str)} {ts:!(!Nat)},(∀ h∈hs,Nm h.1/\∀ n∈h.2,Nm n)->(∀ t∈ts,nl t)->nl (eC hs ts)
 | [],ts,_,_=>λ_ z=>by simp[eC] at z
 | _::_,[],_,_=>λ_ z=>by simp[eC] at z
 | h::hs,t::ts,hh,ht=>by
  let(h1,h2):=hh h Vx;show bZ (ff () (ff () (ff () (bZ (yQ λx hx=>?_) (ff () (ff () (ff () (ht t Vx)))))))) (ux (λx hx=>hh x (Vy _ hx)) λx hx=>ht x (Vy _ hx));rcases VG.mp hx with rfl | hx
  .exact gx h1
  .let(n,hn,rfl):=VI.mp hx;exact gx (h2 n hn)
theorem yI{ts:!(!Nat)}(h:∀ t∈ts,nl t):nl (ts.headD []):=by
 cases ts with
 | nil=>exact λ_ z=>by cases z
 | cons a l=>exact h a Vx
theorem zU{ts:!(!Nat)}(h:∀ t∈ts,nl t):∀ t∈ts.tail,nl t:=λt ht=>h t (List.mem_of_mem_tail ht)
theorem wc{ts:!(!Nat)}(h:∀ t∈ts,nl t):nl (ts.flatMap (32::·)):=Ar λx hx=>ff () (h x hx)
theorem G9{f:Fm}{n:Nat}{ts:!(!Nat)}(h:mN f n)(ht:∀ t∈ts,nl t):nl (pB f ts):=by
 cases f with
 | nm x=>exact gx h.1
 | num i=>exact BK h.1.1
 | op s =>
  show bZ ?_ (wc ht);rcases h.1 with rfl | rfl | rfl<;>decide
 | j3=>exact bZ () (wc ht)
 | lt x=>exact bZ (bZ () (gx h.1)) (wc ht)
 | mk c=>exact bZ (bZ () (gx h.1)) (wc ht)
 | ask g=>exact bZ (bZ (bZ () (yI ht)) (ff () (gx h.1))) (wc (zU ht))
 | k7 r hs=>exact bZ (bZ (bZ (bZ () (yI ht)) ()) (qw h.1)) (ux (λx hx=>#[(h.2.1.2 x hx).1,(h.2.1.2 x hx).2.2]) (zU ht))
 | new k hs=>exact bZ (bZ () (qw h.1)) (ux (λx hx=>#[(h.2.1.2 x hx).1,(h.2.1.2 x hx).2.2]) ht)
mutual
theorem MB:∀ t:Tm,t.gt->nl t.T
 | .node f ks,h=>by
  have hb:=G9 h.1 (Cd ks h.2);rw[Tm.T,pK];split
  .exact hb
  .exact bZ (ff () hb) ()
theorem Cd:∀ ks:!Tm,zV ks->∀ t∈vt ks,nl t
 | [],_,t,ht=>by cases ht
 | k::ks,h,t,ht=>by
  rcases VG.mp ht with rfl | ht
  .exact MB k h.1
  .exact Cd ks h.2 t ht
end
theorem Kg{es:!El}(h:∀ e∈es,nl e.T):nl (cL es):=yQ λx hx=>by
 let(e,he,rfl):=VI.mp hx;exact h e he
theorem dw.gen{q:!Nat->Prop}{b:Bool}{h:Hd}(o:dw b h)(h1:∀ {x:Str},vA x->q (cd x))(h2:q (cd "to")):∀ e∈h.gg,q e.T:=by
 intro e he;let(x,hx,rfl):=VI.mp he;change q (cd x);rcases VM.mp hx with hx | hx
 .rcases VG.mp hx with rfl | hx
  .exact h1 (.inl o.nm)
  .let(p,hp,hx):=V3.mp hx;rcases VG.mp hx with rfl | hx
   .exact h1 <| .inl (o.fs p hp).1
   .rw[VH.mp hx];exact h1 (o.fs p hp).2
 .have hr:=o.res;unfold Hd.to at hx;cases e:h.res with
  | none=>rw[e] at hx;cases hx
  | some r =>
   rw[e] at hx;rcases VG.mp hx with rfl | hx
   .exact h2
   .rw[VH.mp hx];cases b with
    | true=>rw[if_pos U,e] at hr;cases hr
    | false =>
     rw[if_neg VN] at hr;let(r',g1,h3):=hr;rw[e] at g1;injection g1 with g1;rw[g1];exact h1 h3
theorem dw.Qd{b:Bool}{h:Hd}(o:dw b h):∀ e∈h.gg,nl e.T:=o.gen qw ()
theorem eW.Qd{k:Kp}(o:eW k):∀ r∈k.rws,nl (cL r):=by
 intro r hr;show Kg λe he=>?_;rcases VG.mp hr with rfl | hr
 .rcases VG.mp he with rfl | he
  .show nl (cd (bM k.asked));cases k.asked<;>decide
  .rcases VG.mp he with rfl | he
   .exact gx o.nm
   .let(h,hh,he):=V3.mp he;rcases VG.mp he with rfl | he
    .show nl (cd "|");decide
    .exact (o.hs h hh).Qd e he
 .let(t,ht,rfl):=VI.mp hr;have ot:=o.ts t ht;rcases VG.mp he with rfl | he
  .show nl (cd (tabS k.asked));cases k.asked<;>decide
  .rcases VM.mp he with he | he
   .exact ot.h.Qd e he
   .let(r,hr,he):=V3.mp he;rcases VG.mp he with rfl | he
    .show nl (cd "|");decide
    .simp only[qo,List.mem_cons,List.not_mem_nil,or_false] at he;rcases he with rfl | rfl | rfl
     .exact gx (ot.rs r hr).1
     .show nl (cd ":");decide
     .exact MB r.2 (ot.rs r hr).2.1
theorem GG{x:Str×Str×Nat}(o:Qk x):nl (cd (qg x)):=by
 unfold qg;simp only[bI];exact bZ (bZ (bZ (bZ (bZ () (gx o.a)) ()) (gx o.b)) ()) (BK (by cbv))
theorem Js{ps:!Kp}(h:eY ps):∀ x∈rp ps,nl (cd x):=λx hx=>by
 rcases VM.mp hx with hx | hx
 .let(k,hk,hx):=V3.mp hx;let(r,hr,rfl):=VI.mp hx;rw[sj (cL r)];exact (h.2 k hk).Qd r hr
 .let(y,hy,rfl):=VI.mp hx;exact GG ((mv h).2 y hy)
theorem Bo{ps:!Kp}(h:eY ps)(wN:rp ps≠[]):Txt.split (Txt.join "\n" (rp ps)) "\n"=rp ps:=by
 have e:Txt.join "\n" (rp ps)=cD (dF 10 ((rp ps).map cd)):=d3 (by rw[Dr (c:=10) U,sj]);rw[e,CK (by simpa using wN) λx hx=>by let(y,hy,rfl):=List.mem_map.mp hx;exact λz=>(Js h y hy 10 z).1 U,List.map_map];exact BQ _
end DL
namespace ST
open PySem PySem.SetTable
structure Tb(t:GT)(n:Nat):Prop where
 sz:t.place.size=n
 du:t.dummies=#v[]
 up:t.place.toList.Pairwise (·< ·)
 ms:(∃ k,t.mask+1=2 ^ k)/\n * 5 < t.mask * 3/\7<=t.mask
section
variable{t:GT}{n:Nat}
theorem Em:∀ (m:Nat) (l:!Nat),l.length < m->∃ j,j < m/\j∉l
 | 0,l,h=>absurd h (XE _)
 | m+1,l,h=>by
  by_cases hm:m∈l
  .let(j,h1,h2):=Em m (l.erase m) (by rw[XJ hm];have:=XY hm;cbv);show#[j,by cbv,λz=>h2 ?_];rw[X9 (by cbv)];exact z
  .exact#[m,by cbv,hm]
theorem ya{j:Nat}(du:t.dummies=#v[])(h:j∉t.place.toList):t.slot j=.empty:=by
 unfold slot;have h1:(t.place[below t.place j]? == some j)=false:=by
  rw[beq_eq_false_iff_ne];intro e;exact h (by rw[<- Wg] at e;exact V8 e)
 have h2:has t.dummies j=false:=by
  unfold has;rw[du]
  rfl
 dsimp only;rw[h1,h2]
 rfl
theorem kU{j:Nat}(du:t.dummies=#v[]):t.slot j=.empty\/∃ i,t.slot j=.live i/\t.place[i]?=some j:=by
 unfold slot;dsimp only;cases h1:(t.place[below t.place j]? == some j) with
 | true =>
  show .inr #[below t.place j,U,?_];exact eq_of_beq h1
 | false =>
  show .inl ?_;have h2:has t.dummies j=false:=by
   unfold has;rw[du]
   rfl
  rw[h2]
  rfl
theorem Tb.free(T:Tb t n):∃ j,j<=t.mask/\t.slot j=.empty:=by
 let(j,h1,h2):=Em (t.mask+1) t.place.toList (by
  rw[Wd,T.sz];have:=T.ms;cbv)
 exact#[j,by cbv,ya T.du h2]
theorem xq{xs:Array Nat}(up:xs.toList.Pairwise (·< ·))(j:Nat):below xs j<=xs.size/\(∀ k x,k < below xs j->xs.toList[k]?=some x->x < j)/\∀ k x,below xs j<=k->xs.toList[k]?=some x->j<=x:=by
 have mon:∀ {i k x y:Nat},i<=k->xs.toList[i]?=some x->xs.toList[k]?=some y->x<=y:=λ{i k x y} h h1 h2=>by
  let(a1,rfl):=VC.mp h1;let(a2,rfl):=VC.mp h2;rcases Nat.lt_or_eq_of_le h with h | rfl
  .exact Nat.le_of_lt (WG.mp up _ _ a1 a2 h)
  .exact VB _
 unfold below
 suffices ∀ (f lo hi:Nat),lo<=hi->hi<=xs.size->hi - lo<=f->(∀ k x,k < lo->xs.toList[k]?=some x->x < j)->(∀ k x,hi<=k->xs.toList[k]?=some x->j<=x) ->
   below.go xs j f lo hi<=xs.size/\(∀ k x,k < below.go xs j f lo hi->xs.toList[k]?=some x->x < j)/\∀ k x,below.go xs j f lo hi<=k->xs.toList[k]?=some x->j<=x from
  this _ _ _ (VT _) (VB _) (by cbv) (λk x h=>absurd h (XE _)) λk x h e=>by
   rw[WH (by rw[Wd];exact h)] at e;cases e
 intro f
 induction f with
 | zero =>
  intro lo hi h1 h2 h3 h4 h5;have e:lo=hi:=by cbv
  subst e;exact#[h2,h4,h5]
 | succ f ih =>
  intro lo hi h1 h2 h3 h4 h5;unfold below.go;by_cases hl:lo < hi
  .rw[if_pos hl];dsimp only;have hm:(lo+hi) / 2 < xs.size:=by cbv
   have em:xs.toList[(lo+hi) / 2]?=some (xs.getD ((lo+hi) / 2) j):=by
    rw[Wg,Xg hm];simp[Array.getD,hm]
   by_cases hq:xs.getD ((lo+hi) / 2) j < j
   .rw[if_pos hq];exact ih _ _ (by cbv) h2 (by cbv) (λk x h e=>Nat.lt_of_le_of_lt (mon (by cbv) e em) hq) h5
   .rw[if_neg hq];exact ih _ _ (by cbv) (by cbv) (by cbv) h4 λk x h e=>VF (Xu hq) (mon h em e)
  .rw[if_neg hl];have e:lo=hi:=by cbv
   subst e;exact#[h2,h4,h5]
theorem xK{α:Type}(xs:Array α)(p:Nat)(y:α):(insertAt xs p y).toList=xs.toList.take p++y::xs.toList.drop p:=by
 unfold insertAt;rw[Xz,Array.toList_push,Xw,Xw];simp[List.extract];exact List.take_of_length_le (by simp)
theorem LD{j:Nat}(up:t.place.toList.Pairwise (·< ·))(du:t.dummies=#v[])(h:t.slot j=.empty):(insertAt t.place (below t.place j) j).toList.Pairwise (·< ·):=by
 let(h1,h2,h3):=xq up j;have hj:j∉t.place.toList:=λm=>by
  rcases kU (j:=j) du with e | ⟨i,e,_⟩
  .unfold slot at e;dsimp only at e;let(k,hk,ek):=Wh m;have e1:t.place.toList[k]?=some j:=VC.mpr #[hk,ek];have hb:¬ k < below t.place j:=λz=>absurd (h2 k j z e1) (WL _);have hb2:¬ below t.place j < k:=λz=>by
    have jI:below t.place j < t.place.toList.length:=by cbv
    have:=h3 _ _ (VB _) (VO jI);have:=WG.mp up _ _ jI hk z;cbv
   have:k=below t.place j:=by cbv
   rw[this,Wg] at e1;rw[e1] at e;simp at e
  .rw[h] at e;cases e
 rw[xK];show List.pairwise_append.mpr #[up.sublist (Ws ..),List.pairwise_cons.mpr #[λx hx=>?_,up.sublist (List.drop_sublist ..)],λa ha b hb=>?_]
 .let(k,hk,ek):=Wh hx;have e1:t.place.toList[below t.place j+k]?=some x:=by
   rw[<- W9];exact VC.mpr #[hk,ek]
  have:=h3 _ _ (Wz ..) e1;have:x≠j:=λz=>hj (z▸V8 e1);cbv
 .let(k,hk,ek):=Wh ha;have hk':k < below t.place j:=by
   rw[Wy] at hk;cbv
  have e1:t.place.toList[k]?=some a:=by
   rw[<- List.getElem?_take_of_lt hk'];exact VC.mpr #[hk,ek]
  have ha:=h2 k a hk' e1;rcases VG.mp hb with rfl | hb
  .exact ha
  .let(l,hl,el):=Wh hb;have e2:t.place.toList[below t.place j+l]?=some b:=by
    rw[<- W9];exact VC.mpr #[hl,el]
   have:=h3 _ _ (Wz ..) e2;cbv
def j7(t:GT):Probe->Nat->Prop
 | p,0=>t.slot p.j=.empty
 | p,n+1=>t.slot p.j=.empty\/j7 t (t.advance p) n
theorem j7.mono:∀ {n m:Nat} {p:Probe},j7 t p n->n<=m->j7 t p m
 | 0,0,p,h,_=>h
 | 0,m+1,p,h,_=>.inl h
 | n+1,0,p,h,hl=>absurd hl (by cbv)
 | n+1,m+1,p,h,hl=>h.imp id λh=>h.mono (by cbv)
theorem BE(du:t.dummies=#v[]){f:Nat->Int}{h:Int}:∀ (fuel:Nat) (p:Probe) (n:Nat),p.dummy=none->j7 t p n->n < fuel ->
  (∃ j,probe.go t f h fuel p=some (.empty j none)/\t.slot j=.empty)\/∃ j i q m,probe.go t f h fuel p=some (.candidate j i q)/\t.slot j=.live i/\t.place[i]?=some j/\q.dummy=none/\j7 t q m/\m < n
 | 0,p,n,hd,hh,hl=>absurd hl (XE _)
 | fuel+1,p,n,hd,hh,hl=>by
  unfold probe.go;rcases kU (j:=p.j) du with e | ⟨i,e,ei⟩
  .rw[e];exact .inl #[p.j,by rw[hd],e]
  .rw[e];dsimp only;have hd':(t.advance p).dummy=none:=by
    unfold advance;split<;>exact hd
   cases n with
   | zero =>
    have hh:t.slot p.j=.empty:=hh;rw[e] at hh;cases hh
   | succ n =>
    have hh:j7 t (t.advance p) n:=by
     rcases hh with hh | hh
     .rw[e] at hh;cases hh
     .exact hh
    by_cases hq:f i == h
    .rw[if_pos hq];exact .inr #[p.j,i,t.advance p,n,U,e,ei,hd',hh,by cbv]
    .rw[if_neg hq];rcases BE du fuel (t.advance p) n hd' hh (by cbv) with ⟨j,g,g'⟩ | ⟨j,i,q,m,g,g1,g2,g3,g4,g5⟩
     .exact .inl #[j,g,g']
     .exact .inr #[j,i,q,m,g,g1,g2,g3,g4,by cbv]
def fl(m i:Nat):Nat:=(i * 5+1) % (m+1)
def jk(f:Nat->Nat):Nat->Nat->Nat
 | 0,i=>i
 | n+1,i=>jk f n (f i)
def g5(i:Nat):Nat:=i * 5+1
theorem lZ(f:Nat->Nat):∀ (m n i:Nat),jk f (m+n) i=jk f n (jk f m i)
 | 0,n,i=>by rw[Nat.zero_add];rfl
 | m+1,n,i=>by
  rw[show m+1+n=(m+n)+1 by cbv];exact lZ f m n (f i)
theorem yl(M:Nat):∀ (n x:Nat),jk g5 n (x % M) % M=jk g5 n x % M
 | 0,x=>Nat.mod_mod _ _
 | n+1,x=>by
  change jk g5 n (g5 (x % M)) % M=jk g5 n (g5 x) % M;rw[<- yl M n (g5 (x % M)),<- yl M n (g5 x)]
  congr 2
  unfold g5;simp[Nat.add_mod,Nat.mul_mod]
theorem CG(m:Nat):∀ (n x:Nat),jk (fl m) n x % (m+1)=jk g5 n x % (m+1)
 | 0,x=>rfl
 | n+1,x=>by
  change jk (fl m) n (fl m x) % (m+1)=jk g5 n (g5 x) % (m+1);rw[CG m n,<- yl (m+1) n (g5 x)]
  rfl
theorem Iw(m:Nat):∀ (n x:Nat),x < m+1->jk (fl m) n x < m+1
 | 0,x,h=>h
 | n+1,x,_=>Iw m n _ (Nat.mod_lt _ (Ya _))
theorem Sv:∀ k:Nat,∃ u v:Nat,∀ i,jk g5 (2 ^ k) i=(1+4 * 2 ^ k * u) * i+2 ^ k * (2 * v+1)
 | 0=>#[1,0,λi=>by change i * 5+1=_;cbv]
 | k+1=>by
  let(u,v,h):=Sv k;show#[u+2 * 2 ^ k * u * u,v+2 * 2 ^ k * u * v+2 ^ k * u,λi=>?_];rw[show 2 ^ (k+1)=2 ^ k+2 ^ k by rw[Xs];cbv,lZ,h,h];generalize 2 ^ k=p
  grind
theorem Mm:∀ (k i j:Nat),∃ d,d < 2 ^ k/\jk g5 d i % 2 ^ k=j % 2 ^ k
 | 0,i,j=>#[0,by decide,by rw[Nat.pow_zero,Nat.mod_one,Nat.mod_one]]
 | k+1,i,j=>by
  let(d,h1,h2):=Mm k i j;let(u,v,h):=Sv k;have e:jk g5 (d+2 ^ k) i=jk g5 d i+2 ^ k+(2 ^ k * 2) * (2 * u * jk g5 d i+v):=by
   rw[lZ,h];generalize jk g5 d i=x;generalize 2 ^ k=p
   grind
  rw[Xs];have e2:jk g5 (d+2 ^ k) i % (2 ^ k * 2)=(jk g5 d i+2 ^ k) % (2 ^ k * 2):=by
   rw[e,Nat.add_mul_mod_self_left]
  have hp:0 < 2 ^ k:=Nat.pow_pos ();generalize hxx:jk g5 d i=x at h2 e2;have a1:=Nat.mod_mul (a:=2 ^ k) (b:=2) (x:=x);have a2:=Nat.mod_mul (a:=2 ^ k) (b:=2) (x:=j);have a3:=Nat.mod_mul (a:=2 ^ k) (b:=2) (x:=x+2 ^ k);rw[Nat.add_mod_right,Nat.add_div_right _ hp] at a3;by_cases hx:x / 2 ^ k % 2=j / 2 ^ k % 2
  .refine#[d,by cbv,?_];rw[hxx,a1,a2,h2,hx]
  .refine#[d+2 ^ k,by cbv,?_];rw[e2,a3,a2,h2]
   congr 2
   cbv
theorem Ci(m i:Nat):runEnd m i - i<=9:=by
 unfold runEnd;split<;>cbv
theorem Dy{p:Probe}(h:p.more > 0):t.advance p={ p with j:=p.j+1,more:=p.more - 1 }:=by
 unfold advance;rw[if_pos h]
theorem Fy{p:Probe}(h:p.more=0):t.advance p={ p with j:=(leap t.mask p.i p.perturb).1,more:=runEnd t.mask (leap t.mask p.i p.perturb).1 - (leap t.mask p.i p.perturb).1,i:=(leap t.mask p.i p.perturb).1,perturb:=p.perturb / 32 }:=by
 unfold advance;rw[if_neg (by cbv)]
 rfl
theorem jO{N:Nat}:∀ (m:Nat) (p:Probe),p.more=m->(∀ q:Probe,q.j=(leap t.mask p.i p.perturb).1->q.i=(leap t.mask p.i p.perturb).1->q.more<=9->q.perturb=p.perturb / 32->j7 t q N)->j7 t p (N+(m+1))
 | 0,p,hm,h=>by
  show .inr ?_;rw[Fy hm];exact h _ U U (Ci _ _) U
 | m+1,p,hm,h=>by
  show .inr ?_;rw[Dy (by cbv)];exact jO m _ (show p.more - 1=m by cbv) h
theorem r8{j0:Nat}(hj:t.slot j0=.empty):∀ (d:Nat) (p:Probe),p.more<=9->p.perturb=0->jk (fl t.mask) (d+1) p.i=j0->j7 t p (10 * (d+1))
 | 0,p,hm,hp,he=>by
  show (jO (N:=0) p.more p U λq h1 h2 h3 h4=>?_).mono (by cbv);change t.slot q.j=.empty;rw[h1,hp];have he:fl t.mask p.i=j0:=he;rw[show (leap t.mask p.i 0).1=fl t.mask p.i from U,he];exact hj
 | d+1,p,hm,hp,he=>by
  show (jO (N:=10 * (d+1)) p.more p U λq h1 h2 h3 h4=>?_).mono (by cbv);show r8 hj d q h3 (by rw[h4,hp]) ?_;rw[h2,hp];exact he
theorem vM{C:Nat}(hc:∀ i,i<=t.mask->∃ d,d < C/\t.slot (jk (fl t.mask) (d+1) i)=.empty):∀ (a:Nat) (p:Probe),p.more<=9->p.i<=t.mask->p.perturb < 32 ^ a->j7 t p (10 * a+10 * C)
 | 0,p,hm,hi,hp=>by
  let(d,h1,h2):=hc p.i hi;exact (r8 h2 d p hm (by simpa using hp) U).mono (by cbv)
 | a+1,p,hm,hi,hp=>by
  show (jO (N:=10 * a+10 * C) p.more p U λq h1 h2 h3 h4=>?_).mono (by cbv);show vM hc a q h3 ?_ ?_
  .rw[h2];exact Nat.le_of_lt_succ (Nat.mod_lt _ (Ya _))
  .rw[h4];exact Nat.div_lt_of_lt_mul (by rw[Xs] at hp;cbv)
theorem Io{m k:Nat}(hk:m+1=2 ^ k){i j:Nat}(hj:j<=m):∃ d,d < m+1/\jk (fl m) (d+1) i=j:=by
 let(d,h1,h2):=Mm k (fl m i) j;rw[<- hk] at h1 h2;show#[d,h1,?_];rw[<- CG,Nat.mod_eq_of_lt (Iw m d (fl m i) (Nat.mod_lt _ (Ya _))),Nat.mod_eq_of_lt (by cbv)] at h2;exact h2
theorem B0:∀ {l m:!Nat},l.Nodup->(∀ x∈l,x∈m)->l.length<=m.length
 | [],_,_,_=>VT _
 | x::l,m,h,k=>by
  let(h1,h2):=WO.mp h;have:=B0 (m:=m.erase x) h2 λy hy=>(X9 λe=>h1 (by rw[<- e];exact hy)).mpr (k y (Vy _ hy));rw[XJ (k x Vx)] at this;have:=XY (k x Vx);rw[VD];cbv
theorem Tb.R5(T:Tb t n){i:Nat}:∃ d,d < n+1/\t.slot (jk (fl t.mask) (d+1) i)=.empty:=by
 let(j,h1,h2):=T.free;let(k,hk):=T.ms.1;let(d0,_,e0):=Io hk (i:=i) h1
 suffices ∀ d,t.slot (jk (fl t.mask) (d+1) i)=.empty->∃ d,d < n+1/\t.slot (jk (fl t.mask) (d+1) i)=.empty from this d0 (by rw[e0];exact h2)
 intro d
 induction d using Nat.strongRecOn with
 | ind d ih =>
  intro hd;by_cases hn:d < n+1
  .exact#[d,hn,hd]
  by_cases hE:∃ a,a < d/\t.slot (jk (fl t.mask) (a+1) i)=.empty
  .let(a,ha,he):=hE;exact ih a ha he
  by_cases hR:∃ a b,a < b/\b < d/\jk (fl t.mask) (a+1) i=jk (fl t.mask) (b+1) i
  .let(a,b,h3,h4,h5):=hR;show ih (a+(d - b)) (by cbv) ?_;rw[show a+(d - b)+1=(a+1)+(d - b) by cbv,lZ,h5,<- lZ,show b+1+(d - b)=d+1 by cbv];exact hd
  .exfalso;have hl:((List.range d).map λa=>jk (fl t.mask) (a+1) i).length<=t.place.toList.length:=by
    show B0 ?_ λx hx=>?_
    .refine Xe.mpr (List.pairwise_lt_range.imp_of_mem λ{a b} ha hb hab e=>hR #[a,b,hab,WC.mp hb,e])
    .let(a,ha,rfl):=VI.mp hx;rcases kU (j:=jk (fl t.mask) (a+1) i) T.du with e | ⟨q,_,e⟩
     .exact absurd #[a,WC.mp ha,e] hE
     .rw[<- Wg] at e;exact V8 e
   rw[Vv,WN,Wd,T.sz] at hl;cbv
theorem zQ(h:Int):bits h < 32 ^ 13:=by
 unfold bits;have:=W0 h (show (2 ^ 64:Int)≠0 by decide);have:=WW h (show (0:Int) < 2 ^ 64 by decide);cbv
theorem Tb.hits(T:Tb t n)(h:Int):j7 t (t.probeStart h) (10 * (n+14)):=by
 show (vM (C:=n+1) (λi _=>T.R5) 13 (t.probeStart h) (Ci _ _) (Nat.le_of_lt_succ (Nat.mod_lt _ (Ya _))) (zQ h)).mono (by cbv)
theorem Tb.met(T:Tb t n){f:Nat->Int}{h:Int}{p:Probe}{N:Nat}(hd:p.dummy=none)(hh:j7 t p N)(hN:N<=10 * (t.mask+14)) :
  (∃ j,t.probe f h p=some (.empty j none)/\t.slot j=.empty)\/∃ j i q m,t.probe f h p=some (.candidate j i q)/\t.slot j=.live i/\t.place[i]?=some j/\q.dummy=none/\j7 t q m/\m < N :=
 BE T.du _ p N hd hh (by unfold turns;cbv)
end
theorem so:∀ (l:!(Option Nat)),(l.filterMap id).length < l.length->∃ j,j < l.length/\l[j]?=some none
 | [],h=>by simp at h
 | none::l,h=>#[0,by simp,U]
 | some x::l,h=>by
  let(j,h1,h2):=so l (by simpa using h);exact#[j+1,by simpa using h1,by simpa using h2]
theorem zB:∀ (l:!(Option Nat)) (j k:Nat),l[j]?=some none->((l.set j (some k)).filterMap id).length=(l.filterMap id).length+1/\∀ x∈(l.set j (some k)).filterMap id,x=k\/x∈l.filterMap id
 | [],j,k,h=>by simp at h
 | a::l,0,k,h=>by
  simp at h;subst h;constructor
  .simp
  .intro x hx;simpa using hx
 | a::l,j+1,k,h=>by
  let(h1,h2):=zB l j k (by simpa using h);cases a with
  | none=>exact#[by simpa using h1,λx hx=>by simpa using h2 x (by simpa using hx)]
  | some y =>
   show#[by simpa using h1,λx hx=>?_];have hx:x=y\/x∈(l.set j (some k)).filterMap id:=by simpa using hx
   rcases hx with rfl | hx
   .right;simp
   .rcases h2 x hx with h | h
    .exact .inl h
    .right;have:x∈l.filterMap id:=h;simpa using Or.inr this
structure Ow(m:Nat)(o:Array (Option Nat))(k:Nat):Prop where
 sz:o.size=m+1
 ln:(o.toList.filterMap id).length=k
 lt:∀ x∈o.toList.filterMap id,x < k
section
variable{m:Nat}{o:Array (Option Nat)}{k:Nat}
theorem y8{j:Nat}(h:(o.getD j (some 0)).isNone=true):o.toList[j]?=some none:=by
 rw[Wg];cases e:o[j]? with
 | none=>rw[Xt,e] at h;cases h
 | some x =>
  rw[Xt,e] at h;cases x with
  | none=>rfl
  | some y=>cases h
theorem sL{f i pt:Nat}(h:∀ i',i'=(leap m i pt).1->∃ j,layClean.free m o f i' (pt / 32)=some j/\o.toList[j]?=some none):∃ j,layClean.free m o (f+1) i pt=some j/\o.toList[j]?=some none:=by
 unfold layClean.free;split
 .rename_i k hk
  have:=List.find?_some hk;exact#[i+k,U,y8 this]
 .exact h _ U
theorem A7{f i pt:Nat}(h:o.toList[i]?=some none):∃ j,layClean.free m o (f+1) i pt=some j/\o.toList[j]?=some none:=by
 unfold layClean.free;split
 .rename_i k hk
  have:=List.find?_some hk;exact#[i+k,U,y8 this]
 .rename_i hk
  exfalso;rw[List.find?_eq_none] at hk;show hk 0 (List.mem_range.mpr (by unfold runEnd;split<;>cbv)) ?_;rw[Wg] at h;rw[Xt,Nat.add_zero,h]
  rfl
theorem tK{j0:Nat}(hj:o.toList[j0]?=some none):∀ (d f i:Nat),jk (fl m) d i=j0->d < f->∃ j,layClean.free m o f i 0=some j/\o.toList[j]?=some none
 | _,0,_,_,h=>absurd h (XE _)
 | 0,f+1,i,he,_=>A7 (show o.toList[i]?=some none by rw[show i=j0 from he];exact hj)
 | d+1,f+1,i,he,hl=>sL λi' e=>tK hj d f i' (by rw[e];exact he) (by cbv)
theorem w6{j0 C:Nat}(hj:o.toList[j0]?=some none)(hc:∀ i,i<=m->∃ d,d < C/\jk (fl m) (d+1) i=j0):∀ (a f i pt:Nat),i<=m->pt < 32 ^ a->a+C < f->∃ j,layClean.free m o f i pt=some j/\o.toList[j]?=some none
 | 0,f,i,pt,hi,hp,hf=>by
  let(d,h1,h2):=hc i hi;have e:pt=0:=by simpa using hp
  subst e;exact tK hj (d+1) f i h2 (by cbv)
 | a+1,0,i,pt,hi,hp,hf=>absurd hf (by cbv)
 | a+1,f+1,i,pt,hi,hp,hf=>sL λi' e=>w6 hj hc a f i' (pt / 32) (by rw[e];exact Nat.le_of_lt_succ (Nat.mod_lt _ (Ya _))) (Nat.div_lt_of_lt_mul (by rw[Xs] at hp;cbv)) (by cbv)
theorem Ow.free(O:Ow m o k){e:Nat}(he:m+1=2 ^ e)(hk:k < m+1)(h:Int):∃ j,layClean.free m o (turns m) (bits h % (m+1)) (bits h)=some j/\o.toList[j]?=some none:=by
 let(j0,h1,h2):=so o.toList (by rw[O.ln,Wd,O.sz];exact hk);rw[Wd,O.sz] at h1;exact w6 (C:=m+1) h2 (λi hi=>Io he (by cbv)) 13 _ _ _ (Nat.le_of_lt_succ (Nat.mod_lt _ (Nat.succ_pos _))) (zQ h) (by unfold turns;cbv)
theorem Ow.put(O:Ow m o k){j:Nat}(h:o.toList[j]?=some none):Ow m (o.setIfInBounds j (some k)) (k+1):=by
 let(h1,h2):=zB o.toList j k h;show#[by rw[Array.size_setIfInBounds];exact O.sz,?_,λx hx=>?_]
 .rw[Array.toList_setIfInBounds,h1,O.ln]
 .rw[Array.toList_setIfInBounds] at hx;rcases h2 x hx with rfl | h
  .cbv
  .have:=O.lt x h;cbv
theorem BH{e:Nat}(he:m+1=2 ^ e):∀ (l:!Int) (o:Array (Option Nat)) (k:Nat),Ow m o k->k+l.length < m+1 ->
  ∃ o',l.foldl (λacc h=>do
   let (owner,k) <- acc;let j <- layClean.free m owner (turns m) (bits h % (m+1)) (bits h)
   pure (owner.setIfInBounds j (some k),k+1)) (some (o,k))=some (o',k+l.length)/\Ow m o' (k+l.length)
 | [],o,k,O,_=>#[o,U,O]
 | h::l,o,k,O,hl=>by
  rw[VD] at hl;let(j,h1,h2):=O.free he (by cbv) h;let(o',e1,O'):=BH he l _ _ (O.put h2) (by cbv);show#[o',?_,by rw[VD];exact (by rw[show k+(l.length+1)=k+1+l.length by cbv];exact O')];rw[List.foldl_cons];rw[show (do
   let (owner,k) <- some (o,k);let j <- layClean.free m owner (turns m) (bits h % (m+1)) (bits h)
   pure (owner.setIfInBounds j (some k),k+1))=some (o.setIfInBounds j (some k),k+1) by
    change (layClean.free m o (turns m) (bits h % (m+1)) (bits h)).bind _=_;rw[h1]
    rfl]
  rw[e1,VD,show k+1+l.length=k+(l.length+1) by cbv]
theorem vo:∀ n:Nat,(List.replicate n (none:Option Nat)).filterMap id=[]
 | 0=>rfl
 | n+1=>by rw[List.replicate_succ,Xi];exact vo n
theorem BZ:Ow m (Array.replicate (m+1) none) 0:=#[Array.size_replicate,by rw[Array.toList_replicate,vo];rfl,λx hx=>by rw[Array.toList_replicate,vo] at hx;cases hx]
theorem Ks{e:Nat}(he:m+1=2 ^ e)(hs:Array Int)(h:hs.size < m+1):∃ o,layClean m hs=some o/\Ow m o hs.size:=by
 let(o,e1,O):=BH he hs.toList _ 0 BZ (by rw[Wd];cbv);show#[o,?_,by rw[Nat.zero_add,Wd] at O;exact O];unfold layClean;rw[<- Array.foldl_toList,e1]
 rfl
theorem yy(n:Nat):∀ (f k:Nat),n < 2 ^ k * 2 ^ f->∃ e,k<=e/\GT.sizeAbove.go n f (2 ^ k)=2 ^ e/\n < 2 ^ e
 | 0,k,h=>#[k,Nat.le_refl _,U,by simpa using h]
 | f+1,k,h=>by
  unfold GT.sizeAbove.go;split
  .let(e,h1,h2,h3):=yy n f (k+1) (by rw[Xs] at h ⊢;rw[Nat.mul_assoc,Nat.mul_comm 2 (2 ^ f)];exact h);exact#[e,by cbv,by rw[<- h2,Xs],h3]
  .exact#[k,VB _,U,by cbv]
theorem HS(n:Nat):∀ (f k:Nat),GT.sizeAbove.go n f k<=max k (2 * n)
 | 0,k=>Nat.le_max_left _ _
 | f+1,k=>by
  unfold GT.sizeAbove.go;split
  .have:=HS n f (k * 2);cbv
  .cbv
theorem xm{n:Nat}(h:n < 2 ^ 60):∃ e m,GT.sizeAbove n=m+1/\m+1=2 ^ e/\n<=m/\7<=m:=by
 let(e,h1,h2,h3):=yy n 64 3 (by cbv);have h8:2 ^ 3<=2 ^ e:=Nat.pow_le_pow_right () h1;show#[e,2 ^ e - 1,?_,by cbv,by cbv,by cbv];change GT.sizeAbove.go n 64 8=_;rw[show 8=2 ^ 3 from U,h2];cbv
theorem Bi{t:GT}{hs:Array Int}{n:Nat}(h:hs.size=n)(h5:0 < n)(h6:n<=50000):∃ t' ord,t.relaid hs (GT.grown n)=some (t',ord)/\Tb t' n/\t'.led=t.led/\t'.plain=t.plain/\ord.size=n/\∀ x∈ord.toList,x < n:=by
 have eg:GT.grown n=n * 4:=by unfold GT.grown;rw[if_neg (by cbv)]
 rw[eg];let(e,m,m1,m2,m3,m4):=xm (n:=n * 4) (by cbv);let(o,eo,O):=Ks m2 hs (by cbv);rw[h] at O;have el:((List.range (m+1)).filterMap λj=>(o.getD j none).map (j,·)).map (·.2)=o.toList.filterMap id:=by
  rw[List.map_filterMap];have e2:o.toList=(List.range (m+1)).map λj=>o.getD j none:=by
   apply Xc;intro i;rw[Wg,V0];by_cases hi:i < m+1
   .rw[XB hi];have u1:i < o.size:=by rw[O.sz];exact hi
    simp[Array.getD,u1]
   .rw[List.getElem?_eq_none (by simpa using hi),Array.getElem?_eq_none (by rw[O.sz];cbv)]
    rfl
  rw[e2,List.filterMap_map]
  congr 1
  funext j
  change ((o.getD j none).map (j,·)).map (·.2)=o.getD j none;cases o.getD j none<;>rfl
 have er:t.relaid hs (n * 4)=some ({ mask:=m,place:=(((List.range (m+1)).filterMap λj=>(o.getD j none).map (j,·)).map (·.1)).toArray,dummies:=#v[],finger:=t.finger,led:=t.led,moves:=t.movedTo m,plain:=t.plain },(((List.range (m+1)).filterMap λj=>(o.getD j none).map (j,·)).map (·.2)).toArray):=by
  unfold relaid laid;rw[m1,show m+1 - 1=m from U,eo]
  rfl
 show#[_,_,er,#[?_,U,?_,#[e,m2],(show n * 5 < m * 3 by cbv),m4],U,U,?_,λx hx=>?_]
 .rw[VQ,Vv,<- O.ln,<- el,Vv]
 .show (((List.range (m+1)).filterMap λj=>(o.getD j none).map (j,·)).map (·.1)).Pairwise (·< ·);show List.pairwise_lt_range.sublist ((?_:_=(List.range (m+1)).filter λj=>(o.getD j none).isSome)▸List.filter_sublist);generalize List.range (m+1)=l
  induction l with
  | nil=>rfl
  | cons x l ih =>
   rw[Xi,Xx];cases o.getD x none with
   | none=>simpa using ih
   | some y=>simpa using ih
 .rw[VQ,<- O.ln,<- el]
 .have hx:x∈((List.range (m+1)).filterMap λj=>(o.getD j none).map (j,·)).map (·.2):=by simpa using hx
  rw[el] at hx;exact O.lt x hx
theorem DD{α:Type}{es:Array α}{ord:Array Nat}(h:∀ x∈ord.toList,x < es.size):(ord.filterMap (es[·]?)).size=ord.size/\∀ y∈(ord.filterMap (es[·]?)).toList,y∈es.toList:=by
 have e:(ord.filterMap (es[·]?)).toList=ord.toList.filterMap (es[·]?):=by simp
 show#[?_,λy hy=>?_]
 .rw[<- Wd,e,<- Wd];generalize ord.toList=l at h
  induction l with
  | nil=>rfl
  | cons x l ih =>
   have hx:=h x (Vx ..);rw[Xi,Xg hx];simp only[List.length_cons];rw[ih λy hy=>h y (Vy _ hy)]
 .rw[e] at hy;let(i,_,hi):=List.mem_filterMap.mp hy;exact W3.mpr (X5 hi)
end
end ST
namespace ST
open PySem PySem.SetTable PySem.Spec
abbrev Qs(es:Array (Int×AC))(ep:Nat)(t:GT):Obj:={ cls:=.type "set",data:=.set es ep t }
section
variable{prog:Fk}{w:FB}{A:Fr}{E:Yb}{s:Cl}
def TK(prog:Fk)(w:FB)(h:Db)(v:AC):Prop:=∃ ks a,v=.ref a/\IsTupleKey (intKind prog w) h ks a
theorem TK.keep{h h':Db}{v:AC}(x:TK prog w h v)(k:∀ b o,o.cls=.type "tuple"->h.get? b=some o->h'.get? b=some o):TK prog w h' v:=by
 let(ks,a,e,o,it,n,h1,h2,h3):=x;exact#[ks,a,e,o,it,n,k a o h2 h1,h2,h3]
theorem Ax(n:Nat){k:Int}{v:AC}(h:(intKind prog w).is k v=true):ofAClassStatement n v=pure false:=by
 cases v<;>first | (cases n<;>rfl) | (exact absurd ((intKind prog w).byValue k _ h) (by simp[carriedByValue]))
theorem sW{v:AC}{Q:Bool->Cl->Prop}(x:TK prog w s.heap v)(h:Q false s):Da (model prog w) A (ofAClassStatement 8 v) Q E s:=by
 let(ks,a,rfl,o,it,n,h1,h2,h3,h4):=x;unfold ofAClassStatement;show BT (wpAny_typeOf (#[o,h1,h2]:s.TypeIs (.ref a) "tuple") ?_);dsimp only;rw[if_pos (show ("tuple" == "tuple")=true by decide)];show BT (EQ ?_);simp only[Bool.not_true,Bool.false_eq_true,if_false];show BT (PP h1 h3 ?_);dsimp only;rw[<- Array.forIn_toList];show BT (wpAny_forIn_list _ (λrest r s'=>r.1=none/\s'=s/\∃ ks,ItemsAre (intKind prog w) ks rest) _ ?_ ?_ _ _ #[U,U,ks,h4])
 .rintro y rest r s' ⟨hr,rfl,ks',hk⟩;cases hk with
  | cons g1 g2 =>
   rw[Ax 7 g1];show BT (EQ ?_);simp only[Bool.false_eq_true,if_false];exact EQ #[U,U,_,g2]
 .rintro⟨r1,r2⟩ s' ⟨hr,rfl,_⟩;simp only at hr;subst hr;exact EQ h
theorem GK{x:AC}{l:!AC}{Q:Bool->Cl->Prop}(hx:TK prog w s.heap x)(hl:∀ y∈l,TK prog w s.heap y)(h:Q false s):Da (model prog w) A (searchCouldBeSeen x l) Q E s:=by
 unfold searchCouldBeSeen;show BT (wpAny_forIn_list _ (λrest r s'=>r.1=none/\s'=s/\∀ y∈rest,TK prog w s.heap y) _ ?_ ?_ _ _ #[U,U,hl])
 .rintro y rest r s' ⟨hr,rfl,hk⟩;have hy:=hk y (Vx ..);have hk':∀ z∈rest,TK prog w s'.heap z:=λz hz=>hk z (Vy _ hz);let(ks,a,rfl,hx'):=id hx;let(ks',b,rfl,hy'):=id hy;dsimp only;split
  .refine EQ ?_;exact#[U,U,hk']
  .skip
   show BT (wpAny_eqIsQuiet_tuple hx' ?_);simp only[Bool.not_true,Bool.false_eq_true,if_false];show BT (wpAny_eqIsQuiet_tuple hy' ?_);simp only[Bool.not_true,Bool.false_eq_true,if_false];show BT (sW hx ?_);simp only[Bool.false_eq_true,if_false];show BT (sW hy ?_);simp only[Bool.false_eq_true,if_false];exact EQ #[U,U,hk']
 .rintro⟨r1,r2⟩ s' ⟨hr,rfl,_⟩;simp only at hr;subst hr;exact EQ h
theorem Bc{v:AC}{Q:Bool->Cl->Prop}(x:TK prog w s.heap v)(h:Q true s):Da (model prog w) A (hashByValue 8 v) Q E s:=by
 let(ks,a,rfl,o,it,n,h1,h2,h3,h4):=x;unfold hashByValue;show BT (wpAny_specialOf (#[o,h1,h2]:s.TypeIs (.ref a) "tuple") F.slot_tuple_hash.lookup ?_);dsimp only;show BT (PP h1 h3 ?_);dsimp only[Option.getD_some];rw[<- Array.forIn_toList];show BT (wpAny_forIn_list _ (λrest r s'=>r.1=none/\s'=s/\∃ ks,ItemsAre (intKind prog w) ks rest) _ ?_ ?_ _ _ #[U,U,ks,h4])
 .rintro y rest r s' ⟨hr,rfl,ks',hk⟩;cases hk with
  | @cons k _ _ _ g1 g2 =>
   have e:hashByValue 7 y=pure true:=by
    cases y<;>first | rfl | (exact absurd (show false=true from g1) (by simp))
   rw[e];show BT (EQ ?_);simp only[Bool.not_true,Bool.false_eq_true,if_false];exact EQ #[U,U,_,g2]
 .rintro⟨r1,r2⟩ s' ⟨hr,rfl,_⟩;simp only at hr;subst hr;exact EQ h
end
section
variable{prog:Fk}{w:FB}{A:Fr}{E:Yb}{s:Cl}{a:AT}{es:Array (Int×AC)}{ep:Nat}{t:GT}{x:AC}{h:Int}
theorem Tb.fits{n:Nat}(T:Tb t n):t.fits n=true:=by
 unfold GT.fits fill;rw[T.sz,T.du];have:=T.ms.2;simp;cbv
theorem Tb.stays{n:Nat}(T:Tb t n):t.gaveWay=false:=by
 unfold GT.gaveWay;let((k,hk),_,h7):=T.ms;rw[beq_eq_false_iff_ne];cases k with
 | zero=>cbv
 | succ k=>rw[Xs] at hk;cbv
def vh(prog:Fk)(w:FB)(h:Db)(ks:!Int)(v:AC):Prop:=∃ a,v=.ref a/\IsTupleKey (intKind prog w) h ks a
theorem sk{Q:SetFound->Cl->Prop}(hu:A.units < cLine)(hx:TK prog w s.heap x)(ho:s.heap.get? a=some (Qs es ep t))(T:Tb t es.size)(he:∀ e∈es.toList,TK prog w s.heap e.2)(h1:∀ j,t.slot j=.empty->Q (.free j false) s)(h2:∀ e∈es.toList,∀ ks,vh prog w s.heap ks e.2->vh prog w s.heap ks x->False):∀ (fuel N:Nat) (st:Option Probe),j7 t (st.getD (t.probeStart h)) N->(st.getD (t.probeStart h)).dummy=none->N<=10 * (t.mask+14)->N < fuel->Da (model prog w) A (setSearchFrom a x h true fuel st) Q E s
 | 0,N,st,_,_,_,hf=>absurd hf (XE _)
 | fuel+1,N,st,hh,hd,hN,hf=>by
  unfold setSearchFrom;show BT (wpAny_setState_of ho U T.fits ?_);dsimp only;rw[T.stays];simp only[Bool.false_eq_true,if_false];have key:∀ (f:Nat->Int) (r:Option Met),t.probe f h (st.getD (t.probeStart h))=r->(∃ j,r=some (.empty j none)/\t.slot j=.empty)\/∃ j i q m,r=some (.candidate j i q)/\t.slot j=.live i/\t.place[i]?=some j/\q.dummy=none/\j7 t q m/\m < N:=λf r e=>by
   subst e;exact T.met hd hh hN
  generalize hp:t.probe _ h (st.getD (t.probeStart h))=r;rcases key _ _ hp with ⟨j,e,e'⟩ | ⟨j,i,q,m,e,g1,g2,g3,g4,g5⟩
  .subst e;exact EQ (h1 j e')
  .subst e;dsimp only;have hi:i < es.size:=by
    have:=(Array.getElem?_eq_some_iff.mp g2).1;rw[T.sz] at this;exact this
   have hy:TK prog w s.heap es[i].2:=he es[i] (W3.mpr (Array.getElem_mem hi));have rest:Da (model prog w) A (do
     let some (_,y):=es[i]? | unsupported "internal:set-entry"
     let equal <- holding [y] (eqBool y x);let (es',_,t') <- setState a
     if true&&equal then return .there none
     let some same:=t'.sameMemory t.moves t.mask | unsupported "set.changed-during-lookup:is-the-new-block-at-the-old-address"
     let still <- match (if same then t'.slot j else .empty) with
      | .live i'=>match es'[i']? with
       | some (_,y')=>do pure (if <- isSame y' y then some i' else none)
       | none=>pure none
      | _=>pure none
     match still with
     | none=>rule "set.search.anew";setSearchFrom a x h true fuel none
     | some i'=>if equal then return .there (some i') else setSearchFrom a x h true fuel (some q)) Q E s:=by
    rw[Xg hi];dsimp only;let(ks,b,eb,hb):=hy;let(ks',c,ec,hc):=id hx;rw[eb,ec];show BT (KK (wpAny_eqBool_tuple hu hb hc ?_));show BT (wpAny_setState_of ho U T.fits ?_);dsimp only;by_cases hk:ks=ks'
    .subst hk;exact (h2 es[i] (W3.mpr (Array.getElem_mem hi)) ks #[b,eb,hb] #[c,ec,hc]).elim
    .rw[decide_eq_false hk];simp only[Bool.and_false,Bool.false_eq_true,if_false];rw[show t.sameMemory t.moves t.mask=some true by unfold sameMemory;rw[if_pos (by simp)]];dsimp only;rw[if_pos U,g1];dsimp only;rw[Xg hi];dsimp only;rw[eb];have same:isSame (.ref b) (.ref b)=pure true:=by
      unfold isSame;dsimp only;rw[if_pos (by simp)]
     rw[same];show BT (BT (EQ (EQ ?_)));rw[if_pos U];rw[<- ec];exact sk hu hx ho T he h1 h2 fuel m (some q) g4 g3 (by cbv) (by cbv)
   cases hl:t.led with
   | true =>
    simp only[Bool.not_true,Bool.false_eq_true,if_false];exact rest
   | false =>
    simp only[Bool.not_false,if_true];show BT (GK hx (λy hy=>?_) ?_)
    .simp only[List.mem_map,Array.toList_filter,List.mem_filter] at hy;let(e,(h1,_),rfl):=hy;exact he e h1
    .simp only[Bool.false_eq_true,if_false];exact rest
theorem vP{α:Type}{xs:Array α}{p:Nat}{y:α}(hp:p<=xs.size):(insertAt xs p y).size=xs.size+1:=by
 unfold insertAt;simp;cbv
theorem F7{α:Type}{xs:Array α}{p:Nat}{y z:α}(h:z∈(insertAt xs p y).toList):z=y\/z∈xs.toList:=by
 unfold insertAt at h;rw[Xz,Array.toList_push] at h;rcases VM.mp h with h | h
 .rcases VM.mp h with h | h
  .refine .inr ?_;rw[Xw] at h;simp[List.extract] at h;exact Wc h
  .exact .inl (by simpa using h)
 .refine .inr ?_;rw[Xw] at h;simp[List.extract] at h;exact WA (Wc h)
theorem vO(xs:Array Nat)(j:Nat):below xs j<=xs.size:=by
 unfold below
 suffices ∀ (f lo hi:Nat),lo<=xs.size->hi<=xs.size->below.go xs j f lo hi<=xs.size from this _ _ _ (VT _) (VB _)
 intro f
 induction f with
 | zero=>intro lo hi h _;exact h
 | succ f ih =>
  intro lo hi h1 h2;unfold below.go;split
  .dsimp only;split
   .exact ih _ _ (by cbv) h2
   .exact ih _ _ h1 (by cbv)
  .exact h1
structure Ts(led:Bool)(P:AC->Prop)(o:Obj)(n:Nat):Prop where
 ex:∃ es ep t,o=Qs es ep t/\Tb t es.size/\t.led=led/\t.plain=true/\es.size=n/\∀ e∈es.toList,P e.2
theorem CL{hp:Db}{es':Array (Int×AC)}{t':GT}(ho:hp.get? a=some (Qs es ep t)):(hp.update a (Obj.putSet es' t')).get? a=some (Qs es' (ep+1) t'):=by
 have:=Wt (Obj.putSet es' t') ho (by rw[putSet_of es' t' U];rfl);rw[putSet_of es' t' U] at this;exact this
theorem Lr{led:Bool}{P P':AC->Prop}{o:Obj}{n:Nat}{Q:Bool->Cl->Prop}(hu:A.units < cLine)(hx:TK prog w s.heap x)(px:P' x)(Ux:∀ v,P v->P' v)(ho:s.heap.get? a=some o)(S:Ts led P o n)(hP:∀ v,P v->TK prog w s.heap v)(BB:∀ v,P v->∀ ks,vh prog w s.heap ks v->vh prog w s.heap ks x->False)(hn:n < 9900)(hQ:∀ b tk h' o',s.toks<=tk->h'.get? a=some o'->Ts led P' o' (n+1)->Db.SameBut a s.heap h'->Q b { s with heap:=h',toks:=tk }):Da (model prog w) A (setAdd a x) Q E s:=by
 let(es,ep,t,rfl,T,tl,tp,rfl,he):=S.ex;have heT:∀ e∈es.toList,TK prog w s.heap e.2:=λe h=>hP _ (he e h);unfold setAdd;show KK ?_;let(ks,b,eb,hb):=id hx;rw[eb];show BT (wpAny_pyHash_tuple hu hb ?_);rw[<- eb];have htk:s.toks<=s.toks+(ks.length+1):=Wz _ _;generalize s.toks+(ks.length+1)=tk at htk ⊢;generalize tupleKeyHash (intKind prog w) ks=hsh;unfold setAddHashed;show KK ?_;unfold setAddHashedIn;show BT (wpAny_setState_of (s:={ s with toks:=tk }) ho U T.fits ?_);dsimp only;have hby:byScan x es=false:=by rw[eb];rfl
 rw[hby];simp only[Bool.false_eq_true,if_false];show BT (sk (s:={ s with toks:=tk }) (es:=es) (ep:=ep) (t:=t) hu hx ho T heT (λj hj=>?_) (λe h=>BB e.2 (he e h)) 100000 (10 * (es.size+14)) none (T.hits hsh) U (by have:=T.ms.2;cbv) (by cbv))
 .dsimp only;show BT (wpAny_setState_of (s:={ s with toks:=tk }) ho U T.fits ?_);dsimp only;unfold GT.put;dsimp only;rw[if_pos tp];show BT (Bc (s:={ s with toks:=tk }) hx ?_);simp only[if_true];have hd:(if has t.dummies j=true then eraseAt t.dummies (below t.dummies j) else t.dummies)=#v[]:=by
   rw[T.du]
   rfl
  rw[hd];have hz:(insertAt t.place (below t.place j) j).size=es.size+1:=by rw[vP (vO _ _),T.sz]
  have hz2:(insertAt es (below t.place j) (hsh,x)).size=es.size+1:=vP (by rw[<- T.sz];exact vO _ _);have hm:∀ e∈(insertAt es (below t.place j) (hsh,x)).toList,P' e.2:=λe h=>by
   rcases F7 h with rfl | h
   .exact px
   .exact Ux _ (he e h)
  have hup:=LD T.up T.du hj;generalize hes:insertAt es (below t.place j) (hsh,x)=es1 at hz2 hm ⊢;generalize g6:insertAt t.place (below t.place j) j=pl at hz hup ⊢;show BT (wpAny_storeSet_of (s:={ s with toks:=tk }) ho U ?_ (by rw[hz2,sizeLine_eq];cbv));have ho1:=CL (es':=es1) (t':={ t with place:=pl,dummies:=#v[] }) ho;have sb1:=WR s.heap a (Obj.putSet es1 { t with place:=pl,dummies:=#v[] });by_cases hfull:((not false)&&GT.tooFull { t with place:=pl,dummies:=#v[] })=true
  .rw[if_pos hfull];have hf:(pl.size+0) * 5 ≥ t.mask * 3:=by simpa [GT.tooFull,fill] using hfull
   rw[hz] at hf;have f1:GT.fits { t with place:=pl,dummies:=#v[] } es1.size=true:=by
    unfold GT.fits fill;rw[hz2,hz];have:=T.ms.2;simp;cbv
   unfold setRelay;show BT (BT (wpAny_setState_of (s:={ s with toks:=tk,heap:=s.heap.update a (Obj.putSet es1 { t with place:=pl,dummies:=#v[] }) }) ho1 U f1 ?_));dsimp only;rw[if_neg (by have:=HS (GT.grown (es.size+1)) 64 8;have e8:GT.grown (es.size+1)=(es.size+1) * 4:=(by unfold GT.grown;rw[if_neg (by cbv)]);have e9:GT.sizeAbove (GT.grown (es.size+1))=GT.sizeAbove.go (GT.grown (es.size+1)) 64 8:=rfl;rw[sizeLine_eq];cbv)];let(t2,ord,e2,T2,l2,p2,oz,ol):=Bi (t:={ t with place:=pl,dummies:=#v[] }) (hs:=es1.map (·.1)) (n:=es.size+1) (by rw[Array.size_map,hz2]) (by cbv) (by cbv);rw[e2];let(g1,g2):=DD (es:=es1) (ord:=ord) (by rw[hz2];exact ol);show BT (m:=(if (ord.filterMap (es1[·]?)).size != es1.size then unsupported "internal:set-table-lost-an-element" >>= λ_:Unit=>pure (ord.filterMap (es1[·]?),t2) else pure (ord.filterMap (es1[·]?),t2):Sem (Array (Int×AC)×GT))) ?_;rw[if_neg (by rw[g1,oz,hz2];simp)];show EQ ?_;dsimp only;show wpAny_storeSet_of (s:={ s with toks:=tk,heap:=s.heap.update a (Obj.putSet es1 { t with place:=pl,dummies:=#v[] }) }) ho1 U ?_ (by rw[g1,oz,sizeLine_eq];cbv);show EQ (hQ _ tk _ _ htk (CL ho1) #[_,_,_,U,#[by rw[g1,oz];exact T2.sz,T2.du,T2.up,by rw[g1,oz];exact T2.ms],l2.trans tl,p2.trans tp,by rw[g1,oz],λe h=>hm e (g2 e h)] (sb1.trans (WR _ a _)))
  .rw[if_neg hfull];have hf:¬ (pl.size+0) * 5 ≥ t.mask * 3:=λz=>hfull (by simpa [GT.tooFull,fill] using z);rw[hz] at hf;exact EQ (hQ _ tk _ _ htk ho1 #[es1,ep+1,_,U,#[by rw[hz2];exact hz,U,hup,by rw[hz2];exact#[T.ms.1,(show (es.size+1) * 5 < t.mask * 3 by cbv),T.ms.2.2]],tl,tp,hz2,hm] sb1)
end
def qj(w:FB):Bool:=(not (w.params.followText "set-order"))
abbrev rG(w:FB):Obj:={ cls:=.type "set",dict:=none,data:=.set #v[] 0 (.fresh 0 0 (qj w)) }
theorem KI{w:FB}{P:AC->Prop}:Ts (qj w) P (rG w) 0:=#[#v[],0,_,U,#[U,U,.nil,#[3,U],Nat.zero_lt_succ _,Nat.le_refl 7],U,U,U,λe h=>absurd h (by simp)]
theorem tP{prog:Fk}{w:FB}:∀ {ks ls:!Int} {vs:!AC},ItemsAre (intKind prog w) ks vs->ItemsAre (intKind prog w) ls vs->ks=ls
 | _,_,[],h,k=>by
  cases h;cases k
  rfl
 | _,_,v::vs,h,k=>by
  cases h with
  | cons h1 h2 =>
   cases k with
   | cons k1 k2 =>
    rw[tP h2 k2];let(t,e1):=AC.isInt_shape (show AC.isInt _ v=true from h1);let(u,e2):=AC.isInt_shape (show AC.isInt _ v=true from k1);rw[e1] at e2;injection e2 with e2;rw[e2]
theorem vh.one{prog:Fk}{w:FB}{h:Db}{ks ls:!Int}{v:AC}(x:vh prog w h ks v)(y:vh prog w h ls v):ks=ls:=by
 let(a,rfl,o,it,n,h1,h2,h3,h4):=x;let(b,e,o',it',n',g1,g2,g3,g4):=y;cases e;rw[h1] at g1;cases g1;rw[h3] at g3;cases g3;exact tP h4 g4
theorem vh.keep{prog:Fk}{w:FB}{h h':Db}{ks:!Int}{v:AC}(x:vh prog w h ks v)(k:∀ b o,h.get? b=some o->h'.get? b=some o):vh prog w h' ks v:=by
 let(a,e,o,it,n,h1,h2):=x;exact#[a,e,o,it,n,k a o h1,h2]
theorem TK.d{prog:Fk}{w:FB}{h:Db}{v:AC}(x:TK prog w h v):∃ ks,vh prog w h ks v:=let #[ks,a,e,r]:=x;#[ks,a,e,r]
section
variable{prog:Fk}{w:FB}{A:Fr}{R:Result->Cl->Prop}{I:AT}{fp wr:!AT}{G:Array GenState->Array GenState->Prop}{n:Nat}{P:Nat->AC->Prop}{St:Nat->Cl->Prop}
theorem GJ{PV:Nat->AC->Prop}{h0:Db}(W:WalksS prog w A.in1 I fp wr G n P St)(S:AT)(Jh:S∉fp)(hu:A.in1.units < cLine)(hv:∀ i v,P i v->PV (i+1) v)(PD:∀ i v,PV i v->PV (i+1) v)(hT:∀ i v,PV i v->TK prog w h0 v)(BB:∀ i v x,PV i v->P i x->∀ ks,vh prog w h0 ks v->vh prog w h0 ks x->False)(hn:n < 9900)(S6:∀ b∈S::wr,h0.get? b=none) :
  ∀ (k i:Nat) (s:Cl),n - i=k->i<=n->St i s->(∀ b o,h0.get? b=some o->s.heap.get? b=some o)->(∃ o,s.heap.get? S=some o/\Ts (qj w) (PV i) o i) ->
   (∀ s',Moved (S::wr) G s s'->(∃ o,s'.heap.get? S=some o/\Ts (qj w) (PV n) o n)->R (.ok (.ret .none)) s') ->
   codeAny (model prog w) A (.builtin "set.update.loop" #[[.ref S,.ref I],[]]) R s:=by
 have hSw:S∉wr:=λh=>Jh (W.sub _ h);have up:∀ b∈wr,b∈S::wr:=λb hb=>Vy _ hb;intro k
 induction k with
 | zero =>
  intro i s hk hi n5 hkp #[o,ho,hS] hR;have e:i=n:=by cbv
  subst e;show codeAny_builtin PyProof.Rows.F.entry_set_update_loop ?_;rw[Fr.under_plainId PyProof.Rows.F.plain_set_update_loop _];show BT (m:=pyNext (.ref I)) (W.done s _ _ n5 λs' hm=>?_);exact EQ (hR s' (hm.mono up) #[o,hm.heap S _ hSw ho,hS])
 | succ k ih =>
  intro i s hk hi n5 hkp #[o,ho,hS] hR;have jI:i < n:=by cbv
  show codeAny_builtin PyProof.Rows.F.entry_set_update_loop ?_;rw[Fr.under_plainId PyProof.Rows.F.plain_set_update_loop _];show BT (m:=pyNext (.ref I)) (W.item i s _ _ jI n5 λv s' hP hst' hm=>?_);have hk':∀ b u,h0.get? b=some u->s'.heap.get? b=some u:=λb u e=>hm.heap b u (λhb=>by rw[S6 b (up b hb)] at e;cases e) (hkp b u e);have hT':∀ i v,PV i v->TK prog w s'.heap v:=λi v hv=>(hT i v hv).keep λb u _ e=>hk' b u e;have hno':∀ u,PV i u->∀ ks,vh prog w s'.heap ks u->vh prog w s'.heap ks v->False:=λu hu ks k1 k2=>by
   let(l1,m1):=(hT i u hu).d;let(l2,m2):=(hT (i+1) v (hv i v hP)).d;have e1:=k1.one (m1.keep hk');have e2:=k2.one (m2.keep hk');subst e1;subst e2;exact BB i u v hu hP _ m1 m2
  show BT (m:=holding [v] (setAdd S v)) (KK (Lr (P':=PV (i+1)) hu (hT' _ v (hv i v hP)) (hv i v hP) (PD i) (hm.heap S _ hSw ho) hS (hT' i) hno' (by cbv) λb tk h' o' gt g1 g2 sb=>?_));show EQ #[plainId_quiet PyProof.Rows.F.plain_set_update_loop _,ih (i+1) _ (by cbv) jI (W.frame _ s' h' tk hst' ?_ λb hb u e=>?_) (λb u e=>?_) #[o',g1,g2] λDY hm'' hS''=>?_]
  .exact gt
  .rw[sb.2 b (λz:b=S=>Jh (by rw[<- z];exact hb))];exact e
  .have hb:b≠S:=λz=>by rw[z,S6 S (Vx ..)] at e;cases e
   change h'.get? b=some u;rw[sb.2 b hb];exact hk' b u e
  .refine hR DY (Moved.trans W.gtrans ((hm.mono up).then_heap ?_ λb u hb e=>?_) hm'') hS''
   .exact gt
   .rw[sb.2 b (λz:b=S=>hb (by rw[z];exact Vx))];exact e
end
section
variable{prog:Fk}{w:FB}{A:Fr}{E:Yb}{s:Cl}
theorem GV(a:AC){Q:Yb}(h:Q (.ref ↑s) { s with heap:=s.heap.push (rG w) }) :
  codeAny (model prog w) A (.call (.builtin "set.__new__") #[[.type "set",a],[]]) (wants Q E) s:=by
 show codeAny_of_tree ?_;change Da _ A.in1 (checkBuiltinCall "set.__new__" #[[.type "set",a],[]] >>= λ_=>again (.builtin "set.__new__" #[[.type "set",a],[]])) _ _ s;show BT (wpAny_of_eq (PySem.F.newCall_set_1 a) (EQ #[plainId_quiet PySem.F.plain_set_new _,codeAny_builtin PySem.F.entry_set_new ?_]));rw[Fr.under_plainId PySem.F.plain_set_new _];unfold FM.«set.__new__» FM.Frozenset.newClass;have hs:=sub_set_self;let(hp,g,d,tk,os):=s;dsimp only
 wp_walk
 show wpAny_askSetting (EQ ?_);dsimp only;simp only[newObj];show BT (wpAny_alloc (EQ ?_));exact EQ h
theorem BI{l:AT}{items:Array AC}{Q:Yb}(hh:A.handled=none)(hu:A.in1.in1.in1.units < cLine)(hl:s.heap.IsList l items)(hT:∀ v∈items.toList,TK prog w s.heap v)(hD:∀ (i j:Nat) v u,i < j->items[i]?=some v->items[j]?=some u->∀ ks,vh prog w s.heap ks v->vh prog w s.heap ks u->False)(hb:items.size < 9900)(h:∀ (h':Db) (tk:Nat) o,h'.get? ↑s=some o->Ts (qj w) (·∈items.toList) o items.size->(∀ b o,b < ↑s->s.heap.get? b=some o->h'.get? b=some o)->Q (.ref ↑s) { s with heap:=h',toks:=tk }) :
  Da (model prog w) A (call (.type "set") [.ref l]) Q E s:=by
 let(c,tl,hmro):=PySem.F.called_set.mro;have hmade:=PySem.F.called_set.made;have hsub:=PySem.F.called_set.sub;show wpAny_call (codeAny_of_tree ?_);change Da _ _ (callAny (.type "set") _) _ _ _;show EQ #[Code.quiet_builtin _ (by decide+kernel),codeAny_builtin PySem.F.entry_type_call ?_];rw[Fr.under_plain (weight_type_call_type "set" [.ref l] []) U];have n1:=PySem.F.called_set.notType;have n2:=PySem.F.called_set.canCreate;have n3:=PySem.F.typeCall_set_1 (.ref l)
 repeat (any_goals (first | assumption | wp_step))
 show codeAny_mono (GV (.ref l) (E:=E) (Q:=λobj s₁=>obj=.ref ↑s/\s₁={ s with heap:=s.heap.push (rG w) }) #[U,U]) λr s₁ hr=>?_;cases r with
 | error e=>exact hr
 | ok f =>
  cases f with
  | ret obj =>
   let(rfl,rfl):=hr;have hS:(s.heap.push (rG w)).get? ↑s=some (rG w):=VP _ U;have hTy:Cl.TypeIs { s with heap:=s.heap.push (rG w) } (.ref ↑s) "set":=#[_,hS,U];have m1:=PySem.F.called_set.init.lookup;have m2:=PySem.F.called_set.init.bind (.ref ↑s)
   repeat (any_goals (first | assumption | wp_step))
   show codeAny_mono (codeAny_call_builtin (R:=wants (λr s₂=>r=.none/\∃ h' tk o,s₂={ s with heap:=h',toks:=tk }/\h'.get? ↑s=some o/\Ts (qj w) (·∈items.toList) o items.size /\
     (∀ b o,b < ↑s->s.heap.get? b=some o->h'.get? b=some o)) E) PySem.F.called_set.init.plain PySem.F.entry_set_init (check_set_init_1 hTy ?_)) λr₂ s₂ hr₂=>?_
   .let(ol,hol,hcl,nl,hdl):=hl;let(ocls,odict,odata,oslots):=ol;simp only at hcl hdl;subst hcl;subst hdl;have hol':(s.heap.push (rG w)).get? l=some { cls:=.type "list",dict:=odict,data:=.seq items nl,slots:=oslots }:=Vz _ hol;have q1:=PySem.F.sub_list_set;have q2:=PySem.F.sub_list_frozenset;have q3:(AC.type "list" == AC.type "dict")=false:=by decide
    have FD:(s.heap.push (rG w)).IsList l items:=#[_,hol',U,nl,U];unfold FM.«set.__init__» noKeywords FM.Frozenset.updateFrom;generalize hPI:pyIter=PI
    wp_walk
    subst hPI;show wpAny_pyIter_list FD ?_;show BT (wpAny_runValue ?_);have hlS:l < ↑s:=VL hol;have hh3:A.in1.in1.in1.handled=none:=by simp[hh]
    have hneI:l≠(s.heap.push (rG w)).objs.size:=by
     rw[Wl];exact VW (Xo hlS)
    have Jh:↑s∉[(s.heap.push (rG w)).objs.size,l]:=by
     rw[Wl];intro z;rcases VG.mp z with z | z
     .exact absurd z (VW (Nat.lt_succ_self _))
     .exact absurd (VH.mp z) (W7 hlS)
    show GJ (PV:=λi v=>∃ j,j < i/\items[j]?=some v) (h0:=s.heap) ((Walks.list hh3 _ l hneI items).toS) ↑s Jh hu (λi v hv=>#[i,Nat.lt_succ_self i,hv]) (λi v #[j,hj,e]=>#[j,Xo hj,e]) (λi v #[j,hj,e]=>hT v (W3.mpr (X5 e))) (λi v x #[j,hj,e] hx=>hD j i v x hj e hx) hb (λb hb=>?_) (items.size - 0) 0 _ (by cbv) (VT _)
     #[#[_,VP _ U,U,U],(FD.push _)] (λb o e=>Vz _ (Vz _ e)) #[_,Vz _ hS,KI] ?_
    .refine Db.get?_none_of_le ?_;rcases VG.mp hb with rfl | hb
     .exact VB _
     .rw[VH.mp hb,Wl];exact Nat.le_succ _
    .intro s' hm #[o,ho,hTs];let(h',g',d',tk',os'):=s';have eg:g'=s.gens:=hm.gens;have ed:d'=s.drawn:=hm.drawn;have eo:os'=s.os:=hm.os;subst eg;subst ed;subst eo;show EQ ?_;show EQ #[U,h',tk',o,U,ho,(let #[es,ep,t,e1,e2,e3,e4,e5,e6]:=hTs.ex;#[es,ep,t,e1,e2,e3,e4,e5,λe he=>let #[j,_,q]:=e6 e he;W3.mpr (X5 q)]),λb o hb e=>?_];show hm.heap b o (λz=>?_) (Vz _ (Vz _ e));rcases VG.mp z with z | z
     .exact absurd z (VW hb)
     .rw[VH.mp z,Wl] at hb;exact absurd hb (by cbv)
   .cases r₂ with
    | error e=>exact hr₂
    | ok f₂ =>
     cases f₂ with
     | ret r =>
      let(rfl,h',tk,o,rfl,h1,h2,h5):=hr₂
      repeat (any_goals (first | assumption | wp_step))
      exact h _ _ o h1 h2 h5
     | _=>exact hr₂.elim
  | _=>exact hr.elim
end
end ST
namespace ST
open PySem PySem.Spec PySem.W PyProof.Rows
theorem min_le:∀ (f n r:Nat),1<=f->n<=f->r<=1->minRun' f n r<=n+1
 | 0,n,r,h,_,_=>absurd h ()
 | f+1,n,r,_,hn,hr=>by
  rw[minRun'_succ];split
  .cbv
  .have:=min_le f (n / 2) (max r (n % 2)) (by cbv) (by cbv) (by cbv);cbv
theorem HA{n:Nat}(h:2<=n):minRun' n n 0<=n:=by
 obtain⟨f,rfl⟩:∃ f,n=f+1:=#[n - 1,by cbv];rw[minRun'_succ];split
 .cbv
 .have:=min_le f ((f+1) / 2) (max 0 ((f+1) % 2)) (by cbv) (by cbv) (by cbv);cbv
section
variable{prog:Fk}{w:FB}{A:Fr}{E:Yb}{κ:SortKind}{it:Array Keyed}{n:Nat}{s:Cl}
theorem qy{n k:Nat}(h:k < n):((List.range n).toArray).getD k 0=k:=by
 simp[Array.getD,h]
theorem qJ{G:Nat->Cl->Prop}(hc:∀ i C,1<=i->i < n->C false s->kas_cmp prog w A κ it i (i - 1) C s):∀ (f m:Nat),1<=m->m+f=n->G n s->KasT.kasWp (kas_cmp prog w A κ it) (kas_asc (List.range n).toArray f m) G s
 | 0,m,h1,h2,h=>by
  have:m=n:=by cbv
  subst this;exact h
 | f+1,m,h1,h2,h=>by
  change kas_cmp prog w A κ it (((List.range n).toArray).getD m 0) (((List.range n).toArray).getD (m - 1) 0) _ s;rw[qy (by cbv),qy (by cbv)];exact hc m _ h1 (by cbv) (qJ hc f (m+1) (by cbv) (by cbv) h)
theorem wK{Q:Unit->SortSt->Cl->Prop}(h2:2<=n)(hc:∀ i C,1<=i->i < n->C false s->kas_cmp prog w A κ it i (i - 1) C s)(hQ:∀ st',arrOf st'=Array.map (kas_item it) (List.range n).toArray->failedOf st'=none->Q Unit.unit st' s):kasC (model prog w) A E sortRuns' Q (kas_st κ it (List.range n).toArray) s:=by
 obtain⟨r,rfl⟩:∃ r,n=r+2:=#[n - 2,by cbv];have hrs:(List.range (r+2)).toArray.size=r+2:=by simp
 rw[sortRuns'_eq];show kasC_bind (kasC_get ?_);have hsz:(arrOf (kas_st κ it (List.range (r+2)).toArray)).size=r+2:=by
  change (Array.map _ _).size=_;rw[Array.size_map,hrs]
 have SH:=HA h2;change kasC _ _ _ (_ >>= _) _ _ _;simp only[hsz];show kasC_bind (kasC_range ?_);rw[show r+2 - 0=r+2 from U,X2];show kasC_cons ?_;rw[if_neg (by simp)];show kasC_bind (kas_count_ (G:=λq s'=>q=(r+2,(List.range (r+2)).toArray)/\s'=s) (by simp) (by rw[hrs];simp) (λm p' s' h3 h4 h5 h6=>?_) ?_)
 .let(h6,rfl):=h6;injection h6 with h6 h7;subst h6;subst h7;dsimp only;rw[if_neg (by cbv)];show kasC_bind (kasC_get ?_);change kasC _ _ _ _ _ _ _;show kasC_bind (kasC_modify ?_);show kasC_pure ?_;dsimp only;rw[X2];show kasC_cons ?_;rw[if_pos (by simp)];show kasC_pure ?_;dsimp only;show kasC_bind (kasC_range ?_);rw[show r+2 - 0=r+2 from U,X2];show kasC_cons (kasC_bind (kasC_get ?_));rw[if_pos (by exact VB 1)];show kasC_pure ?_;dsimp only;exact kasC_pure (hQ _ U U)
 .show KasT.kasWp _ (kas_count (r+2) _) _ _;unfold kas_count;rw[KasT.kasWp_bind];show qJ hc (r+2 - 1) 1 (VB 1) (by cbv) ?_;rw[if_pos (by simp)];exact#[U,U]
end
section
variable{prog:Fk}{w:FB}{A:Fr}{E:Yb}{s:Cl}
def TN(prog:Fk)(w:FB)(h:Db)(ks:!Int)(v:AC):Prop:=∃ a,v=.ref a/\ks≠[]/\IsTupleKey (intKind prog w) h ks a
theorem TN.keep{h h':Db}{ks:!Int}{v:AC}(x:TN prog w h ks v)(k:∀ b o,o.cls=.type "tuple"->h.get? b=some o->h'.get? b=some o):TN prog w h' ks v:=by
 let(a,e,hn,o,it,n,h1,h2,h3):=x;exact#[a,e,hn,o,it,n,k a o h2 h1,h2,h3]
def MG(fin:Bool):!(Int×Int)->Bool
 | []=>fin
 | p::r=>if p.1=p.2 then MG fin r else decide (p.1 < p.2)
theorem Dv{fin:Bool}{Q:Bool->Cl->Prop}:∀ (xs ys:!AC) (ks ls:!Int) (i:Nat),ItemsAre (intKind prog w) ks xs->ItemsAre (intKind prog w) ls ys->Q (MG fin (ks.zip ls)) s->KatLex prog w A true fin Q (xs.zip ys) i s
 | [],_,ks,_,_,h,_,q=>by
  cases h;rw[List.zip_nil_left];exact q
 | _::_,[],ks,ls,_,_,h,q=>by
  cases h;rw[List.zip_nil_right] at q ⊢;exact q
 | x::xs,y::ys,_,_,i,.cons (k:=k) h1 h2,.cons (k:=l) g1 g2,q=>by
  rw[XI] at q ⊢;show kat_cons ((intKind prog w).eqBool h1 g1 (kat_go (λe=>kat_yes (Dv xs ys _ _ (i+1) h2 g2 ?_)) λe=>kat_no ?_))
  .rw[MG,if_pos (of_decide_eq_true e)] at q;exact q
  .rw[MG,if_neg (of_decide_eq_false e)] at q;let(t,rfl):=AC.isInt_shape (show AC.isInt _ x=true from h1);let(u,rfl):=AC.isInt_shape (show AC.isInt _ y=true from g1);cases hi:(i == 0) with
   | true=>exact oneLt_int q
   | false=>exact kat_one _ _ (PyProof.Rows.lt_int q)
def y6(ks ls:!Int):Prop:=MG (decide (ks.length < ls.length)) (ks.zip ls)=false
theorem nu:∀ {ks:!Int} {vs:!AC},ItemsAre (intKind prog w) ks vs->ks.length=vs.length
 | _,_,.nil=>rfl
 | _,_,.cons _ h=>by rw[VD,VD,nu h]
theorem N9{x y:AC}{ks ls:!Int}{Q:Bool->Cl->Prop}(hx:TN prog w s.heap ks x)(hy:TN prog w s.heap ls y)(hn:y6 ks ls)(q:Q false s):Da (model prog w) A (keyLt' (tuples' true) x y) Q E s:=by
 let(a,rfl,_,o,it,n,h1,_,h3,h4):=hx;let(b,rfl,_,o',it',n',g1,_,g3,g4):=hy;show kat_lt h1 h3 g1 g3 (Dv _ _ _ _ 0 h4 g4 ?_);have e1:ks.length=it.size:=(nu h4).trans (Wd);have e2:ls.length=it'.size:=(nu g4).trans (Wd);rw[<- e1,<- e2];unfold y6 at hn;rw[hn];exact q
theorem CN:∀ (vs:!AC),(∀ v∈vs,∃ ks,TN prog w s.heap ks v)->∃ fs,KatTups s.heap vs fs/\fs.length=vs.length/\∀ f∈fs,∃ i t,f=.int i t
 | [],_=>#[[],.nil,U,λf h=>absurd h (by simp)]
 | v::vs,h=>by
  let(fs,h1,h2,h3):=CN vs λu hu=>h u (Vy _ hu);let(ks,a,rfl,hn,o,it,n,g1,g2,g3,g4):=h v (Vx ..);cases g4':it.toList with
  | nil =>
   rw[g4'] at g4;cases g4;exact absurd U hn
  | cons f r =>
   rw[g4'] at g4;cases g4 with
   | cons q1 q2 =>
    let(t,rfl):=AC.isInt_shape (show AC.isInt _ f=true from q1);show#[_::fs,.cons g1 g2 g3 (by rw[<- Array.getElem?_toList,g4'];rfl) h1,by simp[h2],λf hf=>?_];rcases VG.mp hf with rfl | hf
    .exact#[_,_,U]
    .exact h3 f hf
theorem G5{a:AT}{vs:!AC}{kss:!(!Int)}{n:Nat}{P:PySem.Fin->Cl->Prop}(ho:s.heap.get? a=some (seqObj "list" vs.toArray n))(hl:kss.length=vs.length)(hT:∀ (i:Nat) v ks,vs[i]?=some v->kss[i]?=some ks->TN prog w s.heap ks v)(hS:∀ (i:Nat) ks ls,kss[i+1]?=some ks->kss[i]?=some ls->y6 ks ls)(hz:vs.length < 9900)(h:∀ (c:Nat) (h':Db),h'.get? a=some (seqObj "list" vs.toArray c)->(∀ b o,b≠a->s.heap.get? b=some o->h'.get? b=some o)->P (.done (.ret .none)) { s with heap:=h' }) :
  Da (model prog w) A (FM.«list.sort» #[[.ref a],[]]) P E s:=by
 have ha:a < ↑s:=VL ho;have s1:=WR s.heap a (Obj.mapSeq λ_=>(#v[]:Array AC));obtain⟨e1,ho1⟩:∃ e1,(s.heap.update a (Obj.mapSeq λ_=>(#v[]:Array AC))).get? a=some (seqObj "list" #v[] e1):=#[_,get?_update_seq ho λ_=>#v[]];rw[list_sort_plain];show BT (listItems_at ho U ?_);show BT (listUpdate_at ho U ?_ (by rw[VQ,sizeLine_eq];cbv) (VT _));show BT (seqEpoch_at ho1 U ?_);show BT (wpAny_newTuple ?_ (by change vs.length<=_;rw[sizeLine_eq];cbv));show BT (wpAny_newList ?_ (VT _));show KK ?_;generalize hg:((s.heap.update a (Obj.mapSeq λ_=>(#v[]:Array AC))).push (seqObj "tuple" vs.toArray 0)).push (seqObj "list" #v[] 0)=h3;have hk3:∀ b o,b≠a->s.heap.get? b=some o->h3.get? b=some o:=λb o hb e=>by
  rw[<- hg];exact Vz _ (Vz _ ((s1.2 b hb).trans e))
 have ho3:h3.get? a=some (seqObj "list" #v[] e1):=by
  rw[<- hg];exact Vz _ (Vz _ ho1)
 have hT3:∀ (i:Nat) v ks,vs[i]?=some v->kss[i]?=some ks->TN prog w h3 ks v:=λi v ks hv hk=>(hT i v ks hv hk).keep λb o hc e=>hk3 b o (λz=>by rw[z,ho] at e;cases e;exact absurd (show AC.type "list"=AC.type "tuple" from hc) ()) e;have upd:∀ us:!AC,∃ c2,(h3.update a (Obj.mapSeq λ_=>us.toArray)).get? a=some (seqObj "list" us.toArray c2):=λus=>#[_,get?_update_seq ho3 λ_=>us.toArray];have keeps:∀ us:!AC,∀ b o,b≠a->s.heap.get? b=some o->(h3.update a (Obj.mapSeq λ_=>us.toArray)).get? b=some o:=λus b o hb e=>((WR h3 a _).2 b hb).trans (hk3 b o hb e);dsimp only;by_cases h2:vs.length < 2
 .rw[if_pos (by simpa using h2)];show BT (EQ ?_);rw[if_pos (by simpa using h2)];show BT (EQ (a:=(Unit.unit,SortSt.mk' general' (vs.toArray.zip vs.toArray) #v[] 7 none)) ?_);dsimp only;have hout:(arrOf (SortSt.mk' general' (vs.toArray.zip vs.toArray) #v[] 7 none)).map (·.2)=vs.toArray:=by
   change (vs.toArray.zip vs.toArray).map (·.2)=vs.toArray;apply Array.toList_inj.mp;rw[Array.toList_map,Array.toList_zip,List.toList_toArray];exact List.map_snd_zip (VB _)
  rw[hout];let(c2,hc2):=upd vs;show BT (seqEpoch_at (s:={ s with heap:=h3 }) ho3 U ?_);show BT (listUpdate_at (s:={ s with heap:=h3 }) ho3 U ?_ (VT _) (by rw[VQ,sizeLine_eq];cbv));simp only[bne_self_eq_false,Bool.false_eq_true,if_false];exact EQ (h c2 _ hc2 (keeps vs))
 .rw[if_neg (by simpa using h2)];have at_k:∀ {i:Nat},i < vs.length->∃ v ks,vs[i]?=some v/\kss[i]?=some ks:=λ{i} hi=>#[vs[i],kss[i],VO hi,VO (by cbv)];let(fs,f1,f2,f3):=CN (prog:=prog) (w:=w) (s:={ s with heap:=h3 }) vs λv hv=>by
   let(i,hi,rfl):=Wh hv;exact#[kss[i],hT3 i _ _ (VO hi) (VO (by cbv))]
  show BT (kat_kind (s:={ s with heap:=h3 }) (T:=.type "int") f1 (by cbv) (λv hv=>?_) () ?_)
  .let(i,t,rfl):=f3 v hv;exact Looks.of_pure U
  rw[show (AC.type "int" != AC.type "tuple")=true by decide];rw[if_neg (by simpa using h2)];have est:SortSt.mk' (tuples' true) (vs.toArray.zip vs.toArray) #v[] 7 none=kas_st (tuples' true) (vs.toArray.zip vs.toArray) (List.range vs.length).toArray:=by
   unfold kas_st
   congr 1
   have hr:=(kas_range (vs.toArray.zip vs.toArray)).symm;rw[show (vs.toArray.zip vs.toArray).size=vs.length by simp] at hr;exact hr
  rw[est];show BT (KM (wK (s:={ s with heap:=h3 }) (E:=E) (Q:=λ_ st' s'=>s'={ s with heap:=h3 }/\arrOf st'=Array.map (kas_item (vs.toArray.zip vs.toArray)) (List.range vs.length).toArray/\failedOf st'=none) (by cbv) (λi C hi1 hi2 q=>?_) λst' q1 q2=>#[U,q1,q2]) ?_ λ_ _ e=>e)
  .rw[<- kat_ask_eq U];let(v,ks,x1,x2):=at_k hi2;let(u,ls,y1,y2):=at_k (i:=i - 1) (by cbv);have gd:∀ {i:Nat} {v:AC},vs[i]?=some v->vs.getD i AC.none=v:=λ{i v} e=>by rw[WS,e];rfl
   change Da _ _ (keyLt' _ (vs.getD i AC.none) (vs.getD (i - 1) AC.none)) _ _ _;rw[gd x1,gd y1];show N9 (s:={ s with heap:=h3 }) (hT3 i _ _ x1 x2) (hT3 (i - 1) _ _ y1 y2) (hS (i - 1) ks ls ?_ y2) q;rw[show i - 1+1=i by cbv];exact x2
  .rintro⟨⟨⟩,st'⟩ s' ⟨rfl,har,hf⟩;dsimp only;have hout:=kat_snds U har;have hid:((List.range vs.length).toArray.toList.map λi=>vs.getD i AC.none)=vs:=by
    apply Xc;intro i;rw[V0];by_cases hi:i < vs.length
    .simp[hi]
    .simp[hi]
   rw[hid] at hout;rw[hout];let(c2,hc2):=upd vs;show BT (seqEpoch_at (s:={ s with heap:=h3 }) ho3 U ?_);show BT (listUpdate_at (s:={ s with heap:=h3 }) ho3 U ?_ (VT _) (by rw[VQ,sizeLine_eq];cbv));rw[hf];simp only[bne_self_eq_false,Bool.false_eq_true,if_false];exact EQ (h c2 _ hc2 (keeps vs))
end
end ST
namespace L2
open PySem PySem.Calls PyProof.Rows PyProof.V PySem.Spec
def AH(w:FB)(b:AT)(n:Nat):HO:=.ext λh=>∃ o,h.get? b=some o/\ST.Ts (ST.qj w) (λ_=>True) o n
structure CD(H:Hp)(xs:!V)(gK:!(!Int)):Prop where
 ln:xs.length=gK.length
 it:∀ (i:Nat) x ns,xs[i]?=some x->gK[i]?=some ns->∃ q,x=.ref q/\ns≠[]/\H q=some (.tup (ns.map V.int))
section
variable{X:Cx}
theorem items_int{P:Fk}{w:FB}:∀ {ns:!Int} {us:!AC},Vals (ns.map V.int) us->ItemsAre (intKind P w) ns us
 | [],us,h=>by
  cases h;exact .nil
 | n::ns,us,h=>by
  cases h with
  | cons r t =>
   let(k,rfl):=r;exact .cons (intKind_is _ _ _ _) (items_int t)
theorem zH:∀ {xs:!V} {us:!AC} {i:Nat} {u:AC},Vals xs us->us[i]?=some u->∃ x,xs[i]?=some x/\RelV x u
 | _,_,i,u,.nil,h=>by cases h
 | _,_,0,u,.cons r t,h=>by
  cases h;exact#[_,U,r]
 | _,_,i+1,u,.cons r t,h=>zH (i:=i) t (by simpa using h)
theorem CD.tn{TD:Yc}{σ:St}{H:Hp}{s:Cl}{xs:!V}{us:!AC}{gK:!(!Int)}(I:Inv X TD σ H s)(h:CD H xs gK)(rv:Vals xs us){i:Nat}{u:AC}{ns:!Int}(hu:us[i]?=some u)(hn:gK[i]?=some ns):ST.TN X.prog X.w s.heap ns u:=by
 let(x,hx,r):=zH rv hu;let(q,rfl,he,hq):=h.it i x ns hx hn;let(_,its,rv,o,ho,hc,n,hd):=(show b6 X.prog X.w H s.heap q (.tup (ns.map V.int)) from I.aZ q _ hq);exact#[q,r,he,o,its.toArray,n,ho,hc,hd,by simpa using items_int rv]
def Di(w:FB):!V->Hp->VK->Prop:=λvs H Q=>∃ p xs gK,vs=[.ref p]/\H p=some (.lst xs)/\CD H xs gK/\gK.Nodup/\xs.length < 9900/\∀ b,H b=none->Q (.ref b) (upd H b (AH w b xs.length))
theorem Av(hc:X.calm=true)(hu:X.A.units+3 < cLine):cT X (.type "set") (Di X.w):=by
 intro TD s σ H vs us Q I r h;let(p,xs,gK,rfl,hp,ht,fO,hl,q):=h;let(u,rfl,ru):=vals1 r;cases ru;let(_,its,n,rv,hlen,ho):=I.rL hp;have hk:∀ {i:Nat} {v:AC},its[i]?=some v->∃ ns,gK[i]?=some ns/\ST.TN X.prog X.w s.heap ns v:=λ{i v} e=>by
  have hi:i < gK.length:=by rw[<- ht.ln,hlen];exact (VC.mp e).1
  exact#[gK[i],VO hi,ht.tn I rv e (VO hi)]
 show ST.BI (items:=its.toArray) (I.ok.hd hc) hu #[_,ho,U,n,U] (λv hv=>?_) (λi j v u hij hv hu' ks k1 k2=>?_) (by rw[VQ,<- hlen];exact hl) λh' tk o h1 h2 h5=>?_
 .let(i,hi,rfl):=Wh (show v∈its from hv);let(ns,_,a,e,_,g):=hk (VO hi);exact#[ns,a,e,g]
 .let(n1,e1,a1,f1,_,g1):=hk (show its[i]?=some v from by simpa using hv);let(n2,e2,a2,f2,_,g2):=hk (show its[j]?=some u from by simpa using hu');have q1:=k1.one (#[a1,f1,g1]:ST.vh X.prog X.w s.heap n1 v);have q2:=k2.one (#[a2,f2,g2]:ST.vh X.prog X.w s.heap n2 u);subst q1;subst q2;let(b1,c1):=VC.mp e1;let(b2,c2):=VC.mp e2;exact WG.mp fO i j b1 b2 hij (c1.trans c2.symm)
 .refine#[.ref ↑s,_,I.laid (t':=tk) (o:=AH X.w ↑s xs.length) (λb u e=>h5 b u (VL e) e) (VB _) ?_,U,q _ (I.aZ.fresh (VB _))];show#[#[o,h1,?_],#[o,h1],λg1 g2 #[o',e1,e2] k=>#[o',k o' e1,e2]];let(es,ep,t,e1,e2,e3,e4,e5,e6):=h2.ex;exact#[es,ep,t,e1,e2,e3,e4,by rw[e5,VQ,hlen],λe he=>trivial]
def CB(w:FB):!V->Hp->VK->Prop:=λvs H Q=>∃ b n,vs=[.ref b]/\H b=some (AH w b n)/\n < 9900/\Q (.int n) H
theorem AS:cT X (.builtin "len") (CB X.w):=by
 intro TD s σ H vs us Q I r h;let(b,n,rfl,hb,hn,q):=h;let(u,rfl,ru):=vals1 r;cases ru;let((o,h1,h2),_):=(show b6 X.prog X.w H s.heap b (AH X.w b n) from I.aZ b _ hb);let(es,ep,t,rfl,e2,e3,e4,rfl,e6):=h2.ex;exact call_len_set h1 #[U,U,U] rfl e2.fits (by cbv) #[.int es.size,H,I.tok _,#[_,U],q]
def LC(gK:!(!Int)):Prop:=∀ (i:Nat) ks ls,gK[i+1]?=some ks->gK[i]?=some ls->ST.y6 ks ls
def yc:!V->Hp->VK->Prop:=λvs H Q=>∃ p xs gK,vs=[.ref p]/\H p=some (.lst xs)/\CD H xs gK/\LC gK/\xs.length < 9900/\∀ b,H b=none->Q (.ref b) (upd H b (.lst xs))
theorem uW:cT X (.builtin "sorted") yc:=by
 intro TD s σ H vs us Q I r h;let(p,xs,gK,rfl,hp,ht,hS,hl,q):=h;let(u,rfl,ru):=vals1 r;cases ru;let(_,its,n,rv,hlen,ho):=I.rL hp;show Calls.call_function_entry kind_sorted plain_sorted entry_sorted (args_sorted1 _) ?_;unfold FM.«sorted»;show BT (m:=checkCount "sorted" 1 1 _) (EQ ?_);show BT (collect_list (vs:=its) #[_,ho,U,n,U] ?_ (by rw[<- hlen,sizeLine_eq];cbv));generalize hh:(s.heap.push (seqObj "list" #v[] 0)).update ↑s (Obj.mapSeq λx=>x++its.toArray)=h';have hk:∀ b o,s.heap.get? b=some o->h'.get? b=some o:=λb o e=>by
  rw[<- hh,Wq _ _ (W7 (VL e))];exact Vz _ e
 show BT (wpAny_newList ?_ (by rw[<- hlen,sizeLine_eq];cbv));have I1:Inv X TD σ H { s with heap:=h' }:=I.kept (t':=s.toks) hk;have hD:(h'.push { cls:=.type "list",data:=.seq its.toArray }).get? h'.objs.size=some (seqObj "list" its.toArray 0):=VP _ U;show BT (KK (Ps slot_list_sort #[_,hD,U] entry_list_sort (ST.G5 (prog:=X.prog) (w:=X.w) (kss:=gK) hD (by rw[<- ht.ln,hlen]) (λi v ks hv hks=>(ht.tn I1 rv hv hks).keep λb o _ e=>Vz _ e) hS (by rw[<- hlen];exact hl) λc h2 g3 g4=>?_) (args_list_sort _)));exact#[_,U,EQ #[_,U,.ref h'.objs.size,_,I1.laid (t':=s.toks) (o:=.lst xs) (λb u e=>g4 b u (VW (VL e)) (Vz _ e)) (VB _) (show b6 X.prog X.w _ h2 _ (.lst xs) from #[by rw[sizeLine_eq];cbv,its,c,rv,g3]),U,q _ (I1.aZ.fresh (VB _))]]
end
end L2
namespace DL
open PySem PySem.Spec L2
open PyProof.Rows hiding St
section
variable{K:Frag}{H:Hp}{M:AT->Prop}
def Ai(ns:!Int):D:=.tup (ns.map .int)
theorem tZ:∀ {ns:!Int} {vs:!V},ay K H M (ns.map .int) vs->vs=ns.map V.int
 | [],vs,h=>h
 | n::ns,vs,h=>by
  let(x,r,rfl,h1,h2):=h;have h1:x=.int n:=h1;rw[h1,tZ h2]
  rfl
theorem mJ:∀ {gK:!(!Int)} {xs:!V},ay K H M (gK.map Ai) xs->(∀ ns∈gK,ns≠[])->CD H xs gK
 | [],xs,h,_=>by
  have h:xs=[]:=h;subst h;exact#[U,λi x ns h=>by cases h]
 | ns::gK,xs,h,hn=>by
  let(y,r,rfl,h1,h2):=h;let(g1,g2):=mJ h2 λz hz=>hn z (Vy _ hz);show#[by rw[VD,VD,g1],λi x ms hx hm=>?_];cases i with
  | zero =>
   cases hx;cases hm;let(a,vs,e,(_,t),rr):=h1;exact#[a,e,hn _ Vx,by rw[t,tZ rr]]
  | succ i=>exact g2 i x ms (by simpa using hx) (by simpa using hm)
end
section
variable{X:Cx}{c:Ent}
def PH(te:aV):aV:=λs Q=>te s λd s1=>∃ gK:!(!Int),d=.lst (gK.map Ai)/\((∀ ns∈gK,ns≠[])/\gK.Nodup/\gK.length < 9900)/\Q (.int gK.length) s1
theorem La{e:Ch}{te:aV}(h:PE X e (FE (CB X.w) (nX (FE (Di X.w) (nX (tE X.K c te) xB)) xB))):DE X c e (PH te):=#[h.imp λσ H Q zz=>dq zz λM s as R L q k =>
 #[M,s,as,_,L,q,λd s1 z9r M1 H1 v L1 E1 rv=>by
  let(gK,e,(hn,hd,hl),q1):=z9r;subst e;let(p,xs,rfl,(m,hp),r):=rv;have hx:xs.length=gK.length:=by rw[r.length,Vv]
  show#[p,xs,gK,U,hp,mJ r hn,hd,by cbv,λb hb=>?_];have L2':=L1.laid (o:=AH X.w b xs.length) hb;have E2:Ext c as M1 s1 H1 M1 s1 (upd H1 b (AH X.w b xs.length)):=Ext.laid hb;show#[b,xs.length,U,aA,by cbv,?_];rw[hx] at L2' E2 ⊢;exact k _ s1 q1 M1 _ _ L2' (E1.trans L1.base E2) U]]
def IZ(te:aV):aV:=λs Q=>te s λd s1=>∃ gK:!(!Int),d=.lst (gK.map Ai)/\((∀ ns∈gK,ns≠[])/\LC gK/\gK.length < 9900)/\Q (.lst (gK.map Ai)) s1
theorem Ht{e:Ch}{te:aV}(h:PE X e (FE yc (nX (tE X.K c te) xB))):DN X c e (IZ te):=#[h.imp λσ H Q zz=>dq zz λM s as R L q k =>
 #[M,s,as,_,L,q,λd s1 z0r M1 H1 v L1 E1 rv=>by
  let(gK,e,(hn,hd,hl),q1):=z0r;subst e;let(p,xs,rfl,(m,hp),r):=rv;have hx:xs.length=gK.length:=by rw[r.length,Vv]
  show#[p,xs,gK,U,hp,mJ r hn,hd,by cbv,λb hb=>?_];exact gU L L1 E1 hb (d:=.lst (gK.map Ai)) (show cz X.K _ _ (.lst _) (.lst _) from r) (k _ s1 q1)]]
def JL(to:aV)(t:fW):aV:=λs Q=>to s λa s1=>∃ z,a=.str z/\t s1 λds s2=>∃ y,ds=[.str y]/\(y.length == 0)=false/\z.length+2<=Ev/\(Txt.split z y).length<=Ev/\Q (.lst ((Txt.split z y).map .str)) s2
theorem FY{o e:Ch}{es:!Ch}{to:aV}{t:fW}{apos bV:Pos}(ho:DE X c o to)(ha:DA X c (e::es) t)(gf:(attributeBase o "split" X.env (eval o X.env)=eval o X.env)⁻¹)(qf:(((Go bV (GE (e::es) X.env)).all (λx=>(not x.1))&&(Rs bV (SL [] X.env)).all (λx=>x.1.isSome)
   && decide ((e::es).length+([]:!NE).length+(if ([]:!NE).isEmpty then 0 else 1) < 30))=true)⁻¹)(fz:((apos.endLine == bV.line)=true)⁻¹)(hs:(Ye X.env e es)⁻¹)(f9:((Go bV (GE es X.env)).any (·.1)=false)⁻¹) :
  DN X c (.Call (.Attribute o "split" apos) (e::es) [] bV) (JL to t):=#[(zy XX Xn PySem.F.type_str_split Fe ho.pe ha.pa gf qf fz hs f9).imp λσ H Q zz=>dq zz λM s as R L q kk=>by
 show#[M,s,as,_,L,q,λd s1 z M1 H1 v L1 E1 rv=>?_];let(z,rfl,q1):=z;cases (show v=.str z from rv);show#[U,M1,s1,as,_,L1,q1,λds s2 y M2 H2 vs Lb E2 rvs hl=>?_];let(y,rfl,h1,h2,h3,q2):=y;let(u,rfl,e):=cV rvs;cases (show u=.str y from e);exact#[z,y,U,U,h1,h2,h3,λp hp=>gU (d:=.lst _) L Lb (E1.trans L1.base E2) hp (mO _) (kk _ s2 q2)]]
def FN(to:aV)(t:fW):aV:=λs Q=>to s λa s1=>∃ z,a=.str z/\t s1 λds s2=>∃ y,ds=[.str y]/\Q (.bl (Txt.startswith z y)) s2
theorem CC{o e:Ch}{es:!Ch}{to:aV}{t:fW}{apos bV:Pos}(ho:DE X c o to)(ha:DA X c (e::es) t)(gf:(attributeBase o "startswith" X.env (eval o X.env)=eval o X.env)⁻¹)(qf:(((Go bV (GE (e::es) X.env)).all (λx=>(not x.1))&&(Rs bV (SL [] X.env)).all (λx=>x.1.isSome)
   && decide ((e::es).length+([]:!NE).length+(if ([]:!NE).isEmpty then 0 else 1) < 30))=true)⁻¹)(fz:((apos.endLine == bV.line)=true)⁻¹)(hs:(Ye X.env e es)⁻¹)(f9:((Go bV (GE es X.env)).any (·.1)=false)⁻¹) :
  DE X c (.Call (.Attribute o "startswith" apos) (e::es) [] bV) (FN to t):=#[(zy XX PySem.F.slot_str_startswith PySem.F.type_str_startswith AV ho.pe ha.pa gf qf fz hs f9).imp λσ H Q zz=>dq zz λM s as R L q kk=>by
 show#[M,s,as,_,L,q,λd s1 z M1 H1 v L1 E1 rv=>?_];let(z,rfl,q1):=z;cases (show v=.str z from rv);show#[U,M1,s1,as,_,L1,q1,λds s2 y M2 H2 vs Lb E2 rvs hl=>?_];let(y,rfl,q2):=y;let(u,rfl,e):=cV rvs;cases (show u=.str y from e);exact#[z,y,U,U,kk _ s2 q2 M2 H2 _ Lb (E1.trans L1.base E2) U]]
end
open PySem.Builtin.Str
theorem As(l:!Nat):∀ m:Nat,(List.range m).filterMap (λk=>l[k]?)=l.take m
 | 0=>rfl
 | m+1=>by
  rw[List.range_succ,List.filterMap_append,As l m,List.take_succ];rw[Xi];cases l[m]?<;>rfl
theorem IA{l:!Nat}{u:Option Int}{i m:Nat}(h:strSliceIndices (some (i:Int)) u 1 l.length=(List.range m).map (·+i))(hm:i+m<=l.length):Txt.slice (cD l) (some (i:Int)) u=cD ((l.drop i).take m):=by
 unfold Txt.slice;rw[cX,h];split
 .rename_i e
  have e2:m=l.length:=by simpa using e
  have e3:i=0:=by cbv
  subst e3;rw[Xp,List.take_of_length_le (by cbv)]
 .refine d3 ?_;change ((List.range m).map (·+i)).filterMap (l.toArray[·]?)=_;rw[List.filterMap_map];rw[show ((l.toArray[·]?)∘(·+i))=λk=>(l.drop i)[k]? from funext λk=>by simp[Nat.add_comm]];rw[As]
theorem BL{a b:Nat}(h:a<=b):sliceRange (a:Int) (b:Int) 1=(List.range (b - a)).map (·+a):=by
 have hc:(if (a:Int) < (b:Int) then ((b:Int) - a+1 - 1) / 1 else 0).toNat=b - a:=by
  split
  .rw[Int.ediv_one];cbv
  .cbv
 change (List.range (if (a:Int) < (b:Int) then ((b:Int) - a+1 - 1) / 1 else 0).toNat).map (λ(k:Nat)=>((a:Int)+1 * (k:Int)).toNat)=_;rw[hc];show WQ λk _=>?_;cbv
theorem O7{l:!Nat}{i:Nat}(hi:i<=l.length):Txt.slice (cD l) (some (i:Int)) none=cD (l.drop i):=by
 rw[IA (m:=l.length - i) ?_ (by cbv),List.take_of_length_le (by simp)];change sliceRange (max 0 (min (i:Int) (l.length:Nat))) ((l.length:Nat):Int) 1=_;rw[show max 0 (min (i:Int) ((l.length:Nat):Int))=(i:Int) by cbv];exact BL hi
theorem N7{l:!Nat}{i j:Nat}(hi:i<=l.length)(hj:i<=j):Txt.slice (cD l) (some (i:Int)) (some (j:Int))=cD ((l.drop i).take (j - i)):=by
 rw[IA (m:=min j l.length - i) ?_ (by cbv)]
 .rw[List.take_eq_take_iff.mpr (show min (min j l.length - i) (l.drop i).length=min (j - i) (l.drop i).length by rw[WU];cbv)]
 .show sliceRange (max 0 (min (i:Int) (l.length:Nat))) (max 0 (min (j:Int) ((l.length:Nat):Int))) 1=_;rw[show max 0 (min (i:Int) ((l.length:Nat):Int))=(i:Int) by cbv,show max 0 (min (j:Int) ((l.length:Nat):Int))=((min j l.length:Nat):Int) by cbv];exact BL (by cbv)
theorem starts_pre{a b:!Nat}(h:b <+: a):Txt.startswith (cD a) (cD b)=true:=by
 let(c,rfl):=h;unfold Txt.startswith subAt;rw[cX,cX,decide_eq_true (by simp),Bool.true_and];have e:(cD (b++c)).cps.extract 0 (0+b.length)=(cD b).cps:=by
  apply Array.toList_inj.mp;simp
 rw[e];simp
end DL
namespace DL
open PySem L2
section
variable{X:Cx}{c:Ent}{a b e:Ch}{pos:Pos}{ta tb tc:aV}
def zY(C C':D->D->(D->Prop)->Prop)(ta tb tc:aV):aV:=λs Q=>ta s λa s1=>tb s1 λb s2=>C a b λd=>∃ k,d=.bl k/\if k=true then tc s2 λe s3=>C' b e λz=>Q z s3 else Q (.bl false) s2
theorem Lx{r r':R2}{C C':D->D->(D->Prop)->Prop}(k:nF X c r C)(k':nF X c r' C'){σ:St}{H:Hp}{Q:VK}:tE X.K c (zY C C' ta tb tc) σ H Q->CZ r r' (tE X.K c ta) (tE X.K c tb) (tE X.K c tc) σ H Q:=λzz=>dq zz λM s as R L q kk =>
 #[M,s,as,_,L,q,λda s1 q1 M1 H1 x L1 E1 r1=>#[M1,s1,as,_,L1,q1,λdb s2 q2 M2 H2 y Lb E2 r2 =>
  k M2 s2 as σ H2 x y da db _ _ Lb (E2.rep L1 r1) r2 q2 λd rd M' H' v L' E' rv=>by
   let(kb,rfl,rd):=rd;show#[kb,rv,?_];have E4:=(E1.trans L1.base E2).trans Lb.base E';cases kb with
   | false=>exact kk (.bl false) s2 rd M' H' _ L' E4 U
   | true=>exact#[M',s2,as,_,L',rd,λde s3 q3 M3 H3 w Lc E3 r3=>k' M3 s3 as σ H3 y w db de (λd=>R d s3) Q Lc (E3.rep L' (E'.rep Lb r2)) r3 q3 λd rd M4 H4 v L4 E5 rv=>kk d s3 rd M4 H4 v L4 ((E4.trans L'.base E3).trans Lc.base E5) rv]]]
theorem Fj{op KD:CmpOp}{r r':R2}{C C':D->D->(D->Prop)->Prop}(ho:ja X (KB op) r)(BN:ja X (KB KD) r')(k:nF X c r C)(k':nF X c r' C')(ha:DE X c a ta)(hb:DE X c b tb)(hc:DE X c e tc)(hm:lastMarks [op,KD] [b,e]=false:=by with_unfolding_all rfl):DT X c (.Compare a [op,KD] [b,e] pos) (Ku (zY C C' ta tb tc)):=#[(EW ho BN ha.pe hb.pe hc.pe hm).imp λ_ _ _=>jK (Lx k k')]
end
end DL
namespace DL
open PySem PySem.Spec L2
open PyProof.Rows hiding St
section
variable{X:Cx}{c:Ent}{q:D3}{k m:Nat}{t:Yd}{x:Str}{p pos:Pos}{e ex:Ch}{te:aV}
def FI(t:Yd)(i:Nat):aV:=λs Q=>∃ k d1,s.sl[i]?=some (.own k)/\s.os[k]?=some (some d1)/\t [d1] λd=>Ey d=true/\Q d s
theorem B9{i:Nat}(hr:dE m X.A)(G:C4 X.prog X.w X.K X.mg X.base aQ q k (cg X.K .no t))(hx:PE X ex (bG i))(hq:(q.1=x)⁻¹)(hk:k<=m:=by ac_rfl)(hg:(Gl X x)⁻¹)(kg: ~~~(Yg x))(hs:(GE [ex] X.env=[(false,eval ex X.env)])⁻¹)(g6:((Go pos (GE [] X.env)).any (·.1)=false)⁻¹) :
  DE X c (.Call (.Name x p) [ex] [] pos) (FI t i):=by
 subst hq;let(f,fd,F,F0,hm,hb):=G;exact#[(jV F (hr.mono hk) hg hm F0.kp hb .nil (E:=E0) tF (cq hx d6 hs) kg hs g6).imp λσ H Q zz=>dq zz λM s as R L1 q kk=>by
  let(k,d1,g1,g2,q1):=q;let(a,o,h1,h2,h3,h4):=L1.slot g1 g2;have nM:¬ M a:=(L1.obj k d1 a g2 h1).2.1;have nt:∀ xs,o≠.tup xs:=λxs z=>by subst z;exact h4.Az
  have mk:∀ b u,M b->H b=some u->H b=some u:=λ_ _ _ e=>e;show#[_,h2,λb=>M b\/b=a,[d1],_,#[trivial,λ_ _ e _=>e,λb m=>?_,λ_ _ h=>h,λ_ m=>m,λ_ m=>.inl m],ay.one ((h4.mono (λ_ m=>.inl m) mk).rep h3 (.inr U)),q1,λd #[td,rd] M' H' v B rv=>?_]
  .rcases m with m | rfl
   .exact L1.base.md b m
   .exact#[o,h3]
  .have ha:H' a=some o:=B.fr a o h3 λz=>z;have B3:Base #[.no,M,H] (λb=>M' b/\b≠a) H':=#[trivial,B.fr,λb m=>B.md b m.1,λ_ _ h=>h,λb m=>#[B.m0 b (.inl m),λz=>nM (z▸m)],λb m=>by
    rcases B.mn b m.1 with z | z
    .rcases z with z | z
     .exact .inl z
     .exact absurd z m.2
    .exact .inr z]
   exact kk d s rd _ H' v (L1.after (L1.base.pS B3)) (Ext.after (L1.base.pS B3)) (Rep.off (λxs z=>nt xs (by rw[ha] at z;injection z)) d v td rv)]
theorem Cw{i:Nat}(hr:dE m X.A)(G:C4 X.prog X.w X.K X.mg X.base aQ q k (cg X.K .no t))(h0:DE X c e te)(hx:PE X ex (bG i))(hq:(q.1=x)⁻¹)(hk:k<=m:=by ac_rfl)(hg:(Gl X x)⁻¹)(kg: ~~~(Yg x))(he:(GE (e::[ex]) X.env=(false,eval e X.env)::GE [ex] X.env)⁻¹)(hs:(GE [ex] X.env=[(false,eval ex X.env)])⁻¹)(g6:((Go pos (GE [ex] X.env)).any (·.1)=false)⁻¹) :
  DE X c (.Call (.Name x p) [e,ex] [] pos) (BS t te i):=by
 subst hq;let(f,fd,F,F0,hm,hb):=G;exact Ho (hr.mono hk) hg hm F0.kp hb h0 hx F kg he hs g6
end
end DL
namespace DL
open PySem PySem.Spec L2
def Tm.tq(n:Nat)(t:Tm):Prop:=t.dep<=n/\t.size<=207/\t.k9<=63/\t.gt
theorem Tm.rq.tq{n r:Nat}{t:Tm}(h:t.rq n r)(hr:r<=16)(hg:t.gt):t.tq n:=#[h.1,VF h.2.1 (oH hr (VB _)).1,VF h.2.2 (oH hr (VB _)).2,hg]
end DL
section
local macro_rules
 | `(tactic|left)=>`(tactic|first|show DL.q_v U ?_|show DL.q_bl ?_|show DL.q_t0 ?_|show DL.q_t1 ?_|show DL.q_t2 ?_|show DL.q_eq #[U,U,U] ?_|show DL.q_b0 ?_|show DL.q_i0 ?_|show DL.q_ll ?_|show DL.q_lt ?_|show#[U,?_]|show#[#[U,U],?_]|show#[#[U,U,U],?_]|show#[.inl U,?_]|show#[.inr U,?_]|show#[DL.cM,?_]|show#[DL.yL,?_]|show#[DL.yp,?_]|show#[L2.BG _ _,?_]|(apply Exists.intro;left)|(show Or.inl ?_;left)|(show Or.inr ?_;left))
local macro_rules
 | `(tactic|right)=>`(tactic|repeat (first|show DL.fe (by decide+kernel) ?_|show DL.ky (by decide+kernel) ?_|left))
section
local macro_rules
 | `(tactic|trivial)=>`(tactic|repeat (first | show DL.fe (by decide+kernel) ?_ | show DL.ky (by decide+kernel) ?_ | show DL.q_v U ?_ | show DL.q_bl ?_ | show DL.q_t0 ?_ | show DL.q_t1 ?_ | show DL.q_t2 ?_ | show DL.q_eq #[U,U,U] ?_ | show DL.q_b0 ?_ | show DL.q_i0 ?_ | show DL.q_ll ?_ | show DL.q_lt ?_ | show#[_,U,?_] | show#[_,_,_,U,U,U,?_] | show#[_,_,_,U,U,DL.cM,?_] | show#[_,_,U,U,?_] | show#[#[U,U,U],?_] | show#[_,.inr U,#[U,U],?_] | show#[_,.inl U,#[U,U],?_] | show#[_,.inr U,?_] | show#[_,.inl U,?_] | show#[_,_,U,U,U,?_] | show .inl #[_,U,?_] | show .inr #[_,_,U,U,?_] | show#[_,_,_,U,U,?_] | show#[#[U,U],?_]))
namespace P0
open PySem L2 DL
abbrev aa0(P w K mg base e n t):=DL.C4 P w K mg base aQ e n (DL.cg K .no t)
abbrev aa1(P w K mg base e n t):=DL.C4 P w K mg base aQ e n (DL.fZ K .no t)
structure wF(W:cZ)(n:Nat)(p:PK):Prop where
 tl:p.tabs.length=if p.asked=true then p.kd.b8.length else p.kd.cF.length
 tm:∀ e∈ents p,e.2.wf=true/\e.2.By=true/\e.2.tq n
 nd:((ents p).map (·.1)).Nodup
 nm:∀ e∈ents p,e.1.1∈p.kd.b8.map j4.name/\e.1.2∈p.kd.cF.map iM.name
 ln:(ents p).length<=1000
structure LQ(W:cZ)(n:Nat)(ps:!PK):Prop where
 cb:iQ W
 kd:ps.map PK.kd=W.kinds
 ok:∀ p∈ps,wF W n p
theorem LQ.mem{W:cZ}{n:Nat}{ps:!PK}(h:LQ W n ps){p:PK}(hp:p∈ps):p.kd∈W.kinds:=h.kd▸VX hp
def mY(W:cZ)(kd:Kd)(n:Nat)(ks:!(!Key))(vs:!D):Prop:=ks.length=vs.length/\∀ q x,cp ks vs q=some x->∃ m∈kd.b8,∃ a∈kd.cF,∃ t:Tm,q=[.inr m.name,.inr a.name]/\x=toD t/\Ty W (m.fs++a.ps) a.res t/\t.tq n
theorem mY.nil{W:cZ}{kd:Kd}{n:Nat}:mY W kd n [] []:=#[U,λq x h=>by cases h]
theorem mY.put{W:cZ}{kd:Kd}{n:Nat}{ks:!(!Key)}{vs:!D}(h:mY W kd n ks vs){m:j4}(hm:m∈kd.b8){a:iM}(ha:a∈kd.cF){t:Tm}(ht:Ty W (m.fs++a.ps) a.res t)(hd:t.tq n):mY W kd n (d7 ks [.inr m.name,.inr a.name]) (fc ks vs [.inr m.name,.inr a.name] (toD t)):=by
 show#[(z7 h.1).1,λq x hx=>?_];rw[CI q h.1] at hx;by_cases e:q=[.inr m.name,.inr a.name]
 .rw[if_pos e] at hx;cases hx;exact#[m,hm,a,ha,t,e,U,ht,hd]
 .rw[if_neg e] at hx;exact h.2 q x hx
structure uD(other:!Str)(n:Nat)(rs:!(Str×Tm)):Prop where
 ln:rs.length<=5
 nd:(rs.map (·.1)).Nodup
 ok:∀ r∈rs,r.1∈other/\r.2.wf=true/\r.2.By=true/\r.2.tq n
theorem uD.perm{other:!Str}{n:Nat}{rs qs:!(Str×Tm)}(h:uD other n rs)(p:qs.Perm rs):uD other n qs :=
 #[by rw[p.length_eq];exact h.ln,(p.map _).nodup_iff.mpr h.nd,λr hr=>h.ok r (p.mem_iff.mp hr)]
theorem wF.of{W:cZ}(w:iQ W){kd:Kd}(hk:kd∈W.kinds){n:Nat}{b:Bool}{ts:!(!(Str×Tm))}(hl:ts.length=if b=true then kd.b8.length else kd.cF.length)(hr:∀ rs∈ts,uD (if b=true then kd.cF.map iM.name else kd.b8.map j4.name) n rs):wF W n #[b,kd,ts]:=by
 let(_,k5,a5):=w.kw kd hk;have key:∀ (ns:!Str),ns.Nodup->ns.length=ts.length->ns.length<=5->wL #[b,kd,ts]=ns.zip ts->(∀ x∈ns.zip ts,x.1∈ns/\x.2∈ts)/\(((ents #[b,kd,ts]).map (·.1)).Nodup)/\(ents #[b,kd,ts]).length<=1000:=λns hn hln h5 eb=>by
  have mem:∀ x∈ns.zip ts,x.1∈ns/\x.2∈ts:=λx hx=>Ww (a:=x.1) (b:=x.2) hx;show#[mem,?_,?_]
  .show (((wL #[b,kd,ts]).flatMap (kq b)).map (·.1)).Nodup;rw[eb];show sR ?_ λx hx=>(hr x.2 (mem x hx).2).nd;rw[List.map_fst_zip (by cbv)];exact hn
  .show ((wL #[b,kd,ts]).flatMap (kq b)).length<=1000;rw[eb];have:=Ah (b:=b) (bs:=ns.zip ts) λx hx=>(hr x.2 (mem x hx).2).ln;rw[XD] at this;cbv
 cases b with
 | true =>
  let(mem,g1,g2):=key (kd.b8.map j4.name) (uV w hk) (by rw[Vv];exact hl.symm) (by rw[Vv];exact k5) U;show#[hl,λe he=>?_,g1,λe he=>?_,g2]
  .let(x,hx,r,hr2,rfl):=mC (b:=true) he;exact ((hr x.2 (mem x hx).2).ok r hr2).2
  .let(x,hx,r,hr2,rfl):=mC (b:=true) he;exact#[(mem x hx).1,((hr x.2 (mem x hx).2).ok r hr2).1]
 | false =>
  let(mem,g1,g2):=key (kd.cF.map iM.name) (uu w hk) (by rw[Vv];exact hl.symm) (by rw[Vv];exact a5) U;show#[hl,λe he=>?_,g1,λe he=>?_,g2]
  .let(x,hx,r,hr2,rfl):=mC (b:=false) he;exact ((hr x.2 (mem x hx).2).ok r hr2).2
  .let(x,hx,r,hr2,rfl):=mC (b:=false) he;exact#[((hr x.2 (mem x hx).2).ok r hr2).1,(mem x hx).1]
theorem mY.at{W:cZ}(w:iQ W){kd:Kd}(hk:kd∈W.kinds){n:Nat}{ks:!(!Key)}{vs:!D}(h:mY W kd n ks vs){m:j4}(hm:m∈kd.b8){a:iM}(ha:a∈kd.cF){x:D}(e:cp ks vs [.inr m.name,.inr a.name]=some x):∃ t:Tm,x=toD t/\Ty W (m.fs++a.ps) a.res t/\t.tq n:=by
 let(m',hm',a',ha',t,e1,e2,e3,e4):=h.2 _ _ e;injection e1 with e5 e6;injection e5 with e5;injection e6 with e6 _;injection e6 with e6;have:=map_one (uV w hk) hm hm' e5;subst this;have:=map_one (uu w hk) ha ha' e6;subst this;exact#[t,e2,e3,e4]
theorem zq{α:Type}{nm:α->Str}{l sub:!α}{rs:!(Str×Tm)}{F:α->Tm->Prop}{n:Nat}(hn:(l.map nm).Nodup)(h5:l.length<=5)(hs:sub.Sublist l)(hp:Paired (λm (r:Str×Tm)=>r.1=nm m/\F m r.2) sub rs)(hg:∀ m∈l,∀ t,F m t->t.wf=true/\t.By=true/\t.tq n):uD (l.map nm) n rs:=by
 have e:rs.map (·.1)=sub.map nm:=Cc (λx y h=>h.1) hp;show#[?_,?_,λr hr=>?_]
 .rw[gm hp];exact VF hs.length_le h5
 .rw[e];exact hn.sublist (hs.map nm)
 .let(m,hm,h1,h2):=f7 hp r hr;exact#[h1▸VX (hs.subset hm),hg m (hs.subset hm) r.2 h2]
def LO(m:j4):Hd:=#[m.name,m.fs,none]
def L8(a:iM):Hd:=#[a.name,a.ps,some a.res]
def toKp(p:PK):Kp:=#[p.asked,p.kd.name,if p.asked=true then p.kd.cF.map L8 else p.kd.b8.map LO,if p.asked=true then (p.kd.b8.zip p.tabs).map λx=>#[LO x.1,x.2] else (p.kd.cF.zip p.tabs).map λx=>#[L8 x.1,x.2]]
theorem toKp_d(p:PK):bW (toKp p)=F4 p:=by
 unfold bW toKp F4 Qu zR;cases p.asked with
 | true =>
  simp only[if_true,List.map_map]
  rfl
 | false =>
  simp only[Bool.false_eq_true,if_false,List.map_map]
  rfl
theorem HX{α:Type}[DecidableEq α]:∀ {l m:!α},l.Nodup->(∀ x∈l,x∈m)->l.length<=m.length
 | [],_,_,_=>VT _
 | x::l,m,h,k=>by
  let(h1,h2):=WO.mp h;have:=HX (m:=m.erase x) h2 λy hy=>(X9 λe=>h1 (by rw[<- e];exact hy)).mpr (k y (Vy _ hy));rw[XJ (k x Vx)] at this;have:=XY (k x Vx);rw[VD];cbv
theorem yG{ns:!Str}{rs:!(Str×Tm)}(h5:ns.length<=5)(hn:(rs.map (·.1)).Nodup)(hm:∀ r∈rs,r.1∈ns):rs.length<=5:=by
 have:=HX hn λx hx=>by
  let(r,hr,rfl):=VI.mp hx;exact hm r hr
 rw[Vv] at this;cbv
theorem Ha{α β γ:Type}{f:α->!β}{g:β->γ}{l:!α}(h:((l.flatMap f).map g).Nodup){a:α}(ha:a∈l):((f a).map g).Nodup:=by
 let(s,t,rfl):=List.append_of_mem ha;rw[VU,VS,VA,VA,Wi] at h;have:=h.2.1;rw[Wi] at this;exact this.1
theorem z9{p:PK}{t:Tb}(ht:t∈(toKp p).tabs):(t.h.nm,t.rows)∈wL p:=by
 unfold toKp at ht;unfold wL;cases ha:p.asked with
 | true =>
  rw[ha] at ht;let(x,hx,rfl):=VI.mp ht;change (x.1.name,x.2)∈(p.kd.b8.map j4.name).zip p.tabs;rw[List.zip_map_left];exact VI.mpr #[x,hx,U]
 | false =>
  rw[ha] at ht;let(x,hx,rfl):=VI.mp ht;change (x.1.name,x.2)∈(p.kd.cF.map iM.name).zip p.tabs;rw[List.zip_map_left];exact VI.mpr #[x,hx,U]
def xk(l:!Tb):Nat:=(l.map λt=>t.rows.length).sum
def ve(ps:!Kp):Nat:=(ps.map λk=>xk k.tabs).sum
theorem w8(l:!Tb)(t:Tb):xk (l++[t])=xk l+t.rows.length:=by simp[xk]
theorem p8(l:!Kp)(k:Kp):ve (l++[k])=ve l+xk k.tabs:=by simp[ve]
theorem xC{n:Nat}:∀ {l:!Tb},(∀ t∈l,t.rows.length<=n)->xk l<=n * l.length
 | [],_=>VB _
 | t::l,h=>by
  have h1:=h t Vx;have ih:=xC λx hx=>h x (Vy _ hx);change t.rows.length+xk l<=n * (l.length+1);rw[Nat.mul_add];cbv
theorem toKp_ok{W:cZ}{ps:!PK}(h:LQ W 17 ps){p:PK}(hp:p∈ps):eW (toKp p)/\∀ t∈(toKp p).tabs,∀ r∈t.rows,r.2.dep<=19/\r.2.k9<=63:=by
 have w:=h.cb;have hk:=h.mem hp;have o:=h.ok p hp;let(k1,k5,a5):=w.kw p.kd hk;have hM:∀ m∈p.kd.b8,dw true (LO m):=λm hm=>by
  let(m1,m2,m3,m4):=w.mo _ hk m hm;show#[m1,m2,λq hq=>#[w.nm _ ?_,(m4 q hq).IU w],U];have:q.1∈m.fs.map (·.1):=VX hq;rw[m3] at this;exact Wa _ (Wc (Wc this))
 have hA:∀ a∈p.kd.cF,dw false (L8 a):=λa ha=>by
  let(m1,(m2,m3,m4),m5):=w.ao _ hk a ha;show#[m1,m2,λq hq=>#[w.nm _ ?_,(m4 q hq).IU w],#[_,U,m5.IU w]];have:q.1∈a.ps.map (·.1):=VX hq;rw[m3] at this;exact Wa _ (WA (Wc this))
 have hE:∀ b∈wL p,(∀ r∈b.2,Nm r.1/\r.2.tq 17)/\b.2.length<=5:=λb hb=>by
  have he:∀ r∈b.2,(if p.asked=true then (b.1,r.1) else (r.1,b.1),r.2)∈ents p:=λr hr=>V3.mpr #[b,hb,VI.mpr #[r,hr,U]];have hn:=Ha (g:=λe:(Str×Str)×Tm=>e.1) o.nd hb;have HU:(b.2.map (·.1)).Nodup:=by
   unfold kq at hn;rw[V2] at hn;show Xe.mpr ((Xe.mp hn).imp λ{x y} hxy e=>hxy ?_);change (if p.asked=true then (b.1,x.1) else (x.1,b.1))=(if p.asked=true then (b.1,y.1) else (y.1,b.1));rw[e]
  constructor
  .intro r hr;have h1:=o.nm _ (he r hr);show#[?_,(o.tm _ (he r hr)).2.2];cases ha:p.asked with
   | true =>
    rw[ha] at h1;let(a,ha2,e):=VI.mp h1.2;have e2:a.name=r.1:=e;rw[<- e2];exact (w.ao _ hk a ha2).1
   | false =>
    rw[ha] at h1;let(m,hm2,e):=VI.mp h1.1;have e2:m.name=r.1:=e;rw[<- e2];exact (w.mo _ hk m hm2).1
  .cases ha:p.asked with
   | true=>exact yG (ns:=p.kd.cF.map iM.name) (by rw[Vv];exact a5) HU λr hr=>(show _∈_ from by have h0:=(o.nm _ (he r hr)).2;rw[ha] at h0;exact h0)
   | false=>exact yG (ns:=p.kd.b8.map j4.name) (by rw[Vv];exact k5) HU λr hr=>(show _∈_ from by have h0:=(o.nm _ (he r hr)).1;rw[ha] at h0;exact h0)
 have hT:∀ t∈(toKp p).tabs,dw p.asked t.h/\(t.h.nm,t.rows)∈wL p:=λt ht=>by
  show#[?_,z9 ht];unfold toKp at ht;cases ha:p.asked with
  | true =>
   rw[ha] at ht;let(x,hx,rfl):=VI.mp ht;exact hM _ (Ww (a:=x.1) (b:=x.2) hx).1
  | false =>
   rw[ha] at ht;let(x,hx,rfl):=VI.mp ht;exact hA _ (Ww (a:=x.1) (b:=x.2) hx).1
 show#[#[k1,?_,?_,?_,λt ht=>#[(hT t ht).1,(hE _ (hT t ht).2).2,λr hr=>?_]],λt ht r hr=>?_]
 .show (if p.asked=true then p.kd.cF.map L8 else p.kd.b8.map LO).length<=5;split<;>rw[Vv]<;>assumption
 .show ∀ x∈(if p.asked=true then p.kd.cF.map L8 else p.kd.b8.map LO),dw (not p.asked) x;cases p.asked with
  | true =>
   intro x hx;let(a,ha,rfl):=VI.mp hx;exact hA a ha
  | false =>
   intro x hx;let(a,ha,rfl):=VI.mp hx;exact hM a ha
 .show (if p.asked=true then (p.kd.b8.zip p.tabs).map (λx=>(#[LO x.1,x.2]:Tb)) else (p.kd.cF.zip p.tabs).map (λx=>(#[L8 x.1,x.2]:Tb))).length<=5;split<;>rw[Vv,XD]<;>cbv
 .let(x1,x2):=(hE _ (hT t ht).2).1 r hr;exact#[x1,x2.2.2.2,VF x2.1 (),VF x2.2.2.1 ()]
 .let(x1,x2):=(hE _ (hT t ht).2).1 r hr;exact#[VF x2.1 (),x2.2.2.1]
theorem jm.four{ws:!Str}{ks:!Kd}(h:jm ws ks):ks.length<=4:=by
 let(ns,ML,AL,rh,e1,n1,n3,pM,pA,rl,I,hk):=h.ex;rcases hk with rfl | ⟨kd,rfl,_⟩
 .cbv
 .rw[Vw,WV];cbv
theorem jm.three{ws:!Str}{ks:!Kd}(h:jm ws ks):(ks.filter λk=>(not k.b8.isEmpty)).length<=3:=by
 let(ns,ML,AL,rh,e1,n1,n3,pM,pA,rl,I,hk):=h.ex;have h1:=V9 (λk:Kd=>(not k.b8.isEmpty)) rh;rcases hk with rfl | ⟨kd,rfl,hm,_⟩
 .cbv
 .rw[Wk,W5 (by rw[hm];decide),Xa,VJ];cbv
theorem yO:∀ {ps:!PK},(∀ p∈ps,xk (toKp p).tabs<=25/\(p.kd.b8=[]->xk (toKp p).tabs=0))->ve (ps.map toKp)<=25 * ((ps.map PK.kd).filter λk=>(not k.b8.isEmpty)).length
 | [],_=>VB _
 | p::ps,h=>by
  let(h1,h2):=h p Vx;have ih:=yO λx hx=>h x (Vy _ hx);change xk (toKp p).tabs+ve (ps.map toKp)<=_;rw[VE,Xx];split
  .rw[VD];cbv
  .rename_i e
   have:=h2 (by simpa using e);cbv
theorem toKp_rw{W:cZ}{ps:!PK}(h:LQ W 17 ps){p:PK}(hp:p∈ps):xk (toKp p).tabs<=25/\(p.kd.b8=[]->xk (toKp p).tabs=0):=by
 have o:=(toKp_ok h hp).1;constructor
 .have h1:=xC (n:=5) λt ht=>(o.ts t ht).rl;have h2:=o.tl;cbv
 .intro hm;have:=xC (n:=0) (l:=(toKp p).tabs) λt ht=>by
   cases e:t.rows with
   | nil=>exact VB _
   | cons r l =>
    have:=((h.ok p hp).nm (if p.asked=true then (t.h.nm,r.1) else (r.1,t.h.nm),r.2) (V3.mpr #[_,z9 ht,VI.mpr #[r,by rw[e];exact Vx,U]])).1;rw[hm] at this;cases this
  cbv
theorem Uu{ws:!Str}{ks:!Kd}{b:Bool}{ps:!PK}(h:LQ (kr ws ks b) 17 ps)(h3:jm ws ks):∃ qs:!Kp,ps.map F4=qs.map bW/\(qs.length<=4/\qs.length=ps.length/\ve qs<=75)/\eY qs/\∀ k∈qs,∀ t∈k.tabs,∀ r∈t.rows,r.2.dep<=19/\r.2.k9<=63:=by
 have h4:ps.length<=4:=by
  have:=congrArg List.length h.kd;rw[Vv] at this;rw[this];exact jm.four h3
 have hrw:=yO λp hp=>toKp_rw h hp;rw[show ps.map PK.kd=ks from h.kd] at hrw;have h33:=jm.three h3;show#[ps.map toKp,?_,#[by rw[Vv];exact h4,Vv ..,by cbv],#[by rw[Vv];cbv,λk hk=>?_],λk hk=>?_]
 .rw[V2];exact WQ λp _=>(toKp_d p).symm
 .let(p,hp,rfl):=VI.mp hk;exact (toKp_ok h hp).1
 .let(p,hp,rfl):=VI.mp hk;exact (toKp_ok h hp).2
def top(i:Nat):Fa:=PySem.Challenge.pw_sideturn_k15_inner_tables_and_places.main.body.getD i (.Pass #[0,0,0,0])
abbrev nA:Fa:=top 1
abbrev gD:D3:=("makers_in",nA,["kind"])
theorem uX:av ["kind"] ["kind"] (ai nA):=fJ
abbrev nR:Fa:=top 2
abbrev gP:D3:=("askers_in",nR,["kind"])
theorem uo:av ["kind"] ["kind"] (ai nR):=fJ
abbrev il:Fa:=top 3
abbrev c7:D3:=("numbered_kinds",il,["program"])
theorem cn:av ["program","numbered","row","kind"] ["program"] (ai il):=fJ
abbrev gT:Fa:=top 4
abbrev cQ:D3:=("numbered_tables",gT,["program"])
theorem bE:av ["program","numbered","row","kind","number","table"] ["program"] (ai gT):=fJ
abbrev ji:Fa:=top 7
abbrev eG:D3:=("terms_within",ji,["term"])
theorem i8:av ["term","word"] ["term"] (ai ji):=fJ
abbrev zF:Fa:=top 8
abbrev lS:D3:=("parts",zF,["term"])
theorem lE:av ["term","told","ahead","part"] ["term"] (ai zF):=fJ
abbrev qC:Fa:=top 9
abbrev iT:D3:=("is_table",qC,["term"])
theorem vZ:av ["term"] ["term"] (ai qC):=fJ
abbrev jg:Fa:=top 10
abbrev cW:D3:=("inner_tables",jg,["program"])
theorem bg:av ["program","told","row","kind","table","ahead","name","term","part"] ["program"] (ai jg):=fJ
abbrev tu:Fa:=top 11
abbrev j6:D3:=("is_flat",tu,["program"])
theorem xG:av ["program"] ["program"] (ai tu):=fJ
abbrev ij:Fa:=top 13
abbrev dg:D3:=("pieces_of_rows",ij,["rows"])
theorem cw:av ["rows","pieces","name","names","term"] ["rows"] (ai ij):=fJ
abbrev gQ:Fa:=top 14
abbrev cR:D3:=("pieces_of_terms",gQ,["terms"])
theorem dN:av ["terms","pieces","term"] ["terms"] (ai gQ):=fJ
abbrev nU:Fa:=top 15
abbrev gy:D3:=("pieces_of",nU,["term"])
theorem lX:av ["term","word"] ["term"] (ai nU):=fJ
abbrev nG:Fa:=top 16
abbrev fD:D3:=("show_term",nG,["term"])
theorem fT:av ["term","signs","ahead","piece"] ["term"] (ai nG):=fJ
abbrev kB:Fa:=top 18
abbrev dB:D3:=("show_fields",kB,["name","fields"])
theorem eD:av ["name","fields","words","field","kind"] ["name","fields"] (ai kB):=fJ
abbrev lh:Fa:=top 19
abbrev d5:D3:=("show_maker",lh,["maker"])
theorem rP:av ["maker"] ["maker"] (ai lh):=fJ
abbrev lu:Fa:=top 20
abbrev eu:D3:=("show_asker",lu,["asker"])
theorem rF:av ["asker"] ["asker"] (ai lu):=fJ
abbrev lI:Fa:=top 21
abbrev et:D3:=("show_cells",lI,["rows"])
theorem rS:av ["rows"] ["rows"] (ai lI):=fJ
abbrev nY:Fa:=top 22
abbrev gA:D3:=("made_rows",nY,["kind"])
theorem iS:av ["kind","told","function"] ["kind"] (ai nY):=fJ
abbrev lp:Fa:=top 23
abbrev fU:D3:=("asked_rows",lp,["kind"])
theorem gX:av ["kind","told","table"] ["kind"] (ai lp):=fJ
abbrev wH:Fa:=top 24
abbrev ma:D3:=("use_of",wH,["part"])
theorem Bb:av ["part"] ["part"] (ai wH):=fJ
abbrev sV:Fa:=top 25
abbrev jS:D3:=("uses_in",sV,["kind"])
theorem dP:av ["kind","uses","table","name","term","part","use"] ["kind"] (ai sV):=fJ
abbrev tQ:Fa:=top 26
abbrev jM:D3:=("told_in",tQ,["kind"])
theorem iL:av ["kind","told","maker","asker"] ["kind"] (ai tQ):=fJ
abbrev jG:Fa:=top 27
abbrev dZ:D3:=("uses_between",jG,["program"])
theorem bU:av ["program","told","names","kind","uses","other","others"] ["program"] (ai jG):=fJ
abbrev nP:Fa:=top 28
abbrev gw:D3:=("crossings",nP,["program"])
theorem eB:av ["program","crossed","kind","other","many"] ["program"] (ai nP):=fJ
abbrev lB:Fa:=top 29
abbrev fS:D3:=("cross_rows",lB,["program"])
theorem rV:av ["program"] ["program"] (ai lB):=fJ
abbrev jj:Fa:=top 30
abbrev eh:D3:=("rows_of_kind",jj,["kind"])
theorem oq:av ["kind"] ["kind"] (ai jj):=fJ
abbrev yW:Fa:=top 31
abbrev oG:D3:=("shown",yW,["program"])
theorem pW:av ["program","rows","kind"] ["program"] (ai yW):=fJ
abbrev qU:Fa:=top 33
abbrev ix:D3:=("_law_deal",qU,["_law_script","_law_base"])
abbrev qx:Fa:=top 34
abbrev a9:D3:=("_law_draw",qx,["_law_deal_here","_law_many"])
abbrev cj:Fa:=top 35
abbrev gO:D3:=("_law_words",cj,["_law_deal_here","_law_many"])
theorem aY:av ["_law_deal_here","_law_many","_law_letters","_law_core","_law_at","_law_turn","_law_found","_law_k","_law_own","_law_word","_law_near"] ["_law_deal_here","_law_many"] (ai cj):=fJ
abbrev nH:Fa:=top 36
abbrev gI:D3:=("_law_pairs",nH,["_law_deal_here","_law_names","_law_some","_law_most"])
theorem lT:av ["_law_deal_here","_law_names","_law_some","_law_most","_law_many"] ["_law_deal_here","_law_names","_law_some","_law_most"] (ai nH):=fJ
abbrev nI:Fa:=top 37
abbrev gG:D3:=("_law_heads",nI,["_law_deal_here","_law_words_here","_law_most"])
theorem aO:av ["_law_deal_here","_law_words_here","_law_most","_law_found","_law_names","_law_shift","_law_makers_left","_law_askers_left","_law_kk","_law_makers","_law_k","_law_some","_law_askers","_law_params"] ["_law_deal_here","_law_words_here","_law_most"] (ai nI):=fJ
abbrev mh:Fa:=top 38
abbrev c8:D3:=("_law_things",mh,["_law_world_here"])
theorem rA:av ["_law_world_here"] ["_law_world_here"] (ai mh):=fJ
abbrev qE:Fa:=top 39
abbrev iu:D3:=("_law_leaf",qE,["_law_deal_here","_law_world_here","_law_scope","_law_kind"])
theorem jH:av ["_law_deal_here","_law_world_here","_law_scope","_law_kind","_law_own","_law_first"] ["_law_deal_here","_law_world_here","_law_scope","_law_kind"] (ai qE):=fJ
abbrev sA:Fa:=top 40
abbrev hV:D3:=("_law_all",sA,["_law_deal_here","_law_world_here","_law_scope","_law_some","_law_room"])
theorem yh:av ["_law_deal_here","_law_world_here","_law_scope","_law_some","_law_room"] ["_law_deal_here","_law_world_here","_law_scope","_law_some","_law_room"] (ai sA):=fJ
abbrev rZ:Fa:=top 41
abbrev jN:D3:=("_law_ask",rZ,["_law_deal_here","_law_world_here","_law_scope","_law_kind","_law_room"])
theorem cy:av ["_law_deal_here","_law_world_here","_law_scope","_law_kind","_law_room","_law_some","_law_side","_law_kk","_law_makers","_law_askers","_law_f","_law_params","_law_terms"] ["_law_deal_here","_law_world_here","_law_scope","_law_kind","_law_room"] (ai rZ):=fJ
abbrev nQ:Fa:=top 42
abbrev dR:D3:=("_law_bound",nQ,["_law_deal_here","_law_world_here","_law_scope","_law_many"])
theorem iz:av ["_law_deal_here","_law_world_here","_law_scope","_law_many","_law_some","_law_at"] ["_law_deal_here","_law_world_here","_law_scope","_law_many"] (ai nQ):=fJ
abbrev p9:Fa:=top 43
abbrev iy:D3:=("_law_case",p9,["_law_deal_here","_law_world_here","_law_scope","_law_kind","_law_room"])
theorem bu:av ["_law_deal_here","_law_world_here","_law_scope","_law_kind","_law_room","_law_some","_law_side","_law_kk","_law_makers","_law_askers","_law_a","_law_found","_law_c","_law_fields","_law_names","_law_more"] ["_law_deal_here","_law_world_here","_law_scope","_law_kind","_law_room"] (ai p9):=fJ
abbrev rX:Fa:=top 44
abbrev jX:D3:=("_law_new",rX,["_law_deal_here","_law_world_here","_law_scope","_law_kind","_law_room"])
theorem cG:av ["_law_deal_here","_law_world_here","_law_scope","_law_kind","_law_room","_law_some","_law_askers","_law_found","_law_f","_law_params","_law_result","_law_names","_law_more"] ["_law_deal_here","_law_world_here","_law_scope","_law_kind","_law_room"] (ai rX):=fJ
abbrev pL:Fa:=top 45
abbrev dJ:D3:=("_law_term",pL,["_law_deal_here","_law_world_here","_law_scope","_law_kind","_law_room"])
theorem aJ:av ["_law_deal_here","_law_world_here","_law_scope","_law_kind","_law_room","_law_form","_law_found","_law_a","_law_b","_law_some","_law_other","_law_x","_law_makers","_law_c","_law_fields"] ["_law_deal_here","_law_world_here","_law_scope","_law_kind","_law_room"] (ai pL):=fJ
abbrev nO:Fa:=top 46
abbrev gB:D3:=("_law_world",nO,["_law_deal_here","_law_most","_law_tables_here"])
theorem lz:av ["_law_deal_here","_law_most","_law_tables_here","_law_words_here"] ["_law_deal_here","_law_most","_law_tables_here"] (ai nO):=fJ
abbrev nW:Fa:=top 47
abbrev gS:D3:=("_law_cells",nW,["_law_deal_here","_law_world_here","_law_room"])
theorem bf:av ["_law_deal_here","_law_world_here","_law_room","_law_found","_law_side","_law_kk","_law_makers","_law_askers","_law_own","_law_c","_law_fields","_law_f","_law_params","_law_result"] ["_law_deal_here","_law_world_here","_law_room"] (ai nW):=fJ
abbrev kF:Fa:=top 48
abbrev fg:D3:=("_law_program",kF,["_law_deal_here","_law_world_here","_law_room"])
theorem aB:av ["_law_deal_here","_law_world_here","_law_room","_law_found","_law_one","_law_cells_here","_law_side","_law_kk","_law_makers","_law_askers","_law_way","_law_blocks","_law_f","_law_params","_law_result","_law_rows","_law_c","_law_fields"] ["_law_deal_here","_law_world_here","_law_room"] (ai kF):=fJ
abbrev kA:Fa:=top 49
abbrev fh:D3:=("_law_doubled",kA,["_law_deal_here","_law_program_here"])
theorem aP:av ["_law_deal_here","_law_program_here","_law_found","_law_side","_law_kk","_law_heads_here","_law_blocks","_law_others","_law_block","_law_rows","_law_key","_law_term_here"] ["_law_deal_here","_law_program_here"] (ai kA):=fJ
abbrev me:Fa:=top 50
abbrev fY:D3:=("_law_within",me,["_law_term_here"])
theorem rR:av ["_law_term_here"] ["_law_term_here"] (ai me):=fJ
abbrev lg:Fa:=top 51
abbrev fP:D3:=("_law_tables",lg,["_law_term_here"])
theorem fi:av ["_law_term_here","_law_found","_law_left","_law_one"] ["_law_term_here"] (ai lg):=fJ
abbrev lR:Fa:=top 52
abbrev fV:D3:=("_law_places",lR,["_law_program_here"])
theorem aM:av ["_law_program_here","_law_found","_law_row","_law_side","_law_kk","_law_heads_here","_law_blocks","_law_block","_law_tables_here","_law_key","_law_term_here"] ["_law_program_here"] (ai lR):=fJ
abbrev lH:Fa:=top 53
abbrev fR:D3:=("_law_starts",lH,["_law_row"])
theorem rK:av ["_law_row"] ["_law_row"] (ai lH):=fJ
abbrev kj:Fa:=top 54
abbrev fq:D3:=("_law_written",kj,["_law_rows","_law_found"])
theorem cC:av ["_law_rows","_law_found","_law_met","_law_place","_law_table","_law_row","_law_starts_here"] ["_law_rows","_law_found"] (ai kj):=fJ
abbrev qH:Fa:=top 55
abbrev iN:D3:=("_law_well",qH,["_law_found"])
theorem nV:av ["_law_found","_law_pair"] ["_law_found"] (ai qH):=fJ
abbrev mz:Fa:=top 56
theorem gY:av ["_law_script","_law_deal_here","_law_world_here","_law_program_here","_law_more","_law_at","_law_due","_law_found","_law_flat"] ["_law_script"] (ai mz):=fJ
structure Txt(K:Frag)(mg:Str->Option AC):Prop where
 all:mg "all"=none
 bool:mg "bool"=none
 enumerate:mg "enumerate"=none
 int:mg "int"=none
 IQ:mg "isinstance"=none
 len:mg "len"=none
 list:mg "list"=none
 max:mg "max"=none
 min:mg "min"=none
 range:mg "range"=none
 rev:mg "reversed"=none
 set:mg "set"=none
 sorted:mg "sorted"=none
 str:mg "str"=none
 sum:mg "sum"=none
 tuple:mg "tuple"=none
 zip:mg "zip"=none
section
variable{P:Fk}{w:FB}{K:Frag}{mg:Str->Option AC}{base:Db}
theorem aN{b b':Bool}{A B:Prop}(h:b=b')(q1:b'=true->A)(q2:b'=false->B):if b=true then A else B:=by
 subst h;cases b with
 | true=>exact pI (q1 U)
 | false=>exact vg (q2 U)
theorem Bs{ws:!Str}:(ws.map D.str).all fN=true:=by
 rw[List.all_map];exact Wr.mpr λ_ _=>rfl
theorem FO{ws:!Str}:(ws.map D.str).map fv=ws.map V.str:=by
 rw[V2]
 rfl
theorem FJ{zs:!Str}{r:Int}(h0:0<=r)(h1:r < zs.length):∃ z∈zs,jd (zs.map D.str) r=some (.str z):=by
 have hj:r.toNat < zs.length:=by cbv
 show#[zs[r.toNat],Xh hj,?_];have e:(r.toNat:Int)=r:=Int.toNat_of_nonneg h0;have q:=fk (xs:=zs.map D.str) (j:=r.toNat) (v:=.str zs[r.toNat]) (by simp[hj]);rw[e] at q;exact q
theorem wo:∀ (ys:!D),(∀ y∈ys,∃ ch,(97<=ch/\ch<=122)/\y=D.str #[#v[ch]])->∃ cs:!Nat,ys=(cs.map λc=>(#[#v[c]]:Str)).map D.str/\(∀ c∈cs,97<=c/\c<=122)/\cs.length=ys.length
 | [],_=>#[[],U,λ_ h=>absurd h (by simp),U]
 | y::ys,h=>by
  let(ch,hc,e):=h y Vx;let(cs,e2,h2,h3):=wo ys λz hz=>h z (Vy _ hz);subst e;show#[ch::cs,by rw[e2];simp,λc hm=>?_,by simp[h3]];rcases VG.mp hm with rfl | hm
  .exact hc
  .exact h2 c hm
theorem Du{d l:AT}(eE:C4 P w K mg base aQ a9 1 (cg K (aW d l) (gE d)))(F:Own K mg gO)(T:Txt K mg):C4 P w K mg base aQ gO 2 (cg K (aW d l) (EX d)):=by
 show F.d (nos:=1) aY (λds R h=>?_) λf bT A outer s H E M hr=>?_
 .let(m,rfl,_):=h
  rfl
 have hb:bx cj=O3 (bx cj) 6 (Ez ((bx cj).getD 6 A0)):=rfl;have ha:vi (Ez ((bx cj).getD 6 A0))=true:=rfl;have hz:zE (Ez ((bx cj).getD 6 A0))=cH.near:=rfl;have hl3:(Ez ((bx cj).getD 6 A0)).length=cH.near.length:=rfl;generalize Ez ((bx cj).getD 6 A0)=es at hb ha hz hl3;have hn:(es.length<=1000:Bool)=true:=by rw[hl3];decide
 rw[hb];show#[_,(af (gF (dQ (i:=2) aY.nd U (Or.inr U) (DE.pe aj)))
 (af (sS 3 aY.nd (iJ aj (aa (DN.de (nC ["_law_k"] [2,0] (dD U T.range (aa (ak hr eE (aa (vd 0) (aa ag ae))) ae)) (λ_ _ _ _=>(gM 0 ["_law_k","_law_letters","_law_deal_here"])) (λ_ _ _ _=>bD)
 (λ_ _ _ _=>(AO yf CA (vd 1) (ak hr eE (aa (vd 2) (aa ag ae))) (λ_ _=>rfl))))) ae)))
 (af (sS 4 aY.nd (ak hr eE (aa (vd 0) (aa (bc b7 fC (cm lr C7 U T.len WY (aa (vd 3) ae)) ag) ae))))
 (af (sS 5 aY.nd (ak hr eE (aa (vd 0) (aa ag ae))))
 (af (sN 0 6 aY.nd (az ae))
 (af (sF (dD U T.range (aa (vd 1) ae)) (gN 7 aY.nd)
 (af (sS 8 aY.nd (AO yf CA (vd 2) (bc gW A1 (bc b7 fC (vd 5) (bc kO A1 ag (vd 7))) ag) (λ_ _=>rfl)))
 (af (sS 9 aY.nd (bc aI cc (bc aI cc (bc aI cc (bc aI cc (jf (vd 3) cx (bb (vd 4))) (vd 8)) (jf (vd 3) (bb (vd 4)) cx)) (bc qW Dt aj (bc gW A1 (vd 7) ag))) (bc qW Dt aj (bc cY A1 (vd 7) ag))))
 (af (bw (ax jJ okIn (vd 9) (aK (aa aj (aa aj (aa aj (aa aj (aa aj (aa aj (aa aj ae)))))))) U)
 (ah (sS 9 aY.nd (bc aI cc (vd 9) aj)))
 aD)
 (af (bw (ax jJ okIn (vd 9) (aK (aa aj (aa aj (aa aj (aa aj (aa aj (aa aj ae))))))) U)
 (ah (sS 9 aY.nd (bc aI cc (vd 9) aj)))
 aD)
 (ah (la 6 (aa (vd 9) ae))))))))
 (af (sS 10 aY.nd (DN.de (az (Hi ha hz hl3) hn)))
 (af (sS 9 aY.nd (lA (vd 10) (ak hr eE (aa (vd 0) (aa ag ae)))))
 (af (bw (DW.dt (kZ (ax aL bH (ak hr eE (aa (vd 0) (aa ag ae))) ag (au _)) (i5 (Kh lM (vd 9) (pv 6) U))))
 (ah (G6 (Dg (DE.pe (vd 9)) (K7 (pv 6) (DE.pe (ak hr eE (aa (vd 0) (aa (vd 1) ae)))) set_list))))
 aD)
 (ah (aX (sX (pv 6))))))))))))),λds R h=>?_]
 .let(m,rfl,(hm0,PD),q):=h;trivial;show#[#[by decide,by decide],λr r0 r1=>?_];show#[r,U,#[by cbv,by cbv],?_];show qa (λy=>∃ ch,(97<=ch/\ch<=122)/\y=D.str #[#v[ch]]) _ (λx hx k hk=>?_) λys hyl hyp=>?_
  .refine#[_,U,_,U,_,U,#[by decide,by decide],λa a0 a1=>?_];exact#[_,_,_,U,U,by decide+kernel,zl a0 a1,hk _ _ #[_,#[by cbv,by cbv],U] rfl]
  let(cs,e1,hcs,hcl):=wo ys hyp;subst e1;have hcl':cs.length<=4:=by
   have:(eF 0 r.toNat).length=r.toNat:=by simp[eF]
   rw[hcl,hyl,this];cbv
  show#[cs.map λc=>(#[#v[c]]:Str),U,?_,?_]
  .rw[cH.v3,Vv];change cs.length+cs.length * 0<=16777216;cbv
  have hcore:(Txt.join ("":Str) (cs.map λc=>(#[#v[c]]:Str))).length<=4:=by
   have:=cH.join_ones cs;cbv
  have hlw:Lw (Txt.join ("":Str) (cs.map λc=>(#[#v[c]]:Str))):=λc hc=>by
   rw[wk] at hc;exact hcs c hc
  generalize Txt.join ("":Str) (cs.map λc=>(#[#v[c]]:Str))=core at hcore hlw;have hsz:(1000:Nat)<=Ev:=by decide
  show#[_,U,_,U,_,U,by omega,_,_,U,U,_,U,#[by omega,by omega],λat_' a0 a1=>?_];show#[_,U,_,U,#[by decide,by decide],λtn t0 t1=>?_];show#[#[U,U],_,U,m,U,#[by cbv,by cbv],?_];have h2s:=Be (x:=core) (i:=at_') a0 (by cbv);have hL1:=hlw.slice none (some at_');have hL2:=hlw.slice (some at_') none;generalize uB:Txt.slice core none (some at_')=pre at h2s hL1;generalize hpost:Txt.slice core (some at_') none=post at h2s hL2;show cO (λxs s=>∃ (ws:!Str) (a b e:Sl),(∀ (i:Nat) (x:D),xs[i]?=some x->x=D.int ((ws.length+i:Nat):Int))/\ws.length+xs.length=m.toNat/\wG pre.cps.toList post.cps.toList tn.toNat ws/\s=#[[.dat (.fO d),.dat (.int m),.dat (.str cH.NA),.dat (.str core),.dat (.int at_'),.dat (.int tn),.own 0,a,b,e,.no],[some (.lst (ws.map D.str))]]) ?_ ?_ _ _ #[[],.no,.no,.no,?_,?_,λ_ _ h=>absurd h (by simp),U]
  .rintro s ⟨ws,a,b,e,h1,h2,h3,rfl⟩
   replace h2:ws.length=m.toNat:=h2
   trivial;show#[#[by decide,by decide],λr r0 r1=>?_];let(z,hz2,ez):=FJ (zs:=cH.near) r0 r1;have hzw:=GU z hz2;show#[_,_,_,U,U,ez,?_];show#[_,U,_,U,#[by decide,by decide],λr2 r20 r21=>?_];show#[#[U,U,U],_,U,?_];show aN U (λ_=>?_) λ_=>?_
   .refine#[_,U,0,_,U,U,#[U,Bs],_,U,?_];show aN U (λhni=>?_) λ_=>?_
    .refine#[_,U,0,U,_,U,_,U,_,U,#[by cbv,by cbv],λr3 r30 r31=>?_];have hj:AF (ws.map D.str).length r3=some r3.toNat:=by
      rw[Vv];unfold AF;rw[if_pos (by cbv),if_pos (by cbv)]
     show#[_,_,_,U,U,hj,?_];show .inr #[0,_,U,U,?_];change R (.lst ((ws.map D.str).set r3.toNat (.str z)));rw[<- List.map_set];have hnz:z∉ws:=λhm=>by
      replace hni:(not (xP (.str z) ((ws.map D.str).map fv)))=true:=hni
      rw[FO,fA,decide_eq_true hm] at hni;cases hni
     show q _ (by simpa using h2) (t9 _ h3.nodup hnz) λy hy=>?_;rcases List.mem_or_eq_of_mem_set hy with hy | rfl
     .exact h3.nm y hy
     .exact hzw
    .exact .inr #[0,_,U,U,q ws h2 h3.nodup h3.nm]
   .exact .inr #[0,_,U,U,q ws h2 h3.nodup h3.nm]
  .rintro x xs s N ⟨ws,a,b,e,h1,h2,h3,rfl⟩ hN hE_;have hx:=h1 0 x U;subst hx
   replace h2:ws.length+(xs.length+1)=m.toNat:=h2
   have hk:ws.length < 60:=by cbv
   trivial;show#[.inl #[by decide,by decide],?_];show#[_,_,U,U,?_];show#[_,_,U,U,(show (0:Int) < 26 by decide),?_];have ea:=zl (r:=(tn+7 * ((ws.length+0:Nat):Int)) % 26) (W0 _ ()) (WW _ ());show#[_,_,_,U,U,by decide+kernel,ea,?_];rw[show ((tn+7 * ((ws.length+0:Nat):Int)) % 26).toNat=(tn.toNat+7 * ws.length) % 26 by cbv];have zo:97<=97+(tn.toNat+7 * ws.length) % 26/\97+(tn.toNat+7 * ws.length) % 26<=122:=#[by cbv,by cbv];let(mx,ox):=zm (c:=120) (n:=((ws.length+0:Nat):Int) % 2) (W0 _ ()) (by cbv);let(my,oy):=zm (c:=121) (n:=((ws.length+0:Nat):Int) / 26) (by cbv) (by cbv);rw[show (((ws.length+0:Nat):Int) % 2).toNat=ws.length % 2 by cbv] at mx;rw[show (((ws.length+0:Nat):Int) / 26).toNat=ws.length / 26 by cbv] at my;generalize hmx:Txt.mul (#[#v[120]]:Str) (((ws.length+0:Nat):Int) % 2)=tx at mx;generalize hmy:Txt.mul (#[#v[121]]:Str) (((ws.length+0:Nat):Int) / 26)=ty at my;have lx:tx.length=ws.length % 2:=by rw[show tx.length=tx.cps.toList.length by simp[Str.length],mx,List.length_replicate]
   have ly:ty.length=ws.length / 26:=by rw[show ty.length=ty.cps.toList.length by simp[Str.length],my,List.length_replicate]
   have wx:Lw tx:=λc hc=>by rw[mx] at hc;have:=List.eq_of_mem_replicate hc;cbv
   have wy:Lw ty:=λc hc=>by rw[my] at hc;have:=List.eq_of_mem_replicate hc;cbv
   have hL:Lw (pre++(#[#v[97+(tn.toNat+7 * ws.length) % 26]]:Str)++post++tx++ty) :=
    (((hL1.app (λc hc'=>by simp at hc';subst hc';exact zo)).app hL2).app wx).app wy
   have FD:(pre++(#[#v[97+(tn.toNat+7 * ws.length) % 26]]:Str)++post++tx++ty).length<=8/\1<=(pre++(#[#v[97+(tn.toNat+7 * ws.length) % 26]]:Str)++post++tx++ty).length:=by
    rw[cH.cB,cH.cB,cH.cB,cH.cB,cH.jU];cbv
   have hcp:(pre++(#[#v[97+(tn.toNat+7 * ws.length) % 26]]:Str)++post++tx++ty).cps.toList=wl pre.cps.toList post.cps.toList tn.toNat ws.length 0:=by
    rw[lY,lY,lY,lY,mx,my];simp[wl]
   show#[_,U,_,U,_,U,_,U,by cbv,?_];rw[uB];show#[_,U,_,_,U,U,by rw[cH.jU];cbv,?_];show#[_,U,_,U,_,U,_,U,by cbv,?_];rw[hpost];show#[_,_,U,U,by rw[cH.cB,cH.jU];cbv,?_];show#[_,U,_,_,U,U,(show (0:Int) < 2 by decide),?_];show#[_,_,U,U,ox,?_];rw[show Txt.mul (Str.ofString "x") (((ws.length+0:Nat):Int) % 2)=tx from hmx];show#[_,_,U,U,by rw[cH.cB,cH.cB,cH.jU];cbv,?_];show#[_,U,_,_,U,U,#[by decide,by decide],?_];show#[_,_,U,U,oy,?_];rw[show Txt.mul (Str.ofString "y") (((ws.length+0:Nat):Int) / 26)=ty from hmy];show#[_,_,U,U,by rw[cH.cB,cH.cB,cH.cB,cH.jU];cbv,?_];generalize pre++(#[#v[97+(tn.toNat+7 * ws.length) % 26]]:Str)++post++tx++ty=wd at hL FD hcp;have hLq:Lw ("q":Str):=by decide+kernel
   have hq1:("q":Str).length=1:=rfl;have hcq:(wd++("q":Str)).cps.toList=wl pre.cps.toList post.cps.toList tn.toNat ws.length 1:=by
    rw[lY,hcp];simp[wl]
    rfl
   have fin:∀ (u:Str) (a b:Sl) (e:Nat),Nm u->u.cps.toList=wl pre.cps.toList post.cps.toList tn.toNat ws.length e->N.nx #[[.dat (.fO d),.dat (.int m),.dat (.str cH.NA),.dat (.str core),.dat (.int at_'),.dat (.int tn),.own 0,a,b,.dat (.str u),.no],[some (.lst (ws.map D.str++[D.str u]))]]:=λu a b e hu he=>by
    show hN _ #[ws++[u],a,b,.dat (.str u),λi z hz=>?_,?_,h3.snoc hu he,by simp]
    .have:=h1 (i+1) z hz;rw[this];simp;cbv
    .rw[Vw];simp;cbv
   have rj:(ws.map D.str).length < Ev:=by
    rw[Vv];cbv
   show#[_,U,?_];show#[_,.inr U,#[U,U],_,U,?_];show aN (b':=xP (.str wd) (wz.map V.str)) U (λc1=>?_) λc1=>?_
   .rw[fA] at c1;have c1:=Hf wd (of_decide_eq_true c1);show#[_,U,_,_,U,U,by cbv,?_];show#[_,U,?_];show#[_,.inr U,#[U,U],_,U,?_];show aN (b':=xP (.str (wd++("q":Str))) (tH.map V.str)) U (λc2=>?_) λc2=>?_
    .rw[fA] at c2;exact absurd (of_decide_eq_true c2) c1.2.1
    .have nm:Nm (wd++("q":Str)):=#[hL.app hLq,by rw[cH.cB];cbv,by rw[cH.cB];cbv,c1.1,c1.2.1];exact#[0,_,U,U,U,_,U,_,U,_,_,U,U,rj,fin _ _ _ 1 nm hcq]
   .rw[fA] at c1;have c1:=of_decide_eq_false c1;show#[_,U,?_];show#[_,.inr U,#[U,U],_,U,?_];show aN (b':=xP (.str wd) (tH.map V.str)) U (λc2=>?_) λc2=>?_
    .rw[fA] at c2;have c2:=F3 wd (of_decide_eq_true c2);have nm:Nm (wd++("q":Str)):=#[hL.app hLq,by rw[cH.cB];cbv,by rw[cH.cB];cbv,c2.1,c2.2.1];show#[_,U,_,_,U,U,by cbv,?_];exact#[0,_,U,U,U,_,U,_,U,_,_,U,U,rj,fin _ _ _ 1 nm hcq]
    .rw[fA] at c2;exact#[0,_,U,U,U,_,U,_,U,_,_,U,U,rj,fin _ _ _ 0 #[hL,FD.2,FD.1,c1,of_decide_eq_false c2] hcp]
  .intro i x hx;unfold eF at hx;rw[V0] at hx;let(j,hj,rfl):=Wb.mp hx;let(_,e):=VC.mp hj;simp at e;subst e;simp
  .simp[eF]
def Sd(d:AT):Yd:=λds R=>∃ ns ss:!Str,ds=[.fO d,.lst (ns.map .str),.lst (ss.map .str),.int 3]/\(3<=ns.length/\0 < ss.length/\ss.length<=100)/\∀ ps,Fz ns ss ps->R (jb ps)
theorem OR{d l:AT}(eE:C4 P w K mg base aQ a9 1 (cg K (aW d l) (gE d)))(F:Own K mg gI)(T:Txt K mg):C4 P w K mg base aQ gI 2 (cg K (aW d l) (Sd d)):=by
 show F.d (nos:=0) lT (λds R h=>?_) λf bT A outer s H E M hr=>#[_,(af (sS 4 lT.nd (lA (DN.de (az (aa ag (aa ag (aa ag (aa ag (aa (vd 3) ae))))))) (ak hr eE (aa (vd 0) (aa ag ae)))))
 (ah (aX (iE T.tuple (aa (DN.de (nC ["_law_k"] [1,2,0] (dD U T.range (aa (cm (AU U) NF U T.min (by decide+kernel) (aa (vd 4) (aa (vd 3) ae))) ae)) (λ_ _ _ _=>(gM 0 ["_law_k","_law_names","_law_some","_law_deal_here"])) (λ_ _ _ _=>bD)
 (λ_ _ _ _=>(aK (aa (lA (vd 1) (vd 0)) (aa (lA (vd 2) (ak hr eE (aa (vd 3) (aa (fE T.len (aa (vd 2) ae)) ae)))) ae)))))) ae))))),λds R h=>?_]
 .let(ns,ss,rfl,_):=h
  rfl
 .let(ns,ss,rfl,(hn,hs0,Qi),q):=h;trivial;show#[#[by decide,by decide],λr r0 r1=>?_];have hm:∃ m:Int,jd [D.int 0,D.int 1,D.int 1,D.int 2,D.int 3] r=some (.int m)/\0<=m/\m<=3:=by
   have:r=0\/r=1\/r=2\/r=3\/r=4:=by cbv
   rcases this with rfl | rfl | rfl | rfl | rfl
   .exact#[0,U,by decide,by decide]
   .exact#[1,U,by decide,by decide]
   .exact#[1,U,by decide,by decide]
   .exact#[2,U,by decide,by decide]
   .exact#[3,U,by decide,by decide]
  let(m,em,hm0,PD):=hm;show#[_,_,_,U,U,em,?_];show#[_,U,_,U,?_];have e3:(if (3:Int) < m then 3 else m)=m:=if_neg (by cbv);show#[_,_,U,?_];rw[e3];show#[m,U,#[by cbv,by cbv],?_];rw[iD];show fb (λi:Nat=>D.int (i:Int)) pairD (λi p=>ns[i]?=some p.1/\p.2∈ss) _ (λi hi k hk=>?_) λps hps=>?_
  .have u1:i < 3:=by have:=WC.mp hi;cbv
   let(x,hx,ex):=oY (f:=D.str) (xs:=ns) (r:=(i:Int)) (by cbv) (by cbv);rw[W4] at hx;show#[_,U,_,U,_,_,_,U,U,ex,?_];show#[_,U,_,U,_,U,_,.inl U,?_];show#[_,U,#[by rw[Vv];cbv,by rw[Vv];cbv],λr2 r20 r21=>?_];let(y,hy,ey):=k6 (f:=D.str) (xs:=ss) r20 (by simpa using r21);show#[_,_,_,U,U,ey,?_];exact hk (x,y) _ #[hx,hy] rfl
  .refine#[_,.inl U,?_];have hl:=gm hps;rw[WN] at hl;show q ps #[by cbv,?_,λp hp=>?_]
   .exact uT (λi y h=>h.1) hps
   .let(i,_,h):=f7 hps p hp;exact h.2
def T7(d:AT):Yd:=λds R=>∃ (ws:!Str) (most:Int),ds=[.fO d,.lst (ws.map .str),.int most]/\(ws.length=45/\ws.Nodup/\(∀ x∈ws,Nm x)/\1<=most/\most<=3)/\∀ ks,jm ws ks->R (.lst (ks.map lb))
theorem MX{d l:AT}(eE:C4 P w K mg base aQ a9 1 (cg K (aW d l) (gE d)))(Ro:C4 P w K mg base aQ gI 2 (cg K (aW d l) (Sd d)))(F:Own K mg gG)(T:Txt K mg):C4 P w K mg base aQ gG 3 (cg K (aW d l) (T7 d)):=by
 show F.d (nos:=5) aO (λds R h=>?_) λf bT A outer s H E M hr=>#[_,(af (sN 0 3 aO.nd (az ae))
 (af (gF (tV (nj (i:=4) aO.nd U U (ts:=["_law_k"]) (us:=[1]) #[U,U,U,U,U,U] rfl (dD U T.range (aa (bc b7 fC ag (ak hr eE (aa (vd 0) (aa (vd 2) ae)))) ae)) (λ_ _ _ _=>(gM 0 ["_law_k","_law_words_here"])) (λ_ _ _ _=>bD)
 (λ_ _ _ _=>(lA (vd 1) (vd 0))))))
 (af (sS 5 aO.nd (lA (DN.de (az (aa ag (aa ag ae)))) (ak hr eE (aa (vd 0) (aa ag ae)))))
 (af (sN 1 6 aO.nd (bz aR aT (DN.de (dI (vd 1) (bb ag) cx)) (DN.de (dI (vd 1) cx (bb ag)))))
 (af (sN 2 7 aO.nd (bz aR aT (DN.de (dI (vd 1) (bb (bc iP fC ag (vd 5))) cx)) (DN.de (dI (vd 1) cx (bb (bc iP fC ag (vd 5)))))))
 (af (sF (aE (vd 4)) (gN 8 aO.nd)
 (af (sN 3 9 aO.nd (az ae))
 (af (sF (dD U T.range (aa (bc b7 fC ag (ak hr eE (aa (vd 0) (aa (lA (DN.de (az (aa ag (aa ag ae)))) (ip jY ur U T.int (by decide+kernel) (aa (jC aL bH (fE T.len (aa (vd 4) ae)) ag (au _)) ae))) ae)))) ae)) (gN 10 aO.nd)
 (af (sS 11 aO.nd (lA (DN.de (az (aa (DN.de (bz aR aT (vd 4) (DN.de (az (aa aj ae))))) (aa (DN.de (az (aa aj ae))) ae)))) (ip jY ur U T.int (by decide+kernel) (aa (jC aL bH (vd 10) ag (au _)) ae))))
 (ah (la 9 (aa (aK (aa (pY WI WJ pR uN (pv 6) (aa ag ae)) (aa (ak hr Ro (aa (vd 0) (aa (DN.de (dI (vd 1) (bb ag) (bb ag))) (aa (vd 11) (aa ag ae))))) ae))) ae)))))
 (af (sN 4 12 aO.nd (az ae))
 (af (sF (dD U T.range (aa (ak hr eE (aa (vd 0) (aa (lA (DN.de (az (aa ag (aa ag ae)))) (ip jY ur U T.int (by decide+kernel) (aa (jC aL bH (fE T.len (aa (vd 4) ae)) ag (au _)) ae))) ae))) ae)) (gN 10 aO.nd)
 (af (sS 13 aO.nd (ak hr Ro (aa (vd 0) (aa (DN.de (dI (vd 1) (bb ag) (bb ag))) (aa (DN.de (bz aR aT (vd 4) (DN.de (az (aa aj ae))))) (aa ag ae))))))
 (ah (la 12 (aa (aK (aa (pY WI WJ pR uN (pv 7) (aa ag ae)) (aa (vd 13) (aa (lA (DN.de (bz aR aT (vd 4) (DN.de (az (aa aj ae))))) (ak hr eE (aa (vd 0) (aa (bc b7 fC (fE T.len (aa (vd 4) ae)) ag) ae)))) ae)))) ae)))))
 (ah (la 3 (aa (aK (aa (lA (DN.de (az (aa aj (aa aj ae)))) (ak hr eE (aa (vd 0) (aa ag ae)))) (aa (vd 8) (aa (iE T.tuple (aa (sX (pv 9)) ae)) (aa (iE T.tuple (aa (sX (pv 12)) ae)) ae))))) ae))))))))
 (af (bw (ax aL bH (ak hr eE (aa (vd 0) (aa ag ae))) ag (au _))
 (af (sN 4 12 aO.nd (az ae))
 (af (sF (dD U T.range (aa (ak hr eE (aa (vd 0) (aa ag ae))) ae)) (gN 10 aO.nd)
 (ah (la 12 (aa (aK (aa (pY WI WJ pR uN (pv 7) (aa ag ae)) (aa (ak hr Ro (aa (vd 0) (aa (DN.de (dI (vd 1) (bb ag) (bb ag))) (aa (DN.de (az (aa aj ae))) (aa ag ae))))) (aa aj ae)))) ae))))
 (ah (la 3 (aa (aK (aa (lA (DN.de (az (aa aj (aa aj ae)))) (ak hr eE (aa (vd 0) (aa ag ae)))) (aa (lA (vd 1) ag) (aa (aK ae) (aa (iE T.tuple (aa (sX (pv 12)) ae)) ae))))) ae)))))
 aD)
 (ah (aX (sX (pv 3))))))))))),λds R h=>?_]
 .let(ns,ss,rfl,_):=h
  rfl
 .let(ws,most,rfl,(rj,Iu,hwm,hm0,PD),q):=h;trivial;show#[#[by cbv,by cbv],λr r0 r1=>?_];show#[_,_,U,U,?_];show#[_,U,#[by cbv,by cbv],?_];rw[iD];show fb (λi:Nat=>D.int (i:Int)) D.str (λi x=>ws[i]?=some x) _ (λi hi k hk=>?_) λns oo=>?_
  .have u1:i < 3:=by have:=WC.mp hi;cbv
   let(x,hx,ex):=oY (f:=D.str) (xs:=ws) (r:=(i:Int)) (by cbv) (by cbv);rw[W4] at hx;exact#[_,U,_,U,_,_,_,U,U,ex,hk x _ hx U]
  have hnl:ns.length=(1+r).toNat:=by have:=gm oo;rwa [WN] at this
  have P9:ns=ws.take ns.length:=by
   have:=uT (v:=id) (ns:=ws) (λi y h=>h) oo;simpa using this
  rw[VY];trivial;show#[#[by decide,by decide],λr2 r20 r21=>?_];have hsh:∃ m:Int,jd [D.int 0,D.int 20] r2=some (.int m)/\(m=0\/m=20):=by
   have:r2=0\/r2=1:=by cbv
   rcases this with rfl | rfl
   .exact#[0,U,.inl U]
   .exact#[20,U,.inr U]
  let(sh,esh,hsh):=hsh;show#[_,_,_,U,U,esh,?_];let(ML,eML,pML):=xN (f:=D.str) (ws:=ws) (n:=4) () (by cbv);let(AL,eAL,pAL):=xN (f:=D.str) (ws:=ws) (n:=20 - sh) (by cbv) (by cbv);have hsz:=aH;show#[_,U,_,U,_,U,_,U,_,U,_,U,_,_,U,U,?_,?_]
  .rw[<- Vw,eML,Vv,pML.length_eq];cbv
  rw[eML];show#[#[U,U],?_];show#[_,U,_,U,_,_,U,U,_,U,_,U,_,U,_,U,_,_,U,U,_,U,_,U,_,_,U,U,?_,?_]
  .rw[<- Vw,eAL,Vv,pAL.length_eq];cbv
  rw[eAL];show#[#[U,U],?_];show#[_,U,_,.inl U,?_];have e24:cutD (ws.map D.str) (some 24) (some 27)=((ws.drop 24).take 3).map D.str:=by rw[gn,rj];rfl
  have e27:cutD (ws.map D.str) (some 27) (some 30)=((ws.drop 27).take 3).map D.str:=by rw[gn,rj];rfl
  have mlL:ML.length=45:=by rw[pML.length_eq,rj]
  have alL:AL.length=45:=by rw[pAL.length_eq,rj]
  show cO (λxs s=>∃ (ks:!Kd) (x8 x9 cP eJ gq hJ:Sl),((x8.pl=true/\x9.pl=true/\cP.pl=true)/\eJ.pl=true/\gq.pl=true/\hJ.pl=true)/\Hz ws ns ML AL ks/\xs=(ns.drop ks.length).map .str/\s=#[[.dat (.fO d),.dat (.lst (ws.map .str)),.dat (.int most),.own 0,.dat (.lst (ns.map .str)),.dat (.int sh),.own 1,.own 2,x8,x9,cP,eJ,gq,hJ],[some (.lst (ks.map lb)),some (.lst ((ML.drop (dO ks).length).map .str)),some (.lst ((AL.drop (cU ks).length).map .str)),none,none]]) ?_ ?_ _ _ #[[],.no,.no,.no,.no,.no,.no,#[#[U,U,U],U,U,U],Hz.nil,U,U]
  .rintro s ⟨ks,x8,x9,cP,eJ,gq,hJ,⟨⟨h8,h9,h10⟩,h11,h12,h13⟩,hI,hx,rfl⟩;have hkl:ks.length=ns.length:=by
    have:=congrArg List.length hx;simp at this;have:=hI.kl;cbv
   trivial;show#[#[by decide,by decide],λr3 r30 r31=>?_];show#[#[U,U,U],_,U,?_];show aN U (λ_=>?_) λ_=>?_
   rotate_left
   .refine .inr #[_,_,U,U,q ks #[ns,ML,AL,ks,P9,by cbv,by cbv,pML,pAL,hkl,hI,.inl U]]
   show#[#[U,(show noRef 4 4 [x8,x9,cP,eJ,gq,hJ]=true by rw[bC h8,bC h9,bC h10,bC h11];change noRef 4 2 [hJ]=true;rw[bC h13];rfl)],?_];trivial;show#[#[by decide,by decide],λr4 r40 r41=>?_];show#[_,U,#[by cbv,by cbv],?_];generalize hn4:r4.toNat=n4;have hn45:n4<=2:=by cbv
   have hAL:(cU ks).length+2 < AL.length:=by have:=hI.ab;cbv
   generalize hna:(cU ks).length=na at hAL;show cO (λxs s=>∃ (as:!iM) (Cg:Sl),(Cg.pl=true)/\Fq ws [] (AL.drop na) as/\AJ xs as.length n4/\s=#[[.dat (.fO d),.dat (.lst (ws.map .str)),.dat (.int most),.own 0,.dat (.lst (ns.map .str)),.dat (.int sh),.own 1,.own 2,x8,x9,Cg,eJ,.own 4,hJ],[some (.lst (ks.map lb)),some (.lst ((ML.drop (dO ks).length).map .str)),some (.lst ((AL.drop (na+as.length)).map .str)),none,some (.lst (as.map eQ))]]) ?_ ?_ _ _ #[[],cP,h10,Fq.nil,AJ.init _,U]
   .rintro s ⟨as,z10,f10,hA,hR3,rfl⟩;have hR3:=hR3.nil;trivial;show#[U,?_];show#[_,U,?_];show#[_,U,#[by decide,by decide],λr5 r50 r51=>?_];let(sd,esd):=yx r50 r51;show#[_,_,_,U,U,esd,?_];let(x44,h44,e44):=oY (f:=D.str) (xs:=ws) (r:=3) () (by cbv);show#[_,U,_,_,_,U,U,e44,?_];show .inr #[_,_,U,U,?_];show#[_,.inl U,?_];show#[_,U,_,_,U,U,by rw[Vv];cbv,?_];show .inr #[_,_,U,U,?_];have:=q (ks++[#[sd,x44,[],as]]) #[ns,ML,AL,ks,P9,by cbv,by cbv,pML,pAL,hkl,hI,.inr #[#[sd,x44,[],as],U,U,h44,by change as.length<=2;cbv,by rw[hna];exact hA]];rw[VA] at this;exact this
   .rintro x xs s N3 ⟨as,z10,f10,hA,hR3,rfl⟩ hN3 hE_3;let(rfl,hj,hR4):=hR3.cons;let(nx,p1,p2,p3,p4,p5):=I0 (L:=AL) (n:=na) (j:=as.length) (by cbv);show#[4,_,U,U,U,?_];show#[2,_,U,U,U,_,U,?_];show#[_,_,_,_,U,U,#[by decide,by decide],p3,p4,?_];rw[p5];show#[_,U,_,U,_,U,_,U,_,U,?_];show#[(ws.drop 27).take 3,hX,by rw[<- e27]<;>rfl,#[by simp;cbv,by decide,by decide],λps hps=>?_];show#[_,U,_,_,U,U,by rw[Vv];cbv,?_];show hN3 _ #[as++[#[nx,ps,"number"]],.dat (.int as.length),U,hA.snoc (a:=#[nx,ps,"number"]) p2 hps (VH.mpr U),by rw[Vw];exact hR4,?_];rw[VA,Vw]
    rfl
  .rintro x xs s N ⟨ks,x8,x9,cP,eJ,gq,hJ,⟨⟨h8,h9,h10⟩,h11,h12,h13⟩,hI,hx,rfl⟩ hN hE_;have hkl:ks.length < ns.length:=by
    have:=congrArg List.length hx;simp at this;cbv
   rw[Xf hkl,VE] at hx;injection hx with hx1 hx2;subst hx1;show#[#[U,(show noRef 3 5 [cP,eJ,gq,hJ]=true by rw[bC h10,bC h11,bC h12,bC h13];rfl)],?_];trivial;have hwide:∃ m:Int,jd [D.int 3,D.int 5] (if decide (V.int (ns.map D.str).length=V.int 1) then 1 else 0)=some (.int m)/\1<=m/\m<=5:=by
    split
    .exact#[5,U,by decide,by decide]
    .exact#[3,U,by decide,by decide]
   let(mw,emw,hmw0,hmw1):=hwide;show .inr #[_,U,?_];show#[_,_,_,U,U,emw,?_];show#[_,U,#[by cbv,by cbv],λr3 r30 r31=>?_];show#[_,_,U,U,?_];show#[_,U,#[by cbv,by cbv],?_];have hML:(dO ks).length+5 < ML.length:=by have:=hI.mb;cbv
   have hAL:(cU ks).length+5 < AL.length:=by have:=hI.ab;cbv
   generalize hnm:(dO ks).length=nm at hML;generalize hna:(cU ks).length=na at hAL;generalize hn3:(1+r3).toNat=n3;have hn30:1<=n3:=by cbv
   have hn35:n3<=5:=by cbv
   show cO (λxs s=>∃ (ms:!j4) (cP eJ:Sl),(cP.pl=true/\eJ.pl=true)/\JV ws ns (ML.drop nm) ms/\AJ xs ms.length n3/\s=#[[.dat (.fO d),.dat (.lst (ws.map .str)),.dat (.int most),.own 0,.dat (.lst (ns.map .str)),.dat (.int sh),.own 1,.own 2,.dat (.str ns[ks.length]),.own 3,cP,eJ,gq,hJ],[some (.lst (ks.map lb)),some (.lst ((ML.drop (nm+ms.length)).map .str)),some (.lst ((AL.drop na).map .str)),some (.lst (ms.map eL)),none]]) ?_ ?_ _ _ #[[],cP,eJ,#[h10,h11],JV.nil,AJ.init _,U]
   .rintro s ⟨ms,Cg,y11,⟨g10,g11⟩,hM,hR,rfl⟩;have hR:=hR.nil;show#[#[U,(show noRef 4 2 [Cg,y11,gq,hJ]=true by rw[bC g10,bC g11];change noRef 4 2 [hJ]=true;rw[bC h13];rfl)],?_];trivial;have hwide:∃ m:Int,jd [D.int 4,D.int 6] (if decide (V.int (ns.map D.str).length=V.int 1) then 1 else 0)=some (.int m)/\1<=m/\m<=6:=by
     split
     .exact#[6,U,by decide,by decide]
     .exact#[4,U,by decide,by decide]
    let(mw2,emw2,hmw20,hmw21):=hwide;show .inr #[_,U,?_];show#[_,_,_,U,U,emw2,?_];show#[_,U,#[by cbv,by cbv],λr4 r40 r41=>?_];show#[_,U,#[by cbv,by cbv],?_];generalize hn4:r4.toNat=n4;have hn45:n4<=5:=by cbv
    show cO (λxs s=>∃ (as:!iM) (Cg HF:Sl),(Cg.pl=true/\HF.pl=true)/\Fq ws ns (AL.drop na) as/\AJ xs as.length n4/\s=#[[.dat (.fO d),.dat (.lst (ws.map .str)),.dat (.int most),.own 0,.dat (.lst (ns.map .str)),.dat (.int sh),.own 1,.own 2,.dat (.str ns[ks.length]),.own 3,Cg,y11,.own 4,HF],[some (.lst (ks.map lb)),some (.lst ((ML.drop (nm+ms.length)).map .str)),some (.lst ((AL.drop (na+as.length)).map .str)),some (.lst (ms.map eL)),some (.lst (as.map eQ))]]) ?_ ?_ _ _ #[[],Cg,hJ,#[g10,h13],Fq.nil,AJ.init _,U]
    .rintro s ⟨as,z10,z13,⟨f10,f13⟩,hA,hR3,rfl⟩;have hR3:=hR3.nil;trivial;show#[U,?_];show#[_,U,?_];show#[_,U,#[by decide,by decide],λr5 r50 r51=>?_];let(sd,esd):=yx r50 r51;show#[_,_,_,U,U,esd,?_];show#[_,U,?_];show .inr #[_,_,U,U,?_];show#[_,.inl U,?_];show .inr #[_,_,U,U,?_];show#[_,.inl U,?_];show#[_,U,_,_,U,U,by rw[Vv];cbv,?_];have hkd:Hz ws ns ML AL (ks++[#[sd,ns[ks.length],ms,as]]):=hI.snoc #[?_,?_,?_,hM.mp,hM.mf,hA.ap] (VO hkl) (by rw[hnm];exact hM.nm) (by rw[hna];exact hA.nm);show hN _ #[ks++[#[sd,ns[ks.length],ms,as]],.dat (.str ns[ks.length]),.dat (.lst (ms.map eL)),(fB 4 (.lst (as.map eQ)) (fB 3 (.lst (ms.map eL)) z10)),(fB 4 (.lst (as.map eQ)) (fB 3 (.lst (ms.map eL)) y11)),.dat (.lst (as.map eQ)),(fB 4 (.lst (as.map eQ)) (fB 3 (.lst (ms.map eL)) z13)),#[#[U,U,bq (bq f10)],bq (bq g11),U,bq (bq f13)],hkd,?_,?_]
     .rw[Vw];exact hx2
     .rw[gz,gJ,Vw,Vw,Vv,Vv,hnm,hna,VA]
      rfl
     .intro e;have e:ms=[]:=e;rw[e] at hR;simp at hR;cbv
     .show ms.length<=5;cbv
     .show as.length<=5;cbv
    .rintro x xs s N3 ⟨as,z10,z13,⟨f10,f13⟩,hA,hR3,rfl⟩ hN3 hE_3;let(rfl,hj,hR4):=hR3.cons;trivial;show#[by simp;cbv,?_];show#[(ws.drop 27).take 3,ns++hX,by rw[<- e27,List.map_append]<;>rfl,#[by simp;cbv,by simp,by simp;cbv],λps hps=>?_];let(nx,p1,p2,p3,p4,p5):=I0 (L:=AL) (n:=na) (j:=as.length) (by cbv);show#[4,_,U,U,U,?_];show#[2,_,U,U,U,_,U,?_];show#[_,_,_,_,U,U,#[by decide,by decide],p3,p4,?_];rw[p5];show#[_,U,?_];show#[_,U,_,_,U,U,by simp;cbv,?_];show#[_,U,_,U,_,.inl U,_,_,U,U,_,U,#[by cbv,by simp;cbv],λr6 r60 r61=>?_];let(rs,hrs,ers):=k6 (f:=D.str) (xs:=ns++hX) r60 (by simpa using r61);rw[VA] at ers;show#[_,_,_,U,U,ers,?_];show#[_,U,_,_,U,U,by rw[Vv];cbv,?_];show hN3 _ #[as++[#[nx,ps,rs]],.dat (.int as.length),.dat (jb ps),#[U,U],hA.snoc p2 hps hrs,by rw[Vw];exact hR4,?_];rw[VA,Vw]
     rfl
   .rintro x xs s N2 ⟨ms,Cg,y11,⟨g10,g11⟩,hM,hR,rfl⟩ hN2 hE_2;let(rfl,hj,hR2):=hR.cons;trivial;show#[by simp;cbv,?_];show#[_,U,#[U,U,U],?_];show .inr #[_,U,?_];have hSS:∃ SS:!Str,jd [D.lst (ns.map D.str++[D.str "number"]),D.lst [D.str "number"]] (if decide (V.int (ms.length:Nat)=V.int 0) then 1 else 0)=some (.lst (SS.map D.str))/\(∀ x∈SS,x∈ns++hX)/\(ms=[]->SS=hX)/\0 < SS.length/\SS.length<=100:=by
     by_cases h0:ms=[]
     .subst h0;exact#[hX,U,λx hx=>V6 _ hx,λ_=>rfl,by decide,by decide]
     .have wN:¬ (V.int (ms.length:Nat)=V.int 0):=λe=>by
       injection e with e;exact h0 (Wf (by cbv))
      show#[ns++hX,?_,λx hx=>hx,λe=>absurd e h0,by simp,by simp;cbv];rw[decide_eq_false wN,VA]
      rfl
    let(SS,eSS,hSS1,hSS2,hSS3,hSS4):=hSS;show#[_,_,_,U,U,eSS,?_];let(nx,p1,p2,p3,p4,p5):=I0 (L:=ML) (n:=nm) (j:=ms.length) (by cbv);show#[3,_,U,U,U,?_];show#[1,_,U,U,U,_,U,?_];show#[_,_,_,_,U,U,#[by decide,by decide],p3,p4,?_];rw[p5];show#[_,U,_,U,_,U,_,U,_,U,_,U,?_];show#[(ws.drop 24).take 3,SS,by rw[<- e24],#[by simp;cbv,hSS3,hSS4],λps hps=>?_];show#[_,U,_,_,U,U,by rw[Vv];cbv,?_];show hN2 _ #[ms++[#[nx,ps]],.dat (.int ms.length),.dat (.lst (SS.map .str)),#[U,U],hM.snoc p2 (hps.sub hSS1) (λh p hp=>?_),by rw[Vw];exact hR2,?_]
    .have:=hps.2.2 p hp;rw[hSS2 h] at this;exact VH.mp this
    .rw[VA,Vw]
     rfl
def PX:Yd:=λds R=>∃ W:cZ,ds=[mE W]/\iQ W/\R (.lst ((things W).map lb))
theorem PR(F:Own K mg c8)(T:Txt K mg):aa0 P w K mg base c8 1 PX:=by
 show F.d (nos:=0) rA (λds R h=>?_) λf bT A outer s H E M hr=>#[_,(ah (aX (DN.de (nC ["_law_one"] [] (aE (ic (bP (dm hr) (DE.pe (vd 0)) (DE.pe aj) (λ_ _=>rfl)))) (λ_ _ _ _=>(gM 0 ["_law_one"])) (λ_ _ _ _=>fK (ax (yg (nZ hr)) sU (bN (vd 0) ag) (aK ae) (au _)))
 (λ_ _ _ _=>(vd 0)))))),λds R h=>?_]
 .let(W,rfl,_):=h
  rfl
 .let(W,rfl,cb,q):=h;show#[_,U,?_];show eX #[_,U,_,.inl U,?_];show bp lb lb (λk=>(not k.b8.isEmpty)) _ (λk hk kk N h1 h2=>?_) ?_
  .refine#[_,U,_,_,_,U,U,U,#[zv cb hk,U,.inr ()],?_];show#[_,U,?_];cases hm:k.b8 with
   | nil=>exact fe U (h2 (by rw[hm];rfl) _ U)
   | cons m r=>exact ky U #[_,U,h1 (by rw[hm];rfl) _ U]
  .exact q
def PZ(d:AT):Yd:=λds R=>∃ (W:cZ) (sc:!(Str×Str)) (m:Nat),ds=[.fO d,mE W,.lst (sc.map pairD),.int m]/\(iQ W/\kY W sc/\m<=3/\sc.length+m<=15)/\∀ ns:!Str,ns.length=m->xt W sc ns->R (.tup (ns.map .str))
theorem NG{d l:AT}(eE:C4 P w K mg base aQ a9 1 (cg K (aW d l) (gE d)))(F:Own K mg dR)(T:Txt K mg):C4 P w K mg base aQ dR 2 (cg K (aW d l) (PZ d)):=by
 show F.d (nos:=0) iz (λds R h=>?_) λf bT A outer s H E M hr=>#[_,(af (gF (tV (nj (i:=4) iz.nd U U (ts:=["_law_x"]) (us:=[2]) #[U,U,U,U,U,U] rfl (aE (ic (bP (dm hr) (DE.pe (vd 1)) (DE.pe aj) (λ_ _=>rfl)))) (λ_ _ _ _=>(gM 0 ["_law_x","_law_scope"])) (λ_ _ _ _=>fK (ax lM okIn (vd 0) (DN.de (nC ["_law_pair"] [] (aE (vd 1)) (λ_ _ _ _=>(gM 0 ["_law_pair"])) (λ_ _ _ _=>bD)
 (λ_ _ _ _=>(bN (vd 0) ag)))) U))
 (λ_ _ _ _=>(vd 0)))))
 (af (bw (DW.dt (kZ (ax aL bH (ak hr eE (aa (vd 0) (aa ag ae))) ag (au _)) (i5 (ax HB nk (fE T.len (aa (vd 4) ae)) (vd 3) (au _)))))
 (af (sS 5 iz.nd (ak hr eE (aa (vd 0) (aa (bc b7 fC (fE T.len (aa (vd 4) ae)) ag) ae))))
 (ah (aX (iE T.tuple (aa (DN.de (dI (DN.de (bz aR aT (DN.de (dI (vd 4) (bb (vd 5)) cx)) (DN.de (dI (vd 4) cx (bb (vd 5)))))) cx (bb (vd 3)))) ae)))))
 aD)
 (ah (aX (iE T.tuple (aa (DN.de (nC ["_law_k"] [1,2] (dD U T.range (aa (vd 3) ae)) (λ_ _ _ _=>(gM 0 ["_law_k","_law_world_here","_law_scope"])) (λ_ _ _ _=>bD)
 (λ_ _ _ _=>(lA (ic (bP (dm hr) (DE.pe (vd 1)) (DE.pe aj) (λ_ _=>rfl))) (bc b7 fC (fE T.len (aa (vd 2) ae)) (vd 0)))))) ae)))))),λds R h=>?_]
 .let(W,sc,m,rfl,_):=h
  rfl
 .let(W,sc,m,rfl,(cb,sok,hm,hl),q):=h;show#[_,U,?_];show xE #[_,U,_,.inl U,?_];show bp D.str D.str (λx=>(not (decide (x∈sc.map (·.1))))) _ (λx hx kk N h1 h2=>?_) ?_
  .refine#[_,U,_,U,_,.inl U,?_];show ba pairD (λp=>D.str p.1) _ (λp hp k2 hk2=>#[_,U,_,_,_,U,U,U,hk2 _ U]) ?_;rw[VY,show sc.map (λp=>D.str p.1)=(sc.map (·.1)).map D.str by rw[V2];rfl];show#[_,.inl U,#[U,AK],_,U,?_];show aN (b':=(not (decide (x∈sc.map (·.1))))) (congrArg (not ·) F2) (λe=>?_) λe=>?_
   .exact#[_,U,h1 e _ U]
   .exact h2 e _ U
  .rw[VY];have hvars:HM (lV Jv (uR (qO ["_law_k"].length [1,2] (HC (uR (JP 3) Ag)) (uI 0) cf (BA J9 (IC (JP 1) (Ma (D.str "vars"))) (BA (Rp HAdd.hAdd) (lV C6 (uR (JP 2) Ag)) (JP 0)))) Ag)) { nx:=λ_=>R D.cA,rt:=R } #[[.dat (.fO d),.dat (mE W),.dat (.lst (sc.map pairD)),.dat (.int m),.dat (.lst ((W.heads.filter λx=>(not (decide (x∈sc.map (·.1))))).map D.str)),.no],[]]:=by
    show#[_,U,m,U,#[by cbv,by cbv],?_];rw[W4,iD];show fb (λi:Nat=>D.int (i:Int)) D.str (λk x=>W.vars[sc.length+k]?=some x) _ (λi hi k hk=>?_) λns oo=>?_
    .have u1:=WC.mp hi;have hv:=cb.vl;let(x,hx,ex):=oY (f:=D.str) (xs:=W.vars) (r:=((sc.map pairD).length:Int)+(i:Int)) (by cbv) (by rw[Vv];cbv);show#[_,U,?_];show sQ #[_,U,?_];show#[_,U,_,.inl U,_,U,_,_,U,U,?_];show#[_,_,_,U,U,ex,hk x _ ?_ U];rw[Vv] at hx
     rwa [show ((sc.length:Int)+(i:Int)).toNat=sc.length+i by cbv] at hx
    .refine#[_,.inl U,?_];exact q ns (by have:=gm oo;rwa [WN] at this) (xt.vars cb sok oo)
   show#[_,U,_,U,#[by decide,by decide],λr r0 r1=>?_];show#[#[U,U,U],_,U,?_];show aN U (λ_=>?_) λ_=>?_
   rotate_left
   .exact hvars
   show#[_,U,_,.inl U,_,U,_,_,U,U,_,U,?_];show aN U (λhge=>?_) λ_=>?_
   rotate_left
   .exact hvars
   generalize hsm:(W.heads.filter λx=>(not (decide (x∈sc.map (·.1)))))=sm at hge;have hsl:sm.length<=6:=by
    rw[<- hsm,<- cb.hl];exact V9 _ _
   have hge:m<=sm.length:=by simpa using hge
   have hsz:=aH;show#[_,U,_,U,_,.inl U,_,_,U,U,_,U,#[by cbv,by simp;cbv],λa a0 a1=>?_];let(al,eal,pal):=xN (f:=D.str) (ws:=sm) (n:=a) a0 (by simp at a1;cbv);show#[_,U,_,U,_,U,_,U,_,U,_,U,_,U,_,U,_,_,U,U,?_,?_]
   .rw[<- Vw,eal,Vv,pal.length_eq];cbv
   rw[eal];show#[_,U,_,U,_,U,_,.inl U,?_];have hal:al.length=sm.length:=pal.length_eq;have e9:cutD (al.map D.str) none (some (m:Int))=(al.take m).map D.str:=by
    rw[gn]
    congr 1
    have e1:HT.b5 al.length 0 none=0:=rfl;have e2:HT.b5 al.length al.length (some (m:Int))=m:=by
     unfold HT.b5;simp only[]
     repeat' split
     all_goals cbv
    rw[e1,e2,Xp,X7]
   change R (.tup (cutD (al.map D.str) none (some (m:Int))));rw[e9];exact q _ (by rw[Wy];cbv) (xt.heads cb (by rw[hsm];exact pal) m)
def SQ(d:AT):Nat->Yd
 | 0=>λ_ _=>False
 | n+1=>λds R=>∃ (W:cZ) (sc:!(Str×Str)) (k:Str),ds=[.fO d,mE W,.lst (sc.map pairD),.str k]/\(iQ W/\kY W sc/\vx W k/\(n=0->k="number"))/\∀ t:Tm,Ty W sc k t->t.lf (n+1) k->R (toD t)
theorem Ic{d l:AT}(eE:C4 P w K mg base aQ a9 1 (cg K (aW d l) (gE d)))(LV:Own K mg iu)(T:Txt K mg):∀ n,C4 P w K mg base aQ iu (n+1) (cg K (aW d l) (SQ d n))
 | 0=>LV.c λ_ _ _=>qb
 | n+1=>by
  have Qo:=Ic eE LV T n;show LV.c λfLe fdLe F_=>?_;show Qn (nos:=0) F_ jH (λds R h=>?_) λbT A outer s H E M hr=>#[_,(af (gF (tV (nj (i:=4) jH.nd U U (ts:=["_law_x","_law_other"]) (us:=[3]) #[U,U,U,U,U,U] rfl (aE (vd 2)) (λ_ _ _ _=>(bO (m:=2) U (aq (gM 0 ["_law_x","_law_other","_law_kind"]) (aq (gM 1 ["_law_x","_law_other","_law_kind"]) bQ)))) (λ_ _ _ _=>fK (ax aL bH (vd 1) (vd 2) (au _)))
 (λ_ _ _ _=>(vd 0)))))
 (af (bw (DW.dt (kZ (ax (yg (nZ hr)) sU (vd 4) (DN.de (az ae)) (au _)) (i5 (ax ku nk (ak hr eE (aa (vd 0) (aa ag ae))) ag (au _)))))
 (ah (aX (aK (aa aj (aa (lA (vd 4) (cm (mK U) Ip U T.max PyProof.Rows.boot_max (aa (ak hr eE (aa (vd 0) (aa (fE T.len (aa (vd 4) ae)) ae))) (aa (ak hr eE (aa (vd 0) (aa (fE T.len (aa (vd 4) ae)) ae))) ae)))) ae)))))
 aD)
 (af (bw (ax aL bH (vd 3) aj (au _))
 (ah (aX (aK (aa aj (aa (ak hr eE (aa (vd 0) (aa (lA (DN.de (az (aa ag (aa ag (aa ag ae))))) (ak hr eE (aa (vd 0) (aa ag ae)))) ae))) ae)))))
 aD)
 (af (sS 5 jH.nd (lA (DN.de (nC ["_law_one"] [3] (aE (ic (bP (dm hr) (DE.pe (vd 1)) (DE.pe aj) (λ_ _=>rfl)))) (λ_ _ _ _=>(gM 0 ["_law_one","_law_kind"])) (λ_ _ _ _=>fK (ax aL bH (bN (vd 0) ag) (vd 1) (au _)))
 (λ_ _ _ _=>(bN (bN (vd 0) ag) ag)))) ag))
 (ah (aX (aK (aa aj (aa (bN (vd 5) ag) (aa (iE T.tuple (aa (DN.de (nC ["_law_field"] [0,1,2] (aE (bN (vd 5) ag)) (λ_ _ _ _=>(gM 0 ["_law_field","_law_deal_here","_law_world_here","_law_scope"])) (λ_ _ _ _=>bD)
 (λ_ _ _ _=>(ak hr Qo (aa (vd 1) (aa (vd 2) (aa (vd 3) (aa aj ae)))))))) ae)) ae)))))))))),λds R h=>?_]
  .let(W,sc,k,rfl,_):=h
   rfl
  .let(W,sc,k,rfl,(cb,sok,hk,hk0),q):=h;show#[_,U,_,.inl U,?_];show bp pairD (λp=>D.str p.1) (λp=>decide (p.2=k)) _ (λp hp kk N h1 h2=>?_) ?_
   .refine#[_,U,U,_,_,U,_,_,U,U,?_];show#[_,U,_,U,#[U,U,U],_,U,?_];exact aN (b':=decide (p.2=k)) cN (λe=>#[_,U,h1 e _ U]) λe=>h2 e _ U
   .rw[VY];show#[_,U,#[c5 λp hp=>?_,U,.inr ()],_,U,?_]
    .exact (sok.nm cb p ((Wo.mp hp).1)).ok
    refine' jn ?i7 λi7=>?main
    case main =>
     by_cases how:sc.filter (λp=>decide (p.2=k))=[]
     .exact fe (by rw[how];rfl) i7
     have hol:0 < (sc.filter λp=>decide (p.2=k)).length:=XC.mpr how;have hol2:(sc.filter λp=>decide (p.2=k)).length<=15:=VF (V9 _ _) sok.len;show ky ?_ ?_
     .let(p0,r0,e):=WT how;rw[e]
      rfl
     show#[_,U,_,U,#[by decide,by decide],λr r0 r1=>?_];show#[_,_,U,U,_,U,?_];show aN U (λ_=>?_) λ_=>i7;show#[_,U,?_];show#[_,U,_,U,_,.inl U,_,U,#[by rw[Vv];cbv,by rw[Vv];cbv],λa a0 a1=>?_];show#[_,U,_,U,_,.inl U,_,U,#[by rw[Vv];cbv,by rw[Vv];cbv],λb b0 b1=>?_];show#[_,_,U,?_];rw[Vv] at a1 b1;let(p,hp,ep):=k6 (f:=λp:Str×Str=>D.str p.1) (xs:=sc.filter λp=>decide (p.2=k)) (r:=if a < b then b else a) (by split<;>cbv) (by split<;>cbv);show#[_,_,_,U,U,ep,?_];let(hp1,hp2):=Wo.mp hp;have hp2:p.2=k:=by simpa using hp2
     exact q (.node (.nm p.1) []) (Ty.mk (.nm (hp2▸hp1)) fF.nil) zc
    case i7 =>
     show#[_,U,#[U,U,U],_,U,?_];show aN (b':=decide (k="number")) cN (λe=>?_) λe=>?_
     .have e:k="number":=by simpa using e
      show#[_,U,_,U,_,U,#[by decide,by decide],λr r0 r1=>?_];have h3:∃ m:Int,jd [D.int 3,D.int 10,D.int 1000000] r=some (.int m)/\1<=m/\m<=1000000:=by
       have:r=0\/r=1\/r=2:=by cbv
       rcases this with rfl | rfl | rfl
       .exact#[3,U,by decide,by decide]
       .exact#[10,U,by decide,by decide]
       .exact#[1000000,U,by decide,by decide]
      let(m,em,hm0,PD):=h3;show#[_,_,_,U,U,em,?_];show#[_,U,#[by cbv,by cbv],λi i0 i1=>?_];exact q (.node (.num i) []) (e▸Ty.mk (.num i0 (by cbv)) fF.nil) zc
     .have e:k≠"number":=by simpa using e
      let(kd,hkd,hmk,hnm,nn,BJ):=kinds_of cb hk e;let(m0,mr,hms):=WT hmk;show#[_,U,?_];show eX #[_,U,_,.inl U,?_];show bp lb (λk=>(k.b8.map eL).headD .cA) (λx=>decide (x.name=k)) _ (λx hx kk N h1 h2=>?_) ?_
      .refine#[_,U,_,_,_,U,U,U,_,U,#[U,U,U],_,U,?_];show aN (b':=decide (x.name=k)) cN (λe=>?_) λe=>h2 e _ U;have ex:x=kd:=uQ cb hx hkd (by rw[hnm];simpa using e);subst ex;show#[_,U,_,_,_,U,U,U,?_];have h1':=h1 e;rw[hms] at h1' ⊢;exact#[_,_,_,U,U,cM,h1' _ U]
      rw[BJ,List.replicate_succ,VE,VY,hms];show#[_,_,_,U,U,cM,?_];obtain⟨n',rfl⟩:∃ n',n=n'+1:=#[n - 1,by have:=mt hk0 e;cbv];show#[_,U,_,_,_,U,U,U,?_];show#[_,U,_,_,_,U,U,U,_,.inr U,?_];show fb pairD toD (λp t=>Ty W sc "number" t/\t.lf (n'+1) "number") _ (λp hp k hk=>?_) λts hts=>?_
      .exact#[_,U,_,U,_,U,W,sc,"number",U,#[cb,sok,.inl U,λ_=>rfl],λt ht hd=>hk t _ #[ht,hd] rfl]
      .refine#[_,.inl U,?_];have hm0:m0∈kd.b8:=by rw[hms];exact Vx
       have:=q (.node (.mk m0.name) ts) (hnm▸Ty.mk (.mk hkd hm0) ?_) ?_
       .rw[toD,toDs_map] at this;exact this
       .have hf:=cb.ft kd hkd m0 mr hms;show yk hts λp hp t ht=>?_;rw[hf p hp];exact ht.1
       .refine FP e (by have:=gm hts;have:=(cb.mo kd hkd m0 hm0).2.1;cbv) λt ht=>?_;let(_,_,h):=f7 hts t ht;exact h.2
def Mp(d:AT):Nat->Yd
 | 0=>λ_ _=>False
 | n+1=>λds R=>∃ (W:cZ) (sc:!(Str×Str)) (k:Str) (room:Int),ds=[.fO d,mE W,.lst (sc.map pairD),.str k,.int room]/\(iQ W/\kY W sc/\vx W k/\0<=room/\room<=n+1/\room<=16)/\∀ t:Tm,Ty W sc k t->t.rq (n+2) room.toNat->R (toD t)
def Ue(d:AT):Nat->Yd
 | 0=>λ_ _=>False
 | n+1=>λds R=>∃ (W:cZ) (sc:!(Str×Str)) (ks:!Str) (room:Int),ds=[.fO d,mE W,.lst (sc.map pairD),.lst (ks.map .str),.int room]/\(iQ W/\kY W sc/\(∀ k∈ks,vx W k)/\ks.length<=100/\0<=room/\room<=n+1/\room<=16)/\∀ ts:!Tm,fF W sc (ks.map λk=>([],k)) ts->(∀ t∈ts,t.rq (n+2) (room.toNat / max 1 ts.length))->R (.tup (ts.map toD))
theorem Ou{d l:AT}{n lv:Nat}(vL:C4 P w K mg base aQ dJ lv (cg K (aW d l) (Mp d n)))(F:Own K mg hV)(T:Txt K mg):C4 P w K mg base aQ hV (lv+1) (cg K (aW d l) (Ue d n)):=by
 show F.c λf fd F=>?_;cases n with
 | zero=>exact qb
 | succ n =>
 show Qn (nos:=0) F yh (λds R h=>?_) λbT A outer s H E M hr=>#[_,(ah (aX (iE T.tuple (aa (DN.de (nC ["_law_kind"] [0,1,2,4,3] (aE (vd 3)) (λ_ _ _ _=>(gM 0 ["_law_kind","_law_deal_here","_law_world_here","_law_scope","_law_room","_law_some"])) (λ_ _ _ _=>bD)
 (λ_ _ _ _=>(ak hr vL (aa (vd 1) (aa (vd 2) (aa (vd 3) (aa (vd 0) (aa (bc cY A1 (vd 4) (cm (mK U) Ip U T.max PyProof.Rows.boot_max (aa ag (aa (fE T.len (aa (vd 5) ae)) ae)))) ae))))))))) ae)))),λds R h=>?_]
 .let(W,sc,ks,room,rfl,_):=h
  rfl
 .let(W,sc,ks,room,rfl,(cb,sok,hks,hl,h0,h1,Bz),q):=h;have em:(if ((ks.map D.str).length:Int) > 1 then ((ks.map D.str).length:Int) else 1)=((max 1 ks.length:Nat):Int):=by
   rw[Vv];split<;>cbv
  have hmx:1<=max 1 ks.length/\max 1 ks.length<=100:=by cbv
  generalize hM:max 1 ks.length=m at em hmx;have hq:(room / (m:Int)).toNat=room.toNat / m:=by
   let(r,rfl):=Xl h0
   rfl
  have hle:=Int.ediv_le_self (m:Int) h0;show#[_,U,_,.inl U,?_];show fb D.str toD (λk t=>Ty W sc k t/\t.rq (n+2) (room.toNat / m)) _ (λk hk kk hkk=>?_) λts hts=>?_
  .refine#[_,U,_,U,_,U,_,U,_,U,?_];show#[_,U,_,.inl U,_,_,U,?_];rw[em];show#[_,_,U,U,#[by cbv,by cbv],?_];show#[W,sc,k,room / m,U,#[cb,sok,hks k hk,X6 h0 (by cbv),by cbv,by cbv],λt ht hd=>hkk t _ #[ht,by rw[<- hq];exact hd] rfl]
  .refine#[_,.inl U,?_];show q ts (yk hts λk _ t ht=>ht.1) λt ht=>?_;rw[show ts.length=ks.length by have:=gm hts;cbv,hM];let(_,_,h):=f7 hts t ht;exact h.2
def Rv(d:AT)(n:Nat):Yd:=λds R=>∃ (W:cZ) (sc:!(Str×Str)) (k:Str) (room:Int),ds=[.fO d,mE W,.lst (sc.map pairD),.str k,.int room]/\(iQ W/\kY W sc/\vx W k/\sc.length<=12/\2<=room/\room<=n+1/\room<=16)/\R .cA/\∀ t:Tm,Ty W sc k t->t.rq (n+2) room.toNat->R (toD t)
def DU(c:Kd×iM):D:=.tup [.str c.1.name,.str c.2.name,jb c.2.ps]
theorem Ng{d l:AT}(eE:C4 P w K mg base aQ a9 1 (cg K (aW d l) (gE d))){n lv:Nat}(IP:aa0 P w K mg base c8 1 PX)(Pe:C4 P w K mg base aQ hV lv (cg K (aW d l) (Ue d n)))(F:Own K mg jN)(T:Txt K mg)(P4:1<=lv):C4 P w K mg base aQ jN (lv+1) (cg K (aW d l) (Rv d n)):=by
 show F.d (nos:=1) cy (λds R h=>?_) λf bT A outer s H E M hr=>#[_,(af (sN 0 5 cy.nd (az ae))
 (af (sF (aE (bB hr IP (aa (vd 1) ae))) (bO (m:=4) U (aq (gN 6 cy.nd) (aq (kP (fo (i:=7) cy.nd U (Or.inr U)) ()) (aq (gN 8 cy.nd) (aq (gN 9 cy.nd) bQ)))))
 (ah (iA (pY Wu Wv eZ pQ (pv 5) (aa (DN.de (nC ["_law_f","_law_params","_law_result"] [7,3] (aE (vd 9)) (λ_ _ _ _=>(bO (m:=3) U (aq (gM 0 ["_law_f","_law_params","_law_result","_law_kk","_law_kind"]) (aq (gM 1 ["_law_f","_law_params","_law_result","_law_kk","_law_kind"]) (aq (gM 2 ["_law_f","_law_params","_law_result","_law_kk","_law_kind"]) bQ))))) (λ_ _ _ _=>fK (ax aL bH (vd 2) (vd 4) (au _)))
 (λ_ _ _ _=>(aK (aa (vd 3) (aa (vd 0) (aa (vd 1) ae))))))) ae)))))
 (af (bw (Cm (qu (nZ hr)) (pv 5) (DN.de (az ae)) (au _))
 (ah (aX qc))
 aD)
 (af (vV (n:=1000) (NM (Ii vp (pv 5) (DE.pe (ak hr eE (aa (vd 0) (aa (uG (ee c9 U T.len WY (cq (pv 5) d6))) ae)))) (λ_ _=>rfl))) (bO (m:=3) U (aq (kP (fo (i:=7) cy.nd U (Or.inr U)) ()) (aq (gN 10 cy.nd) (aq (gN 11 cy.nd) bQ)))))
 (af (sS 12 cy.nd (ak hr Pe (aa (vd 0) (aa (vd 1) (aa (vd 2) (aa (DN.de (bz aR aT (DN.de (az (aa (vd 7) ae))) (DN.de (nC ["_law_param"] [] (aE (vd 11)) (λ_ _ _ _=>(gM 0 ["_law_param"])) (λ_ _ _ _=>bD)
 (λ_ _ _ _=>(bN (vd 0) ag)))))) (aa (bc iP fC (vd 4) ag) ae)))))))
 (ah (aX (aK (aa aj (aa (bN (vd 12) ag) (aa (vd 10) (aa (dC (vd 12) (bb ag) cx) ae)))))))))))),λds R h=>?_]
 .let(W,sc,ks,room,rfl,_):=h
  rfl
 .let(W,sc,k,room,rfl,(cb,sok,hk,hsl,h0,h1,Bz),qn,q):=h;obtain⟨n',rfl⟩:∃ n',n=n'+1:=#[n - 1,by cbv];have hsz:=aH;show#[#[U,U],?_];show#[_,U,W,U,cb,_,.inl U,?_];show cO (λxs s=>∃ (ks:!Kd) (cs:!(Kd×iM)) (x6 x7 x8 x9 cP eJ gq:Sl),xs=ks.map lb/\(∀ c∈ks,c∈things W)/\(∀ c∈cs,c.1∈things W/\c.2∈c.1.cF/\c.2.res=k)/\cs.length+5 * ks.length<=25/\s=#[[.dat (.fO d),.dat (mE W),.dat (.lst (sc.map pairD)),.dat (.str k),.dat (.int room),.own 0,x6,x7,x8,x9,cP,eJ,gq],[some (.lst (cs.map DU))]]) ?_ ?_ _ _ #[things W,[],.no,.no,.no,.no,.no,.no,.no,U,λ_ h=>h,λ_ h=>(nomatch h),?_,U]
  .rintro s ⟨ks,cs,x6,x7,x8,x9,cP,eJ,gq,hx,_,hcs,hcl,rfl⟩;show#[0,_,U,U,_,U,#[c5 λc hc=>?_,U,.inr ()],_,U,?_]
   .let(c1,c2,c3):=hcs c hc;have c1:=(gc.mp c1).1;let(a1,a2,a3):=cb.ao c.1 c1 c.2 c2;change (FS.strOk c.1.name&&(FS.strOk c.2.name&&(iq (jb c.2.ps)&&true)))=true;rw[(cb.kw c.1 c1).1.ok,a1.ok,uL cb (λx hx=>cb.nm x (Wa _ (WA hx))) a2]
    rfl
   by_cases hcn:cs=[]
   .exact ky (by rw[hcn];rfl) qn
   show fe ?_ ?_
   .let(c0,r0,e):=WT hcn;rw[e]
    rfl
   have UR:0 < cs.length:=XC.mpr hcn;show#[0,U,_,U,0,_,U,U,_,U,#[by rw[Vv];omega,by rw[Vv];omega],λr r0 r1=>?_];let(c,hc,ec):=k6 (f:=DU) (xs:=cs) r0 (by simpa using r1);show#[_,_,_,U,U,ec,?_];let(c1,c2,c3):=hcs c hc;let(c1,c4):=gc.mp c1;let(a1,a2,a3):=cb.ao c.1 c1 c.2 c2;show#[_,U,U,_,_,U,_,_,U,_,_,U,U,?_];show#[_,U,_,U,_,U,_,U,_,U,_,.inr U,?_];show ba pairD (λp=>D.str p.2) _ (λp hp k2 hk2=>#[_,U,_,_,_,U,U,U,hk2 _ U]) ?_;have hps:=a2.1;show#[_,_,U,U,by simp;cbv,?_];show#[_,U,_,_,U,U,?_];show#[W,sc,c.1.name::c.2.ps.map (·.2),room - 1,?_,#[cb,sok,λx hx=>?_,by simp;cbv,by cbv,by cbv,by cbv],λts hts hd=>?_]
   .rw[VE,V2]
    rfl
   .rcases VG.mp hx with rfl | hx
    .exact .inr #[c.1,c1,c4,U]
    .let(p,hp,rfl):=VI.mp hx;exact a2.2.2 p hp
   have hl:=hts.len;let(t0,tr,rfl):=mP (l:=ts) (by rw[hl];simp);show#[_,U,_,_,_,U,U,cM,?_];show#[_,U,_,U,_,U,_,U,?_];change R (.tup [.str "ask",toD t0,.str c.2.name,.tup (cutD (toD t0::tr.map toD) (some 1) none)]);rw[Bj];have:=q (.node (.ask c.2.name) (t0::tr)) (c3▸Ty.mk (.ask c1 c4 c2) (by rw[List.map_cons,List.map_map] at hts;exact hts)) (j5 (q:=(room.toNat - 1) / max 1 (t0::tr).length) (λt ht=>by have:=hd t ht;rw[show (room - 1).toNat=room.toNat - 1 by cbv] at this;exact this) (xT (by cbv) (by cbv) (by rw[hl];simp;cbv)));rw[toD,toDs_map] at this;exact this
  .rintro x xs s N ⟨ks,cs,x6,x7,x8,x9,cP,eJ,gq,hx,hks,hcs,hcl,rfl⟩ hN hE_;cases ks with
   | nil=>cases hx
   | cons kd ks =>
   injection hx with e1 e2;subst e1 e2;have hkd:=gc.mp (hks kd Vx);show#[_,U,U,_,_,U,_,_,U,_,_,U,_,_,U,U,?_];show#[0,_,U,U,U,?_];show#[_,U,_,.inr U,?_];show bp eQ (λa=>DU (kd,a)) (λa=>decide (a.res=k)) _ (λa ha kk N2 g1 g2=>?_) ?_
   .refine#[_,U,U,_,_,U,_,_,U,_,_,U,U,?_];show#[_,U,_,U,#[U,U,U],_,U,?_];exact aN (b':=decide (a.res=k)) cN (λe=>#[_,U,_,U,_,U,g1 e _ U]) λe=>g2 e _ U
   have hal:(kd.cF.filter λa=>decide (a.res=k)).length<=5:=VF (V9 _ _) (cb.kw kd hkd.1).2.2;rw[VY];have hcl2:cs.length+5 * (ks.length+1)<=25:=hcl;show#[_,U,_,_,U,U,by rw[Vv,Vv];cbv,?_];show hN _ #[ks,cs++(kd.cF.filter λa=>decide (a.res=k)).map λa=>(kd,a),.dat (.str (bM kd.asked)),.dat (.str kd.name),.dat (.tup (kd.b8.map eL)),.dat (.tup (kd.cF.map eQ)),cP,eJ,gq,U,λc hc=>hks c (Vy _ hc),λc hc=>?_,by rw[Vw,Vv];cbv,?_]
   .rcases VM.mp hc with hc | hc
    .exact hcs c hc
    .let(a,ha,rfl):=VI.mp hc;let(ha1,ha2):=Wo.mp ha;exact#[hks kd List.mem_cons_self,ha1,by simpa using ha2]
   .rw[VA,V2]
    rfl
  .have h2:(things W).length<=W.kinds.length:=V9 _ _;have:=cb.kl;simp;cbv
theorem IJ{room:Int}{c:Nat}(h0:2<=room):((room - 1) / (1+(c:Int))).toNat=(room.toNat - 1) / (1+c):=by
 obtain⟨r,rfl⟩:∃ r:Nat,room=r+1:=#[(room - 1).toNat,by cbv];have e0:((r:Int)+1 - 1) / (1+(c:Int))=((r / (1+c):Nat):Int):=by
  rw[Int.add_sub_cancel]
  rfl
 rw[e0,W4]
 rfl
theorem Cf{f:Fm}{ta:Tm}{ts:!Tm}{n c:Nat}{room:Int}(hl:ts.length<=c)(hc:c<=5)(h0:2<=room)(Bz:room<=16)(h1:ta.rq n (room / 3).toNat)(h:∀ t∈ts,t.rq n ((room - 1) / (1+(c:Int))).toNat):(Tm.node f (ta::ts)).rq (n+1) room.toNat:=by
 rw[show (room / 3).toNat=room.toNat / 3 by cbv] at h1;exact K6 h1 (λt ht=>by have:=h t ht;rw[IJ h0] at this;exact this) hl hc (by cbv) (by cbv)
theorem GP{f:Fm}{ts:!Tm}{n c:Nat}{room:Int}(hl:ts.length<=c)(hc:c<=5)(h0:2<=room)(Bz:room<=16)(h:∀ t∈ts,t.rq n ((room - 1) / (1+(c:Int))).toNat):(Tm.node f ts).rq (n+1) room.toNat :=
 JA (λt ht=>by have:=h t ht;rw[IJ h0] at this;exact this) hl hc (by cbv) (by cbv)
def U8(W:cZ)(sc:!(Str×Str))(k:Str)(n q:Nat)(ms:!j4)(sub:!(j4×!Str))(ts:!Tm):Prop :=
 (sub.map (·.1)).Sublist ms/\(∀ p∈sub,p.2.length=p.1.fs.length/\xt W sc p.2)/\fF W sc (sub.map λp=>(p.2.zip (p.1.fs.map (·.2)),k)) ts/\∀ t∈ts,t.rq (n+2) q
theorem sJ{ns:!Str}:∀ {ps:!(Str×Str)},ow (ns.map D.str) (ps.map λp=>D.str p.2)=(ns.zip (ps.map (·.2))).map pairD:=by
 induction ns with
 | nil=>intro ps;rfl
 | cons x xs ih =>
  intro ps;cases ps with
  | nil=>rfl
  | cons p ps =>
   have:=ih (ps:=ps);unfold ow at this ⊢;rw[VE,VE,List.zipWith_cons_cons,this]
   rfl
theorem kH:∀ (hs:!(Str×!Str)) (ts:!D) (h:Str×!Str) (k:D),hs.length=ts.length->bA (hs++[h]) (ts++[k])=bA hs ts++[AE h k]
 | [],[],h,k,_=>rfl
 | [],_::_,h,k,e=>by simp at e
 | _::_,[],h,k,e=>by simp at e
 | a::hs,t::ts,h,k,e=>by
  rw[List.cons_append,List.cons_append,bA,kH hs ts h k (by simpa using e)]
  rfl
theorem mR:∀ (hs:!(Str×!Str)) (l:!D),(bA hs l).length<=l.length
 | [],[]=>by simp[bA]
 | [],_::_=>by simp[bA]
 | _::_,[]=>by simp[bA]
 | _::hs,_::l=>by simpa [bA] using mR hs l
theorem NR{d l:AT}(eE:C4 P w K mg base aQ a9 1 (cg K (aW d l) (gE d))){n lv:Nat}(IP:aa0 P w K mg base c8 1 PX)(vL:C4 P w K mg base aQ dJ lv (cg K (aW d l) (Mp d n)))(HD:C4 P w K mg base aQ dR 2 (cg K (aW d l) (PZ d)))(F:Own K mg iy)(T:Txt K mg)(P4:2<=lv):C4 P w K mg base aQ iy (lv+1) (cg K (aW d l) (Rv d n)):=by
 show F.d (nos:=1) bu (λds R h=>?_) λf bT A outer s H E M hr=>#[_,(af (gF (tV (nj (i:=5) bu.nd U U (ts:=["_law_one"]) (us:=[]) #[U,U,U,U,U,U] rfl (aE (bB hr IP (aa (vd 1) ae))) (λ_ _ _ _=>(gM 0 ["_law_one"])) (λ_ _ _ _=>fK (ax aL bH (bN (vd 0) ag) aj (au _)))
 (λ_ _ _ _=>(vd 0)))))
 (af (bw (ax (qu (nZ hr)) sU (vd 5) (DN.de (az ae)) (au _))
 (ah (aX qc))
 aD)
 (af (vV (n:=1000) (lA (vd 5) (ak hr eE (aa (vd 0) (aa (fE T.len (aa (vd 5) ae)) ae)))) (bO (m:=4) U (aq (gN 6 bu.nd) (aq (gN 7 bu.nd) (aq (gN 8 bu.nd) (aq (gN 9 bu.nd) bQ))))))
 (af (sS 10 bu.nd (ak hr vL (aa (vd 0) (aa (vd 1) (aa (vd 2) (aa (vd 7) (aa (bc cY A1 (vd 4) ag) ae)))))))
 (af (sN 0 11 bu.nd (az ae))
 (af (sF (aE (vd 8)) (bO (m:=2) U (aq (gN 12 bu.nd) (aq (gN 13 bu.nd) bQ)))
 (af (sS 14 bu.nd (ak hr HD (aa (vd 0) (aa (vd 1) (aa (vd 2) (aa (fE T.len (aa (vd 13) ae)) ae))))))
 (af (sS 15 bu.nd (DN.de (bz aR aT (vd 2) (DN.de (sE U U T.list U T.zip (aa (vd 14) (aa (DN.de (nC ["_law_field"] [] (aE (vd 13)) (λ_ _ _ _=>(gM 0 ["_law_field"])) (λ_ _ _ _=>bD)
 (λ_ _ _ _=>(bN (vd 0) ag)))) ae)))))))
 (ah (bw (ax ku nk (ak hr eE (aa (vd 0) (aa ag ae))) ag (au _))
 (ah (la 11 (aa (aK (aa (vd 12) (aa (vd 14) (aa (ak hr vL (aa (vd 0) (aa (vd 1) (aa (vd 15) (aa (vd 3) (aa (bc cY A1 (bc iP fC (vd 4) ag) (bc b7 fC ag (fE T.len (aa (vd 8) ae)))) ae)))))) ae)))) ae)))
 aD)))))
 (ah (aX (aK (aa aj (aa (vd 10) (aa (vd 3) (aa (iE T.tuple (aa (sX (pv 11)) ae)) ae))))))))))))),λds R h=>?_]
 .let(W,sc,ks,room,rfl,_):=h
  rfl
 .let(W,sc,k,room,rfl,(cb,sok,hk,hsl,h0,h1,Bz),qn,q):=h;obtain⟨n',rfl⟩:∃ n',n=n'+1:=#[n - 1,by cbv];have hsz:=aH;show#[_,U,W,U,cb,_,.inl U,?_];show bp lb lb (λx=>decide (bM x.asked="made")) _ (λx hx kk N g1 g2=>?_) ?_
  .refine#[_,U,_,_,_,U,U,U,#[U,U,U],_,U,?_];exact aN (b':=decide (bM x.asked="made")) cN (λe=>#[_,U,g1 e _ U]) λe=>g2 e _ U
  rw[VY];generalize hsm:(things W).filter (λx=>decide (bM x.asked="made"))=sm;have hmem:∀ x∈sm,x∈W.kinds/\x.b8≠[]/\x.asked=false:=λx hx=>by
   rw[<- hsm] at hx;let(a,b):=Wo.mp hx;let(c1,c2):=gc.mp a;show#[c1,c2,?_];cases e:x.asked with
   | false=>rfl
   | true=>rw[e] at b;revert b;decide+kernel
  have hsml:sm.length<=5:=by
   rw[<- hsm];show VF (V9 _ _) (VF (V9 _ _) cb.kl)
  have hpk:iq (.lst (sm.map lb))=true:=c5 λx hx=>BY cb (hmem x hx).1;show#[_,U,#[hpk,U,.inr ()],_,U,?_];by_cases hsn:sm=[]
  .exact ky (by rw[hsn];rfl) qn
  show fe ?_ ?_
  .let(c0,r0,e):=WT hsn;rw[e]
   rfl
  have hs0:0 < sm.length:=XC.mpr hsn;show#[_,U,_,U,_,U,_,.inl U,_,U,#[by rw[Vv];omega,by rw[Vv];omega],λr r0 r1=>?_];let(kd,hkd,ekd):=k6 (f:=lb) (xs:=sm) r0 (by simpa using r1);let(k1,k2,k3):=hmem kd hkd;show#[_,_,_,U,U,ekd,?_];show#[_,U,U,_,_,U,_,_,U,_,_,U,_,_,U,U,?_];show#[_,U,_,U,_,U,_,U,_,U,_,_,U,U,#[by decide,by decide],?_];show#[W,sc,kd.name,room / 3,U,#[cb,sok,.inr #[kd,k1,k2,U],by cbv,by cbv,by cbv],λta hta hda=>?_];show#[#[U,U],?_];show#[_,U,_,.inr U,?_];have GR:=(cb.kw kd k1).2.1;show cO (λxs s=>∃ (dn td:!j4) (sub:!(j4×!Str)) (ts:!Tm) (gq hJ w9 xa:Sl),kd.b8=dn++td/\xs=td.map eL/\U8 W sc k n' ((room - 1) / (1+((kd.b8.map eL).length:Int))).toNat dn sub ts/\s=#[[.dat (.fO d),.dat (mE W),.dat (.lst (sc.map pairD)),.dat (.str k),.dat (.int room),.dat (.lst (sm.map lb)),.dat (.str (bM kd.asked)),.dat (.str kd.name),.dat (.tup (kd.b8.map eL)),.dat (.tup (kd.cF.map eQ)),.dat (toD ta),.own 0,gq,hJ,w9,xa],[some (.lst (bA (sub.map λp=>(p.1.name,p.2)) (ts.map toD)))]]) ?_ ?_ _ _ #[[],kd.b8,[],[],.no,.no,.no,.no,U,U,#[Xd _,λ_ h=>(nomatch h),fF.nil,λ_ h=>(nomatch h)],U]
  .rintro s ⟨dn,td,sub,ts,gq,hJ,w9,xa,hdt,hx,⟨i1,i2,i3,i4⟩,rfl⟩;have htd:td=[]:=by
    cases td with
    | nil=>rfl
    | cons a b=>cases hx
   rw[htd,VJ] at hdt;show#[_,U,_,U,?_];show .inr #[_,_,U,U,?_];show#[_,.inl U,?_];have:=q (.node (.k7 k (sub.map λp=>(p.1.name,p.2))) (ta::ts)) (Ty.mk (.k7 k1 k2 k3 (hdt▸i1) i2) (fF.t8 hta i3)) ?_
   .rw[toD,toDs_map] at this;exact this
   .have e1:ts.length=sub.length:=by rw[i3.len,Vv]
    have e2:=i1.length_le;rw[Vv] at e2;have e3:=congrArg List.length hdt;exact Cf (VF (Xq e1) (VF e2 (Xq e3.symm))) GR h0 Bz hda (by rw[Vv] at i4;exact i4)
  .rintro x xs s N ⟨dn,td,sub,ts,gq,hJ,w9,xa,hdt,hx,⟨i1,i2,i3,i4⟩,rfl⟩ hN hE_;cases td with
   | nil=>cases hx
   | cons m td =>
   injection hx with e1 e2;subst e1 e2;have hm:m∈kd.b8:=by rw[hdt];simp
   let(m1,m2,m3,m4):=cb.mo kd k1 m hm;show#[_,U,U,_,_,U,_,_,U,U,?_];show#[_,U,_,U,_,U,_,U,_,.inr U,?_];show#[W,sc,m.fs.length,by rw[Vv],#[cb,sok,m2,by cbv],λns oo hb=>?_];show#[_,U,_,U,_,U,_,.inr U,?_];show ba pairD (λp=>D.str p.2) _ (λp hp k2 hk2=>#[_,U,_,_,_,U,U,U,hk2 _ U]) ?_;rw[VY];show#[_,_,_,_,U,#[U,U],?_];rw[sJ];show#[_,_,U,U,by simp;cbv,?_];rw[<- VA];show#[_,U,_,U,#[by decide,by decide],λr2 r20 r21=>?_];show#[_,_,U,U,_,U,?_];show aN U (λ_=>?_) λ_=>?_
   rotate_left
   .exact hN _ #[dn++[m],td,sub,ts,.dat (.str m.name),.dat (jb m.fs),.dat (.tup (ns.map D.str)),_,by rw[hdt];simp,U,#[i1.trans (List.sublist_append_left _ _),i2,i3,i4],U]
   show#[0,_,U,U,U,?_];show#[_,U,_,U,?_];show#[_,U,_,U,_,U,_,U,?_];show#[_,U,_,_,U,U,?_];show#[_,U,_,.inr U,_,_,U,U,?_];show#[_,_,U,U,#[by rw[Vv];cbv,by rw[Vv];cbv],?_];have hdl:0<=(room - 1) / (1+((kd.b8.map eL).length:Int))/\(room - 1) / (1+((kd.b8.map eL).length:Int))<=room - 1:=#[X6 (by cbv) (by cbv),Int.ediv_le_self _ (by cbv)];show#[W,sc++ns.zip (m.fs.map (·.2)),k,_,U,#[cb,sok.more hb (by rw[oo,Vv]) (λx hx=>?_) (by cbv),hk,hdl.1,by have:=hdl.2;cbv,by have:=hdl.2;cbv],λt ht hd=>?_]
   .let(p,hp,rfl):=VI.mp hx;exact m4 p hp
   have htl:ts.length=sub.length:=by rw[i3.len,Vv]
   have hsub:=i1.length_le;have hdl2:=congrArg List.length hdt;rw[Vw] at hdl2;rw[Vv] at hsub;show#[_,U,_,_,U,U,?_,?_]
   .have:=mR (sub.map λp=>(p.1.name,p.2)) (ts.map toD);rw[Vv] at this;cbv
   show hN _ #[dn++[m],td,sub++[(m,ns)],ts++[t],.dat (.str m.name),.dat (jb m.fs),.dat (.tup (ns.map D.str)),.dat (.lst ((sc++ns.zip (m.fs.map (·.2))).map pairD)),by rw[hdt];simp,U,#[?_,λp hp=>?_,?_,λu hu=>?_],?_]
   rotate_right
   .have e:bA ((sub++[(m,ns)]).map λp=>(p.1.name,p.2)) ((ts++[t]).map toD)=bA (sub.map λp=>(p.1.name,p.2)) (ts.map toD)++[AE (m.name,ns) (toD t)]:=by
     rw[VA,VA];exact kH _ _ _ _ (by rw[Vv,Vv];exact htl.symm)
    rw[e]
    rfl
   .rw[VA];exact XA i1 (Xd _)
   .rcases VM.mp hp with hp | hp
    .exact i2 p hp
    .rw[VH.mp hp];exact#[oo,hb]
   .rw[VA];exact fF.app i3 (fF.cons ht fF.nil)
   .rcases VM.mp hu with hu | hu
    .exact i4 u hu
    .rw[VH.mp hu];exact hd
def Vj(W:cZ)(sc:!(Str×Str))(n q:Nat)(ms:!iM)(sub:!(iM×!Str))(ts:!Tm):Prop :=
 (sub.map (·.1)).Sublist ms/\(∀ p∈sub,p.2.length=p.1.ps.length/\xt W sc p.2)/\fF W sc (sub.map λp=>(p.2.zip (p.1.ps.map (·.2)),p.1.res)) ts/\∀ t∈ts,t.rq (n+2) q
theorem MA{d l:AT}(eE:C4 P w K mg base aQ a9 1 (cg K (aW d l) (gE d))){n lv:Nat}(vL:C4 P w K mg base aQ dJ lv (cg K (aW d l) (Mp d n)))(HD:C4 P w K mg base aQ dR 2 (cg K (aW d l) (PZ d)))(F:Own K mg jX)(T:Txt K mg)(P4:2<=lv):C4 P w K mg base aQ jX (lv+1) (cg K (aW d l) (Rv d n)):=by
 show F.d (nos:=1) cG (λds R h=>?_) λf bT A outer s H E M hr=>#[_,(af (gF (tV (nj (i:=5) cG.nd U U (ts:=["_law_one"]) (us:=[3]) #[U,U,U,U,U,U] rfl (aE (ic (bP (dm hr) (DE.pe (vd 1)) (DE.pe aj) (λ_ _=>rfl)))) (λ_ _ _ _=>(gM 0 ["_law_one","_law_kind"])) (λ_ _ _ _=>fK (DW.dt (kZ (ax aL bH (bN (vd 0) ag) aj (au _)) (i5 (ax aL bH (bN (vd 0) ag) (vd 1) (au _))))))
 (λ_ _ _ _=>(vd 0)))))
 (af (bw (ax (qu (nZ hr)) sU (vd 5) (DN.de (az ae)) (au _))
 (ah (aX qc))
 aD)
 (af (sS 6 cG.nd (bN (lA (vd 5) ag) ag))
 (af (sN 0 7 cG.nd (az ae))
 (af (sF (aE (vd 6)) (bO (m:=3) U (aq (gN 8 cG.nd) (aq (gN 9 cG.nd) (aq (gN 10 cG.nd) bQ))))
 (af (sS 11 cG.nd (ak hr HD (aa (vd 0) (aa (vd 1) (aa (vd 2) (aa (fE T.len (aa (vd 9) ae)) ae))))))
 (af (sS 12 cG.nd (DN.de (bz aR aT (vd 2) (DN.de (sE U U T.list U T.zip (aa (vd 11) (aa (DN.de (nC ["_law_param"] [] (aE (vd 9)) (λ_ _ _ _=>(gM 0 ["_law_param"])) (λ_ _ _ _=>bD)
 (λ_ _ _ _=>(bN (vd 0) ag)))) ae)))))))
 (ah (bw (ax ku nk (ak hr eE (aa (vd 0) (aa ag ae))) ag (au _))
 (ah (la 7 (aa (aK (aa (vd 8) (aa (vd 11) (aa (ak hr vL (aa (vd 0) (aa (vd 1) (aa (vd 12) (aa (vd 10) (aa (bc cY A1 (bc iP fC (vd 4) ag) (bc b7 fC ag (fE T.len (aa (vd 6) ae)))) ae)))))) ae)))) ae)))
 aD)))))
 (ah (aX (aK (aa aj (aa (vd 3) (aa (iE T.tuple (aa (sX (pv 7)) ae)) ae))))))))))),λds R h=>?_]
 .let(W,sc,ks,room,rfl,_):=h
  rfl
 .let(W,sc,k,room,rfl,(cb,sok,hk,hsl,h0,h1,Bz),qn,q):=h;obtain⟨n',rfl⟩:∃ n',n=n'+1:=#[n - 1,by cbv];have hsz:=aH;show#[_,U,?_];show eX #[_,U,_,.inl U,?_];show bp lb lb (λx=>decide (bM x.asked="asked")&&decide (x.name=k)) _ (λx hx kk N g1 g2=>?_) ?_
  .refine#[_,U,_,_,_,U,U,U,#[U,U,U],_,U,?_];show aN (b':=decide (bM x.asked="asked")) cN (λe=>?_) λe=>g2 (by rw[e];rfl) _ U;show#[_,U,_,_,_,U,U,U,_,U,#[U,U,U],_,U,?_];exact aN (b':=decide (x.name=k)) cN (λe2=>#[_,U,g1 (by rw[e,e2];rfl) _ U]) λe2=>g2 (by rw[e,e2];rfl) _ U
  rw[VY];generalize hsm:W.kinds.filter (λx=>decide (bM x.asked="asked")&&decide (x.name=k))=sm;have hmem:∀ x∈sm,x∈W.kinds/\x.asked=true/\x.name=k:=λx hx=>by
   rw[<- hsm] at hx;let(a,b):=Wo.mp hx;rw[V1] at b;show#[a,?_,by simpa using b.2];have b:=b.1;cases e:x.asked with
   | true=>rfl
   | false=>rw[e] at b;revert b;decide+kernel
  have hpk:iq (.lst (sm.map lb))=true:=c5 λx hx=>BY cb (hmem x hx).1;show#[_,U,#[hpk,U,.inr ()],_,U,?_];by_cases hsn:sm=[]
  .exact ky (by rw[hsn];rfl) qn
  let(kd,sr,rfl):=WT hsn;show fe U ?_;let(k1,k3,k4):=hmem kd Vx;have k2:=CH cb hk k1 k4;show#[_,U,_,_,_,U,U,cM,_,_,_,U,U,U,?_];show#[#[U,U],?_];show#[_,U,_,.inr U,?_];have GR:=(cb.kw kd k1).2.2;show cO (λxs s=>∃ (dn td:!iM) (sub:!(iM×!Str)) (ts:!Tm) (x8 x9 cP eJ gq:Sl),kd.cF=dn++td/\xs=td.map eQ/\Vj W sc n' ((room - 1) / (1+((kd.cF.map eQ).length:Int))).toNat dn sub ts/\s=#[[.dat (.fO d),.dat (mE W),.dat (.lst (sc.map pairD)),.dat (.str k),.dat (.int room),.dat (.lst ((kd::sr).map lb)),.dat (.tup (kd.cF.map eQ)),.own 0,x8,x9,cP,eJ,gq],[some (.lst (bA (sub.map λp=>(p.1.name,p.2)) (ts.map toD)))]]) ?_ ?_ _ _ #[[],kd.cF,[],[],.no,.no,.no,.no,.no,U,U,#[Xd _,λ_ h=>(nomatch h),fF.nil,λ_ h=>(nomatch h)],U]
  .rintro s ⟨dn,td,sub,ts,x8,x9,cP,eJ,gq,hdt,hx,⟨i1,i2,i3,i4⟩,rfl⟩;have htd:td=[]:=by
    cases td with
    | nil=>rfl
    | cons a b=>cases hx
   rw[htd,VJ] at hdt;show#[_,U,?_];show .inr #[_,_,U,U,?_];show#[_,.inl U,?_];have:=q (.node (.new kd.name (sub.map λp=>(p.1.name,p.2))) ts) (k4▸Ty.mk (.new k1 k2 k3 (hdt▸i1) i2) i3) (by
    have e1:ts.length=sub.length:=by rw[i3.len,Vv]
    have e2:=i1.length_le;rw[Vv] at e2;have e3:=congrArg List.length hdt;rw[Vv] at i4;exact GP (VF (Xq e1) (VF e2 (Xq e3.symm))) GR h0 Bz i4)
   rw[toD,toDs_map] at this;rw[<- k4];exact this
  .rintro x xs s N ⟨dn,td,sub,ts,x8,x9,cP,eJ,gq,hdt,hx,⟨i1,i2,i3,i4⟩,rfl⟩ hN hE_;cases td with
   | nil=>cases hx
   | cons m td =>
   injection hx with e1 e2;subst e1 e2;have hm:m∈kd.cF:=by rw[hdt];simp
   let(m1,(m2,m3,m4),m5):=cb.ao kd k1 m hm;show#[_,U,U,_,_,U,_,_,U,_,_,U,U,?_];show#[_,U,_,U,_,U,_,U,_,.inr U,?_];show#[W,sc,m.ps.length,by rw[Vv],#[cb,sok,m2,by cbv],λns oo hb=>?_];show#[_,U,_,U,_,U,_,.inr U,?_];show ba pairD (λp=>D.str p.2) _ (λp hp k2 hk2=>#[_,U,_,_,_,U,U,U,hk2 _ U]) ?_;rw[VY];show#[_,_,_,_,U,#[U,U],?_];rw[sJ];show#[_,_,U,U,by simp;cbv,?_];rw[<- VA];show#[_,U,_,U,#[by decide,by decide],λr2 r20 r21=>?_];show#[_,_,U,U,_,U,?_];show aN U (λ_=>?_) λ_=>?_
   rotate_left
   .exact hN _ #[dn++[m],td,sub,ts,.dat (.str m.name),.dat (jb m.ps),.dat (.str m.res),.dat (.tup (ns.map D.str)),_,by rw[hdt];simp,U,#[i1.trans (List.sublist_append_left _ _),i2,i3,i4],U]
   show#[0,_,U,U,U,?_];show#[_,U,_,U,?_];show#[_,U,_,U,_,U,_,U,?_];show#[_,U,_,_,U,U,?_];show#[_,U,_,.inr U,_,_,U,U,?_];show#[_,_,U,U,#[by rw[Vv];cbv,by rw[Vv];cbv],?_];have hdl:0<=(room - 1) / (1+((kd.cF.map eQ).length:Int))/\(room - 1) / (1+((kd.cF.map eQ).length:Int))<=room - 1:=#[X6 (by cbv) (by cbv),Int.ediv_le_self _ (by cbv)];show#[W,sc++ns.zip (m.ps.map (·.2)),m.res,_,U,#[cb,sok.more hb (by rw[oo,Vv]) (λx hx=>?_) (by cbv),m5,hdl.1,by have:=hdl.2;cbv,by have:=hdl.2;cbv],λt ht hd=>?_]
   .let(p,hp,rfl):=VI.mp hx;exact m4 p hp
   have htl:ts.length=sub.length:=by rw[i3.len,Vv]
   have hsub:=i1.length_le;have hdl2:=congrArg List.length hdt;rw[Vw] at hdl2;rw[Vv] at hsub;show#[_,U,_,_,U,U,?_,?_]
   .have:=mR (sub.map λp=>(p.1.name,p.2)) (ts.map toD);rw[Vv] at this;cbv
   show hN _ #[dn++[m],td,sub++[(m,ns)],ts++[t],.dat (.str m.name),.dat (jb m.ps),.dat (.str m.res),.dat (.tup (ns.map D.str)),.dat (.lst ((sc++ns.zip (m.ps.map (·.2))).map pairD)),by rw[hdt];simp,U,#[?_,λp hp=>?_,?_,λu hu=>?_],?_]
   rotate_right
   .have e:bA ((sub++[(m,ns)]).map λp=>(p.1.name,p.2)) ((ts++[t]).map toD)=bA (sub.map λp=>(p.1.name,p.2)) (ts.map toD)++[AE (m.name,ns) (toD t)]:=by
     rw[VA,VA];exact kH _ _ _ _ (by rw[Vv,Vv];exact htl.symm)
    rw[e]
    rfl
   .rw[VA];exact XA i1 (Xd _)
   .rcases VM.mp hp with hp | hp
    .exact i2 p hp
    .rw[VH.mp hp];exact#[oo,hb]
   .rw[VA];exact fF.app i3 (fF.cons ht fF.nil)
   .rcases VM.mp hu with hu | hu
    .exact i4 u hu
    .rw[VH.mp hu];exact hd
theorem Gd{r:Int}(h0:0<=r)(h1:r < 3):∃ ch,jd ("+-*":Str).cps.toList r=some ch/\(#[#v[ch]]:Str)∈(["+","-","*"]:!Str):=by
 have:r=0\/r=1\/r=2:=by cbv
 rcases this with rfl | rfl | rfl
 .exact#[43,U,by decide+kernel]
 .exact#[45,U,by decide+kernel]
 .exact#[42,U,by decide+kernel]
theorem HP{d l:AT}(eE:C4 P w K mg base aQ a9 1 (cg K (aW d l) (gE d)))(IP:aa0 P w K mg base c8 1 PX)(HD:C4 P w K mg base aQ dR 2 (cg K (aW d l) (PZ d)))(Qo:C4 P w K mg base aQ iu 3 (cg K (aW d l) (SQ d 2)))(MP:Own K mg hV)(Nz:Own K mg jN)(Pu:Own K mg iy)(NJ:Own K mg jX)(LP:Own K mg dJ)(T:Txt K mg):∀ n,C4 P w K mg base aQ dJ (3 * n+2) (cg K (aW d l) (Mp d n))
 | 0=>LP.c λ_ _ _=>qb
 | n+1=>by
  have vL:=HP eE IP HD Qo MP Nz Pu NJ LP T n;have Pe:=Ou vL MP T;have GAs:=Ng eE IP Pe Nz T (by cbv);have GCa:=NR eE IP vL HD Pu T (by cbv);have GNe:=MA eE vL HD NJ T (by cbv);show LP.c λfTe fdTe F_=>?_;show Qn (nos:=0) F_ aJ (λds R h=>?_) λbT A outer s H E M hr=>#[_,(af (sS 5 aJ.nd (ak hr eE (aa (vd 0) (aa ag ae))))
 (af (sS 6 aJ.nd qc)
 (af (bw (DW.dt (kC (ax Fi nk (vd 4) ag (au _)) (kC (ax aL bH (vd 5) ag (au _)) (kW (ax ku nk (fE T.len (aa (vd 2) ae)) ag (au _))))))
 (ah (aX (ak hr Qo (aa (vd 0) (aa (vd 1) (aa (vd 2) (aa (vd 3) ae)))))))
 aD)
 (af (bw (ax Fi nk (vd 5) ag (au _))
 (ah (sS 6 aJ.nd (ak hr GAs (aa (vd 0) (aa (vd 1) (aa (vd 2) (aa (vd 3) (aa (vd 4) ae))))))))
 (ah (bw (DW.dt (kZ (ax aL bH (vd 5) ag (au _)) (i5 (fG (ic (bP (dm hr) (DE.pe (vd 1)) (DE.pe aj) (λ_ _=>rfl)))))))
 (ah (sS 6 aJ.nd (ak hr GCa (aa (vd 0) (aa (vd 1) (aa (vd 2) (aa (vd 3) (aa (vd 4) ae))))))))
 (ah (bw (DW.dt (kZ (ax aL bH (vd 5) ag (au _)) (i5 (fG (ic (bP (dm hr) (DE.pe (vd 1)) (DE.pe aj) (λ_ _=>rfl)))))))
 (ah (sS 6 aJ.nd (ak hr GNe (aa (vd 0) (aa (vd 1) (aa (vd 2) (aa (vd 3) (aa (vd 4) ae))))))))
 (ah (bw (ax aL bH (vd 5) ag (au _))
 (af (sS 7 aJ.nd (ak hr vL (aa (vd 0) (aa (vd 1) (aa (vd 2) (aa aj (aa (bc cY A1 (vd 4) ag) ae)))))))
 (af (sS 8 aJ.nd (ak hr vL (aa (vd 0) (aa (vd 1) (aa (vd 2) (aa (vd 3) (aa (bc cY A1 (vd 4) ag) ae)))))))
 (ah (sS 6 aJ.nd (aK (aa aj (aa (vd 7) (aa (vd 8) (aa (ak hr vL (aa (vd 0) (aa (vd 1) (aa (vd 2) (aa (vd 3) (aa (bc cY A1 (vd 4) ag) ae)))))) ae)))))))))
 (ah (bw (ax aL bH (vd 5) ag (au _))
 (af (sS 9 aJ.nd (DN.de (bz aR aT (DN.de (nC ["_law_one"] [] (aE (bB hr IP (aa (vd 1) ae))) (λ_ _ _ _=>(gM 0 ["_law_one"])) (λ_ _ _ _=>bD)
 (λ_ _ _ _=>(bN (vd 0) ag)))) (DN.de (az (aa aj ae))))))
 (af (sS 10 aJ.nd (lA (vd 9) (ak hr eE (aa (vd 0) (aa (fE T.len (aa (vd 9) ae)) ae)))))
 (af (sS 11 aJ.nd (bN (ak hr HD (aa (vd 0) (aa (vd 1) (aa (vd 2) (aa ag ae))))) ag))
 (af (sS 7 aJ.nd (ak hr vL (aa (vd 0) (aa (vd 1) (aa (vd 2) (aa (vd 10) (aa (bc cY A1 (vd 4) ag) ae)))))))
 (ah (sS 6 aJ.nd (aK (aa aj (aa (vd 11) (aa (vd 7) (aa (ak hr vL (aa (vd 0) (aa (vd 1) (aa (DN.de (bz aR aT (vd 2) (DN.de (az (aa (aK (aa (vd 11) (aa (vd 10) ae))) ae))))) (aa (vd 3) (aa (bc cY A1 (vd 4) ag) ae)))))) ae)))))))))))
 aD)))))))))
 (af (bw (ax zA Cr (vd 6) qc (au _))
 (ah (aX (vd 6)))
 aD)
 (af (bw (ax aL bH (vd 3) aj (au _))
 (af (vV (n:=1000) (ak hr Pe (aa (vd 0) (aa (vd 1) (aa (vd 2) (aa (DN.de (az (aa aj (aa aj ae)))) (aa (bc iP fC (vd 4) ag) ae)))))) (bO (m:=2) U (aq (gN 7 aJ.nd) (aq (gN 8 aJ.nd) bQ))))
 (ah (aX (aK (aa aj (aa (AO yf CA aj (ak hr eE (aa (vd 0) (aa ag ae))) (λ_ _=>rfl)) (aa (vd 7) (aa (vd 8) ae))))))))
 aD)
 (af (sS 12 aJ.nd (lA (DN.de (nC ["_law_one"] [3] (aE (ic (bP (dm hr) (DE.pe (vd 1)) (DE.pe aj) (λ_ _=>rfl)))) (λ_ _ _ _=>(gM 0 ["_law_one","_law_kind"])) (λ_ _ _ _=>fK (ax aL bH (bN (vd 0) ag) (vd 1) (au _)))
 (λ_ _ _ _=>(bN (vd 0) ag)))) ag))
 (af (vV (n:=1000) (bN (vd 12) (ak hr eE (aa (vd 0) (aa (fE T.len (aa (vd 12) ae)) ae)))) (bO (m:=2) U (aq (gN 13 aJ.nd) (aq (gN 14 aJ.nd) bQ))))
 (ah (aX (aK (aa aj (aa (vd 13) (aa (ak hr Pe (aa (vd 0) (aa (vd 1) (aa (vd 2) (aa (DN.de (nC ["_law_field"] [] (aE (vd 14)) (λ_ _ _ _=>(gM 0 ["_law_field"])) (λ_ _ _ _=>bD)
 (λ_ _ _ _=>(bN (vd 0) ag)))) (aa (bc iP fC (vd 4) ag) ae)))))) ae)))))))))))))),λds R h=>?_]
  .let(W,sc,k,room,rfl,_):=h
   rfl
  .let(W,sc,k,room,rfl,(cb,sok,hk,h0,h1,Bz),q):=h;show#[_,U,_,U,#[by decide,by decide],λfm f0 f1=>?_];refine' jn ?hleaf λhleaf=>?main
   case main =>
    show#[_,U,_,_,U,U,_,U,?_];show aN U (λ_=>pI hleaf) λc1=>?_;show#[_,U,#[U,U,U],_,U,?_];show aN U (λ_=>pI hleaf) λc2=>?_;show#[_,U,_,.inl U,_,_,U,U,_,U,?_];show aN U (λ_=>hleaf) λc3=>?_;have c1:¬ room < 2:=by simpa using c1
    have c3:¬ (12:Int) < sc.length:=by simpa using c3
    obtain⟨n',rfl⟩:∃ n',n=n'+1:=#[n - 1,by cbv];refine' jn ?hnone λhnone=>?main2
    case main2 =>
     show#[_,U,_,_,U,U,_,U,?_];show aN U (λ_=>?_) λ_=>?_
     .refine#[_,U,_,U,_,U,_,U,_,U,W,sc,k,room,U,#[cb,sok,hk,by cbv,by cbv,by cbv,by cbv],hnone,λt ht hd=>?_];exact#[_,U,U,_,U,ky (Dz t) #[_,U,q t ht hd]]
     show#[_,U,#[U,U,U],_,U,?_];refine' jn ?h5 λh5=>?main3
     case main3 =>
      show aN U (λ_=>?_) λ_=>h5;show#[_,U,?_];show qD #[_,U,_,U,?_];show aN U (λ_=>?_) λ_=>h5;show#[_,U,_,U,_,U,_,U,_,U,W,sc,k,room,U,#[cb,sok,hk,by cbv,by cbv,by cbv,by cbv],hnone,λt ht hd=>?_];exact#[_,U,U,_,U,ky (Dz t) #[_,U,q t ht hd]]
     case h5 =>
      show#[_,U,#[U,U,U],_,U,?_];refine' jn ?h6 λh6=>?main4
      case main4 =>
       show aN U (λ_=>?_) λ_=>h6;show#[_,U,?_];show qD #[_,U,_,U,?_];show aN U (λ_=>?_) λ_=>h6;show#[_,U,_,U,_,U,_,U,_,U,W,sc,k,room,U,#[cb,sok,hk,by cbv,by cbv,by cbv,by cbv],hnone,λt ht hd=>?_];exact#[_,U,U,_,U,ky (Dz t) #[_,U,q t ht hd]]
      case h6 =>
       show#[_,U,#[U,U,U],_,U,?_];show aN U (λ_=>?_) λ_=>?_
       .refine#[_,U,_,U,_,U,_,U,_,_,U,U,#[by decide,by decide],W,sc,"number",room / 3,U,#[cb,sok,.inl U,by cbv,by cbv,by cbv],λta hta hda=>?_];show#[_,U,_,U,_,U,_,U,_,U,_,_,U,U,#[by decide,by decide],W,sc,k,room / 3,U,#[cb,sok,hk,by cbv,by cbv,by cbv],λtb htb kg=>?_];show#[_,U,_,U,?_];show#[_,U,_,U,_,U,_,U,_,U,_,_,U,U,#[by decide,by decide],W,sc,k,room / 3,U,#[cb,sok,hk,by cbv,by cbv,by cbv],λtc htc hdc=>?_];show#[_,U,U,_,U,ky U #[_,U,?_]];exact q (.node .j3 [ta,tb,tc]) (Ty.mk .j3 (.t8 hta (.t8 htb (.t8 htc .nil)))) (j5 (q:=room.toNat / 3) (λt ht=>by
         rw[show (room / 3).toNat=room.toNat / 3 by cbv] at hda kg hdc;simp at ht;rcases ht with rfl | rfl | rfl<;>assumption) (J8 (by cbv) (by cbv)))
       show#[_,U,#[U,U,U],_,U,?_];show aN U (λ_=>?_) λ_=>hnone;show#[_,U,W,U,cb,_,.inl U,?_];show ba lb (λk=>D.str k.name) _ (λk hk k2 hk2=>#[_,U,_,_,_,U,U,U,hk2 _ U]) ?_;have hsz:=aH;have htl:(things W).length<=5:=VF (V9 _ _) cb.kl;have enm:(things W).map (λk=>D.str k.name)++[D.str "number"]=((things W).map Kd.name++hX).map D.str:=by
        rw[VA,V2]
        rfl
       rw[VY];show#[_,_,U,U,by simp;cbv,?_];rw[enm];show#[_,U,_,U,_,U,_,.inl U,_,U,#[by simp,by simp;cbv],λr2 r20 r21=>?_];let(ot,hot,eot):=k6 (f:=D.str) (xs:=(things W).map Kd.name++hX) r20 (by simpa using r21);show#[_,_,_,U,U,eot,?_];have aZ:vx W ot:=by
        rcases VM.mp hot with h | h
        .let(kd,hkd,rfl):=VI.mp h;let(a,b):=gc.mp hkd;exact .inr #[kd,a,b,U]
        .exact .inl (VH.mp h)
       show#[_,U,_,U,_,U,W,sc,1,U,#[cb,sok,by decide,by cbv],λns oo hb=>?_];obtain⟨x,rfl⟩:∃ x,ns=[x]:=by
        let(x,r,rfl):=mP (l:=ns) (by cbv);cases r with
        | nil=>exact#[x,U]
        | cons y r=>simp at oo
       show#[_,_,_,U,U,cM,?_];show#[_,U,_,U,_,U,_,U,_,U,_,_,U,U,#[by decide,by decide],W,sc,ot,room / 2,U,#[cb,sok,aZ,by cbv,by cbv,by cbv],λta hta hda=>?_];show#[_,U,_,U,?_];show#[_,U,_,U,_,U,_,U,_,U,_,_,U,U,by simp;cbv,?_];show#[_,U,_,U,_,_,U,U,#[by decide,by decide],?_];show#[W,sc++[(x,ot)],k,room / 2,by rw[List.map_append]<;>rfl,#[cb,sok.more (ns:=[x]) (ks:=[ot]) hb U (λy hy=>List.mem_singleton.mp hy▸aZ) (by simp;cbv),hk,by cbv,by cbv,by cbv],λtb htb kg=>?_];show#[_,U,U,_,U,ky U #[_,U,?_]];exact q (.node (.lt x) [ta,tb]) (Ty.mk (.lt hb aZ) (.t8 hta (.cons htb .nil))) (j5 (q:=room.toNat / 2) (λt ht=>by
        rw[show (room / 2).toNat=room.toNat / 2 by cbv] at hda kg;simp at ht;rcases ht with rfl | rfl<;>assumption) (KA (by cbv) (by cbv)))
    case hnone =>
     show#[_,U,U,_,U,fe U ?_];show#[_,U,#[U,U,U],_,U,?_];show aN (b':=decide (k="number")) cN (λe=>?_) λe=>?_
     .have e:k="number":=by simpa using e
      show#[_,U,_,U,_,U,_,U,_,_,U,U,?_];show#[W,sc,["number","number"],room - 1,U,#[cb,sok,λx hx=>?_,by decide,by cbv,by cbv,by cbv],λts hts hd=>?_]
      .simp at hx;exact .inl hx
      have hl:=hts.len;let(ta,tb,rfl):=Bm (l:=ts) hl;show#[_,U,U,_,_,U,_,_,U,U,?_];show#[_,U,_,U,#[by decide,by decide],λr2 r20 r21=>?_];let(ch,ech,zo):=Gd r20 r21;show#[_,_,_,U,U,by decide+kernel,ech,?_];show#[_,U,_,U,?_];exact q (.node (.op #[#v[ch]]) [ta,tb]) (e▸Ty.mk (.op zo) hts) (j5 (q:=(room.toNat - 1) / max 1 2) (λt ht=>by have:=hd t ht;rw[show (room - 1).toNat=room.toNat - 1 by cbv] at this;exact this) (xT (n:=2) (by cbv) (by cbv) ()))
     .have e:k≠"number":=by simpa using e
      let(kd,hkd,hmk,hnm,nn,BJ):=kinds_of cb hk e;show#[_,U,?_];show eX #[_,U,_,.inl U,?_];show bp lb (λk=>D.tup (k.b8.map eL)) (λx=>decide (x.name=k)) _ (λx hx kk N g1 g2=>?_) ?_
      .refine#[_,U,_,_,_,U,U,U,_,U,#[U,U,U],_,U,?_];exact aN (b':=decide (x.name=k)) cN (λe=>#[_,U,_,_,_,U,U,U,g1 e _ U]) λe=>g2 e _ U
      rw[BJ,List.replicate_succ,VE,VY];show#[_,_,_,U,U,cM,?_];have hm0:0 < kd.b8.length:=XC.mpr hmk;have hm5:=(cb.kw kd hkd).2.1;show#[_,U,_,U,_,U,_,.inr U,_,U,#[by rw[Vv];cbv,by rw[Vv];cbv],λr2 r20 r21=>?_];let(m,hm,em):=k6 (f:=eL) (xs:=kd.b8) r20 (by simpa using r21);let(m1,m2,m3,m4):=cb.mo kd hkd m hm;show#[_,_,_,U,U,em,?_];show#[_,U,U,_,_,U,_,_,U,U,?_];show#[_,U,_,U,_,U,_,U,_,U,_,.inr U,?_];show ba pairD (λp=>D.str p.2) _ (λp hp k2 hk2=>#[_,U,_,_,_,U,U,U,hk2 _ U]) ?_;rw[VY];show#[_,U,_,_,U,U,?_];show#[W,sc,m.fs.map (·.2),room - 1,by rw[V2]<;>rfl,#[cb,sok,λx hx=>?_,by rw[Vv];cbv,by cbv,by cbv,by cbv],λts hts hd=>?_]
      .let(p,hp,rfl):=VI.mp hx;exact m4 p hp
      have:=q (.node (.mk m.name) ts) (hnm▸Ty.mk (.mk hkd hm) (by rw[V2] at hts;exact hts)) (j5 (q:=(room.toNat - 1) / max 1 ts.length) (λt ht=>by have:=hd t ht;rw[show (room - 1).toNat=room.toNat - 1 by cbv] at this;exact this) (xT (by cbv) (by cbv) (by have:=hts.len;rw[Vv,Vv] at this;cbv)));rw[toD,toDs_map] at this;exact this
   case hleaf =>
    exact#[_,U,_,U,_,U,_,U,W,sc,k,U,#[cb,sok,hk,λe=>absurd e ()],λt ht hd=>q t ht (Tm.lf.rq (n:=2) hd (by cbv) (by cbv))]
def T4(d:AT):Yd:=λds R=>∃ (most:Int) (b:Bool),ds=[.fO d,.int most,.bl b]/\(1<=most/\most<=3)/\∀ (ws:!Str) (ks:!Kd),ws.length=45->ws.Nodup->(∀ x∈ws,Nm x)->jm ws ks->R (mE (kr ws ks b))
theorem Pf{d l:AT}(UP:C4 P w K mg base aQ gO 2 (cg K (aW d l) (EX d)))(UG:C4 P w K mg base aQ gG 3 (cg K (aW d l) (T7 d)))(F:Own K mg gB)(T:Txt K mg):C4 P w K mg base aQ gB 4 (cg K (aW d l) (T4 d)):=by
 show F.d (nos:=0) lz (λds R h=>?_) λf bT A outer s H E M hr=>#[_,(af (sS 3 lz.nd (ak hr UP (aa (vd 0) (aa ag ae))))
 (ah (aX (DN.de (Jj (lW (ak hr UG (aa (vd 0) (aa (vd 3) (aa (vd 1) ae)))) (lW (DN.de (dI (vd 3) (bb ag) cx)) (lW (DN.de (dI (vd 3) (bb ag) (bb ag))) (lW (vd 2) Gy)))) (show List.Nodup [(Sum.inr ("kinds":Str):Key),(Sum.inr ("vars":Str):Key),(Sum.inr ("heads":Str):Key),(Sum.inr ("inner":Str):Key)] by decide+kernel)))))),λds R h=>?_]
 .let(most,b,rfl,_):=h
  rfl
 .let(most,b,rfl,(h1,h3),q):=h;show#[_,U,45,U,#[by decide,by decide],λws rj Iu hwm=>?_];have rj:ws.length=45:=rj;show#[_,U,_,U,_,U,ws,most,U,#[rj,Iu,hwm,h1,h3],λks hks=>?_];have e30:cutD (ws.map D.str) (some 30) none=(ws.drop 30).map D.str:=by
   rw[gn,rj,show HT.b5 45 0 (some 30)=30 from U,show HT.b5 45 45 none=45 from U,List.take_of_length_le (by simp[rj])]
  have e24:cutD (ws.map D.str) (some 24) (some 30)=((ws.drop 24).take 6).map D.str:=by rw[gn,rj];rfl
  show#[_,U,_,U,_,U,?_];show#[_,U,_,U,_,U,_,U,?_];rw[e30,e24];show#[_,U,?_];exact q ws ks rj Iu hwm hks
def Hq(c:!(!Key)×!D):D:=.j9 c.1 c.2
def TC(d:AT)(n:Nat):Yd:=λds R=>∃ (W:cZ) (room:Int),ds=[.fO d,mE W,.int room]/\(iQ W/\0<=room/\room<=n+1/\room<=16)/\∀ xb:!(!(!Key)×!D),Paired (λkd c=>mY W kd (n+2) c.1 c.2) W.kinds xb->R (.lst (xb.map Hq))
theorem MM{d l:AT}(eE:C4 P w K mg base aQ a9 1 (cg K (aW d l) (gE d))){n lv:Nat}(vL:C4 P w K mg base aQ dJ lv (cg K (aW d l) (Mp d (n+1))))(F:Own K mg gS)(T:Txt K mg)(P4:2<=lv):C4 P w K mg base aQ gS (lv+1) (cg K (aW d l) (TC d n)):=by
 show F.d (nos:=2) bf (λds R h=>?_) λf bT A outer s H E M hr=>#[_,(af (sN 0 3 bf.nd (az ae))
 (af (sF (aE (ic (bP (dm hr) (DE.pe (vd 1)) (DE.pe aj) (λ_ _=>rfl)))) (bO (m:=4) U (aq (gN 4 bf.nd) (aq (gN 5 bf.nd) (aq (gN 6 bf.nd) (aq (gN 7 bf.nd) bQ)))))
 (af (sN 1 8 bf.nd vf)
 (af (sF (aE (vd 6)) (bO (m:=2) U (aq (gN 9 bf.nd) (aq (gN 10 bf.nd) bQ)))
 (ah (sF (aE (vd 7)) (bO (m:=3) U (aq (gN 11 bf.nd) (aq (gN 12 bf.nd) (aq (gN 13 bf.nd) bQ))))
 (ah (bw (ax ku nk (ak hr eE (aa (vd 0) (aa ag ae))) ag (au _))
 (ah (oD (iZ (dm hr) (pv 8) (DE.pe (aK (aa (vd 9) (aa (vd 11) ae)))) (DE.pe (ak hr vL (aa (vd 0) (aa (vd 1) (aa (DN.de (bz aR aT (DN.de (d9 bY dY U T.list (by decide+kernel) (aa (vd 10) ae))) (DN.de (d9 bY dY U T.list (by decide+kernel) (aa (vd 12) ae))))) (aa (vd 13) (aa (vd 2) ae))))))) U)))
 aD)))))
 (ah (la 3 (aa (sX (pv 8)) ae))))))
 (ah (aX (sX (pv 3)))))),λds R h=>?_]
 .let(W,room,rfl,_):=h
  rfl
 .let(W,room,rfl,(cb,h0,h1,Bz),q):=h;have hsz:=aH;show#[#[U,U],?_];show#[_,U,?_];show eX #[_,U,_,.inl U,?_];show cO (λxs s=>∃ (dn td:!Kd) (xb:!(!(!Key)×!D)) (x4 x5 x6 x7 x8 x9 cP eJ gq hJ:Sl),W.kinds=dn++td/\xs=td.map lb/\Paired (λkd c=>mY W kd (n+2) c.1 c.2) dn xb/\(x9.pl=true/\cP.pl=true/\eJ.pl=true/\gq.pl=true/\hJ.pl=true)/\s=#[[.dat (.fO d),.dat (mE W),.dat (.int room),.own 0,x4,x5,x6,x7,x8,x9,cP,eJ,gq,hJ],[some (.lst (xb.map Hq)),none]]) ?_ ?_ _ _ #[[],W.kinds,[],.no,.no,.no,.no,.no,.no,.no,.no,.no,.no,U,U,.nil,#[U,U,U,U,U],U]
  .rintro s ⟨dn,td,xb,x4,x5,x6,x7,x8,x9,cP,eJ,gq,hJ,hdt,hx,hP,_,rfl⟩;have htd:td=[]:=by
    cases td with
    | nil=>rfl
    | cons a b=>cases hx
   rw[htd,VJ] at hdt;exact .inr #[_,_,U,U,q xb (hdt▸hP)]
  .rintro x xs s N ⟨dn,td,xb,x4,x5,x6,x7,x8,x9,cP,eJ,gq,hJ,hdt,hx,hP,⟨h9,h10,h11,h12,h13⟩,rfl⟩ hN hE_;cases td with
   | nil=>cases hx
   | cons kd td =>
   injection hx with e1 e2;subst e1 e2;have hkd:kd∈W.kinds:=by rw[hdt];simp
   have hkw:=cb.kw kd hkd;show#[_,U,U,_,_,U,_,_,U,_,_,U,_,_,U,U,?_];show#[#[U,(show noRef 1 6 [x9,cP,eJ,gq,hJ]=true by rw[bC h9,bC h10,bC h11,bC h12,bC h13];rfl)],?_];show#[_,U,_,.inr U,?_];show cO (λxs s=>∃ (ms:!j4) (ks:!(!Key)) (vs:!D) (x9 cP eJ gq hJ:Sl),xs=ms.map eL/\(∀ m∈ms,m∈kd.b8)/\mY W kd (n+2) ks vs/\ks.length+5 * ms.length<=25/\(x9.pl=true/\cP.pl=true/\eJ.pl=true/\gq.pl=true/\hJ.pl=true)/\s=#[[.dat (.fO d),.dat (mE W),.dat (.int room),.own 0,.dat (.str (bM kd.asked)),.dat (.str kd.name),.dat (.tup (kd.b8.map eL)),.dat (.tup (kd.cF.map eQ)),.own 1,x9,cP,eJ,gq,hJ],[some (.lst (xb.map Hq)),some (.j9 ks vs)]]) ?_ ?_ _ _ #[kd.b8,[],[],x9,cP,eJ,gq,hJ,U,λ_ h=>h,mY.nil,by simp;cbv,#[h9,h10,h11,h12,h13],U]
   .rintro s ⟨ms,ks,vs,y9,Cg,y11,y12,HF,hx,_,hC,_,⟨g9,g10,g11,g12,g13⟩,rfl⟩;show#[0,_,U,U,U,?_];show .inr #[_,_,U,U,?_];have hcl:xb.length=dn.length:=gm hP;have hdl:=congrArg List.length hdt;rw[Vw] at hdl;have hkl:=cb.kl;show#[_,U,_,_,U,U,by rw[Vv];cbv,?_];show hN _ #[dn++[kd],td,xb++[(ks,vs)],_,_,_,_,.dat (.j9 ks vs),_,_,_,_,_,by rw[hdt];simp,U,zZ hP hC,#[bq (k:=1) (d:=.j9 ks vs) g9,bq (k:=1) (d:=.j9 ks vs) g10,bq (k:=1) (d:=.j9 ks vs) g11,bq (k:=1) (d:=.j9 ks vs) g12,bq (k:=1) (d:=.j9 ks vs) g13],by rw[List.map_append];rfl]
   .rintro x xs s N2 ⟨ms,ks,vs,y9,Cg,y11,y12,HF,hx,hms,hC,hcl,⟨g9,g10,g11,g12,g13⟩,rfl⟩ hN2 hE_2;cases ms with
    | nil=>cases hx
    | cons m ms =>
    injection hx with e1 e2;subst e1 e2;have hm:=hms m Vx;have hcl:ks.length+5 * (ms.length+1)<=25:=hcl;show#[_,U,U,_,_,U,_,_,U,U,?_];show#[_,U,_,.inr U,?_];show cO (λxs s=>∃ (as:!iM) (ks:!(!Key)) (vs:!D) (eJ gq hJ:Sl),xs=as.map eQ/\(∀ a∈as,a∈kd.cF)/\mY W kd (n+2) ks vs/\ks.length+as.length+5 * ms.length<=25/\(eJ.pl=true/\gq.pl=true/\hJ.pl=true)/\s=#[[.dat (.fO d),.dat (mE W),.dat (.int room),.own 0,.dat (.str (bM kd.asked)),.dat (.str kd.name),.dat (.tup (kd.b8.map eL)),.dat (.tup (kd.cF.map eQ)),.own 1,.dat (.str m.name),.dat (jb m.fs),eJ,gq,hJ],[some (.lst (xb.map Hq)),some (.j9 ks vs)]]) ?_ ?_ _ _ #[kd.cF,ks,vs,y11,y12,HF,U,λ_ h=>h,hC,by cbv,#[g11,g12,g13],U]
    .rintro s ⟨as,ks,vs,z11,z12,z13,hx,_,hC,hcl,⟨f11,f12,f13⟩,rfl⟩;exact hN2 _ #[ms,ks,vs,_,_,z11,z12,z13,U,λa ha=>hms a (Vy _ ha),hC,by cbv,#[U,U,f11,f12,f13],U]
    .rintro x xs s N3 ⟨as,ks,vs,z11,z12,z13,hx,has,hC,hcl,⟨f11,f12,f13⟩,rfl⟩ hN3 hE_3;cases as with
     | nil=>cases hx
     | cons a as =>
     injection hx with e1 e2;subst e1 e2;have ha:=has a Vx;have hcl:ks.length+(as.length+1)+5 * ms.length<=25:=hcl;show#[_,U,U,_,_,U,_,_,U,_,_,U,U,?_];show#[_,U,_,U,#[by decide,by decide],λr r0 r1=>?_];show#[_,_,U,U,_,U,?_];show aN U (λ_=>?_) λ_=>?_
     rotate_left
     .exact hN3 _ #[as,ks,vs,_,_,_,U,λb hb=>has b (Vy _ hb),hC,by cbv,#[U,U,U],U]
     let(_,m2,_):=cb.mo kd hkd m hm;let(_,(a2,_),ar):=cb.ao kd hkd a ha;have hm3:=m2;show#[_,U,_,U,?_];show#[_,U,?_];show#[_,.inr U,?_];show#[_,U,_,.inr U,?_];show#[_,_,U,U,by rw[Vv,Vv];cbv,?_];show#[_,U,_,U,?_];show#[W,m.fs++a.ps,a.res,room,by rw[VA],#[cb,DL.vj cb hkd hm ha,ar,h0,h1,Bz],λt ht hd=>?_];have hd:=hd.tq (by cbv) (Ty.Mg cb t _ _ (kY.Up cb (DL.vj cb hkd hm ha)) (ar.IU cb) ht);show#[1,U,_,U,_,U,_,U,?_];show .inr #[_,_,_,[.inr m.name,.inr a.name],U,U,U,by cbv,?_];have hp:=z7 (x:=toD t) (q:=[.inr m.name,.inr a.name]) hC.1;exact hN3 _ #[as,_,_,_,_,_,U,λb hb=>has b (Vy _ hb),hC.put hm ha ht hd,by cbv,#[U,U,U],U]
def Sy(d:AT)(n:Nat):Yd:=λds R=>∃ (W:cZ) (room:Int),ds=[.fO d,mE W,.int room]/\(iQ W/\0<=room/\room<=n+1/\room<=16)/\∀ ps:!PK,LQ W (n+2) ps->(∀ p∈ps,p.asked=p.kd.asked)->R (.tup (ps.map F4))
theorem BW{α β:Type}{F:α->β->Prop}{f:α->D}{h:β->D}:∀ {l₁:!α} {l₂:!β},Paired F l₁ l₂->ow (l₁.map f) (l₂.map h)=(l₁.zip l₂).map λx=>D.tup [f x.1,h x.2]
 | _,_,.nil=>rfl
 | _,_,.cons r t=>by
  have:=BW (f:=f) (h:=h) t;unfold ow at this ⊢;rw[VE,VE,List.zipWith_cons_cons,this]
  rfl
theorem Cj{α β:Type}{F:α->β->Prop}:∀ {l₁:!α} {l₂:!β},Paired F l₁ l₂->∀ x∈l₁.zip l₂,F x.1 x.2
 | _,_,.nil,x,h=>by cases h
 | _,_,.cons r t,x,h=>by
  rcases VG.mp h with rfl | h
  .exact r
  .exact Cj t x h
theorem LG{r:Int}(h0:0<=r)(h1:r < 2):∃ w:Int,jd [D.int 1,D.int (-1)] r=some (.int w)/\(w=1\/w=-1):=by
 have:r=0\/r=1:=by cbv
 rcases this with rfl | rfl
 .exact#[1,U,.inl U]
 .exact#[-1,U,.inr U]
theorem MC{d l:AT}(eE:C4 P w K mg base aQ a9 1 (cg K (aW d l) (gE d))){n lv:Nat}(Vi:C4 P w K mg base aQ gS lv (cg K (aW d l) (TC d n)))(F:Own K mg fg)(T:Txt K mg)(P4:2<=lv):C4 P w K mg base aQ fg (lv+1) (cg K (aW d l) (Sy d n)):=by
 show F.d (nos:=2) aB (λds R h=>?_) λf bT A outer s H E M hr=>#[_,(af (sN 0 3 aB.nd (az ae))
 (af (sF (IV U T.zip (aa (ic (bP (dm hr) (DE.pe (vd 1)) (DE.pe aj) (λ_ _=>rfl))) (aa (ak hr Vi (aa (vd 0) (aa (vd 1) (aa (vd 2) ae)))) ae))) (bO (m:=2) U (aq (gN 4 aB.nd) (aq (kP (fo (i:=5) aB.nd U (Or.inr U)) ()) bQ)))
 (af (vV (n:=1000) (vd 4) (bO (m:=4) U (aq (gN 6 aB.nd) (aq (gN 7 aB.nd) (aq (gN 8 aB.nd) (aq (gN 9 aB.nd) bQ))))))
 (af (sS 10 aB.nd (lA (DN.de (az (aa ag (aa (dc (d:=.int (-1)) fu U) ae)))) (ak hr eE (aa (vd 0) (aa ag ae)))))
 (af (sN 1 11 aB.nd (az ae))
 (af (sF (aE (vd 9)) (bO (m:=3) U (aq (kP (fo (i:=12) aB.nd U (Or.inr U)) ()) (aq (gN 13 aB.nd) (aq (gN 14 aB.nd) bQ))))
 (af (sS 15 aB.nd (DN.de (Ig (DN.de (nC ["_law_c","_law_fields"] [5,12] (aE (vd 8)) (λ_ _ _ _=>(bO (m:=2) U (aq (gM 0 ["_law_c","_law_fields","_law_cells_here","_law_f"]) (aq (gM 1 ["_law_c","_law_fields","_law_cells_here","_law_f"]) bQ)))) (λ_ _ _ _=>fK (Eh (dm hr) (aK (aa (vd 0) (aa (vd 3) ae))) (vd 2)))
 (λ_ _ _ _=>(aK (aa (vd 0) (aa (ic (bP (dm hr) (DE.pe (vd 2)) (DE.pe (aK (aa (vd 0) (aa (vd 3) ae)))) (λ_ _=>rfl))) ae)))))) (vd 10))))
 (ah (la 11 (aa (aK (aa (vd 12) (aa (vd 13) (aa (vd 14) (aa (iE T.tuple (aa (vd 15) ae)) ae))))) ae)))))
 (af (bw (ax aL bH (vd 6) aj (au _))
 (af (sN 1 11 aB.nd (az ae))
 (ah (sF (aE (vd 8)) (bO (m:=2) U (aq (kP (fo (i:=16) aB.nd U (Or.inr U)) ()) (aq (gN 17 aB.nd) bQ)))
 (af (sS 15 aB.nd (DN.de (Ig (DN.de (nC ["_law_f","_law_params","_law_result"] [5,16] (aE (vd 9)) (λ_ _ _ _=>(bO (m:=3) U (aq (gM 0 ["_law_f","_law_params","_law_result","_law_cells_here","_law_c"]) (aq (gM 1 ["_law_f","_law_params","_law_result","_law_cells_here","_law_c"]) (aq (gM 2 ["_law_f","_law_params","_law_result","_law_cells_here","_law_c"]) bQ))))) (λ_ _ _ _=>fK (Eh (dm hr) (aK (aa (vd 4) (aa (vd 0) ae))) (vd 3)))
 (λ_ _ _ _=>(aK (aa (vd 0) (aa (ic (bP (dm hr) (DE.pe (vd 3)) (DE.pe (aK (aa (vd 4) (aa (vd 0) ae)))) (λ_ _=>rfl))) ae)))))) (vd 10))))
 (ah (la 11 (aa (aK (aa (vd 16) (aa (vd 17) (aa (iE T.tuple (aa (vd 15) ae)) ae)))) ae)))))))
 aD)
 (ah (la 3 (aa (aK (aa (vd 6) (aa (vd 7) (aa (lA (DN.de (az (aa (vd 8) (aa (vd 9) ae)))) (ip jY ur U T.int (by decide+kernel) (aa (jC aL bH (vd 6) aj (au _)) ae))) (aa (iE T.tuple (aa (sX (pv 11)) ae)) ae))))) ae)))))))))
 (ah (aX (iE T.tuple (aa (sX (pv 3)) ae)))))),λds R h=>?_]
 .let(W,room,rfl,_):=h
  rfl
 .let(W,room,rfl,(cb,h0,h1,Bz),q):=h;have hsz:=aH;show#[#[U,U],?_];show#[_,U,?_];show eX #[_,U,?_];show#[_,U,_,U,_,U,W,room,U,#[cb,h0,h1,Bz],λxb uY=>?_];show#[_,_,_,_,U,#[U,U],?_];rw[BW uY];have hzl:(W.kinds.zip xb).map (·.1)=W.kinds:=List.map_fst_zip (by rw[gm uY];exact VB _);have hzp:=Cj uY;have hzk:∀ x∈W.kinds.zip xb,x.1∈W.kinds:=λx hx=>(Ww (a:=x.1) (b:=x.2) hx).1;generalize W.kinds.zip xb=zs0 at hzl hzp hzk;show cO (λxs s=>∃ (td:!(Kd×(!(!Key)×!D))) (ps:!PK) (x4 x5 x6 x7 x8 x9 cP eJ gq hJ w9 xa BD Bx:Sl),xs=td.map (λx=>D.tup [lb x.1,Hq x.2])/\(∀ x∈td,x∈zs0)/\ps.map PK.kd++td.map (·.1)=W.kinds/\(∀ p∈ps,wF W (n+2) p/\p.asked=p.kd.asked)/\(gq.pl=true/\hJ.pl=true/\w9.pl=true/\xa.pl=true/\BD.pl=true/\Bx.pl=true)/\s=#[[.dat (.fO d),.dat (mE W),.dat (.int room),.own 0,x4,x5,x6,x7,x8,x9,cP,eJ,gq,hJ,w9,xa,BD,Bx],[some (.lst (ps.map F4)),none]]) ?_ ?_ _ _ #[zs0,[],.no,.no,.no,.no,.no,.no,.no,.no,.no,.no,.no,.no,.no,.no,U,λ_ h=>h,hzl,λ_ h=>(nomatch h),#[U,U,U,U,U,U],U]
  .rintro s ⟨td,ps,x4,x5,x6,x7,x8,x9,cP,eJ,gq,hJ,w9,xa,BD,Bx,hx,_,hps,aZ,_,rfl⟩;have htd:td=[]:=by
    cases td with
    | nil=>rfl
    | cons a b=>cases hx
   rw[htd,Wj,VJ] at hps;show .inr #[_,_,U,U,_,.inl U,?_];exact q ps #[cb,hps,λp hp=>(aZ p hp).1] λp hp=>(aZ p hp).2
  .rintro x xs s N ⟨td,ps,x4,x5,x6,x7,x8,x9,cP,eJ,gq,hJ,w9,xa,BD,Bx,hx,htd,hps,aZ,⟨g12,g13,g14,g15,g16,g17⟩,rfl⟩ hN hE_;cases td with
   | nil=>cases hx
   | cons z td =>
   injection hx with e1 e2;subst e1 e2;let(kd,ks,vs):=z;have hz0:=htd _ Vx;have hkd:kd∈W.kinds:=hzk _ hz0;have hC:mY W kd (n+2) ks vs:=hzp _ hz0;show#[_,U,U,_,_,U,_,_,U,U,?_];show#[_,U,?_];show#[_,U,U,_,_,U,_,_,U,_,_,U,_,_,U,U,?_];show#[_,U,_,U,#[by decide,by decide],λr r0 r1=>?_];let(wy,ewy,hwy):=LG r0 r1;show#[_,_,_,U,U,ewy,?_];show#[#[U,(show noRef 1 7 [gq,hJ,w9,xa,BD,Bx]=true by rw[bC g12,bC g13,bC g14,bC g15,bC g16,bC g17];rfl)],?_];show#[_,U,_,.inr U,?_];let(_,k5,a5):=cb.kw kd hkd;show cO (λxs s=>∃ (dn td:!iM) (tabs:!(!(Str×Tm))) (gq hJ w9 xa BD Bx:Sl),kd.cF=dn++td/\xs=td.map eQ/\tabs.length=dn.length/\(∀ rs∈tabs,uD (kd.b8.map j4.name) (n+2) rs)/\(gq.pl=true/\hJ.pl=true/\w9.pl=true/\xa.pl=true/\BD.pl=true/\Bx.pl=true)/\s=#[[.dat (.fO d),.dat (mE W),.dat (.int room),.own 0,.dat (lb kd),.dat (Hq (ks,vs)),.dat (.str (bM kd.asked)),.dat (.str kd.name),.dat (.tup (kd.b8.map eL)),.dat (.tup (kd.cF.map eQ)),.dat (.int wy),.own 1,gq,hJ,w9,xa,BD,Bx],[some (.lst (ps.map F4)),some (.lst ((dn.zip tabs).map mq))]]) ?_ ?_ _ _ #[[],kd.cF,[],gq,hJ,w9,xa,BD,Bx,U,U,U,λ_ h=>(nomatch h),#[g12,g13,g14,g15,g16,g17],U]
   rotate_left
   .rintro x xs s N2 ⟨dn,td,tabs,y12,HF,y14,y15,y16,y17,hdt,hx,htl,hro,⟨p12,p13,p14,p15,p16,p17⟩,rfl⟩ hN2 hE_2;cases td with
    | nil=>cases hx
    | cons b0 td =>
    injection hx with e1 e2;subst e1 e2;have hb0:b0∈kd.cF:=by rw[hdt];simp
    show#[_,U,U,_,_,U,_,_,U,_,_,U,U,?_];show#[_,U,_,.inr U,?_];show iF eL eP (λr0 (r:Str×Tm)=>r.1=r0.name/\(λt=>Ty W (r0.fs++b0.ps) b0.res t/\t.tq (n+2)) r.2) _ (λr0 hr0 k N0 g1 g2=>?_) λsub rs hsub hprs=>?_
    .refine#[_,U,U,_,_,U,_,_,U,U,?_];show#[_,U,_,U,_,U,U,.inr #[_,_,_,[.inr r0.name,.inr b0.name],U,U,U,?_]];cases hl:cp ks vs [.inr r0.name,.inr b0.name] with
     | none=>exact#[_,U,fe U (g2 _ U)]
     | some v =>
      let(t,rfl,ht1,ht2):=hC.at cb hkd hr0 hb0 hl;exact#[_,U,ky U #[_,U,_,U,_,U,_,U,U,.inr #[_,_,_,[.inr r0.name,.inr b0.name],U,U,U,_,hl,g1 (r0.name,t) _ #[U,ht1,ht2] rfl]]]
    have hrw:uD (kd.b8.map j4.name) (n+2) rs:=zq (F:=λr0 t=>Ty W (r0.fs++b0.ps) b0.res t/\t.tq (n+2)) (uV cb hkd) k5 hsub hprs λr0 hr0 t ht=>#[(jZ cb hkd hr0 hb0 ht.1).1,(jZ cb hkd hr0 hb0 ht.1).2,ht.2];have hrw2:=hrw.perm (ue wy rs);rw[VY];show#[_,U,_,wy,U,U,hwy,?_];rw[wg];have hdl:=congrArg List.length hdt;rw[Vw] at hdl;show#[1,_,U,U,U,?_];show#[_,U,_,U,_,U,_,U,_,.inl U,?_];show#[_,U,_,_,U,U,?_,?_]
    .rw[Vv,XD];cbv
    show hN2 _ #[dn++[b0],td,tabs++[lJ wy rs],.dat (.str b0.name),.dat (jb b0.ps),.dat (.str b0.res),.dat (.lst ((lJ wy rs).map eP)),y16,y17,by rw[hdt];simp,U,by rw[List.length_append,List.length_append,htl];rfl,λq hq=>?_,#[U,U,U,U,p16,p17],?_]
    .rcases VM.mp hq with hq | hq
     .exact hro q hq
     .rw[VH.mp hq];exact hrw2
    .rw[wZ htl,VA]
     rfl
   .rintro s ⟨dn,td2,tabs,z12,z13,z14,z15,z16,z17,hdt,hx,htl,hro,⟨f12,f13,f14,f15,f16,f17⟩,rfl⟩;have htd2:td2=[]:=by
     cases td2 with
     | nil=>rfl
     | cons a b=>cases hx
    rw[htd2,VJ] at hdt;subst hdt;show#[_,U,#[U,U,U],_,U,?_];show aN (b':=kd.asked) (kT _) (λhask=>?_) λhask=>?_
    rotate_left
    .refine#[0,_,U,U,U,?_];show#[_,U,_,U,?_];show#[_,U,_,U,_,U,#[U,U,U],?_];show .inr #[_,U,?_];rw[kT,hask];show#[_,_,_,U,U,U,?_];show .inr #[_,_,U,U,?_];show#[_,.inl U,?_];show#[_,U,_,_,U,U,?_,?_]
     .have:=congrArg List.length hps;rw[Vw,Vv] at this;have:=cb.kl;rw[Vv];cbv
     have hpk:wF W (n+2) #[false,kd,tabs]:=wF.of cb hkd (by rw[htl];rfl) hro;show hN _ #[td,ps++[#[false,kd,tabs]],.dat (lb kd),.dat (Hq (ks,vs)),.dat (.str (bM kd.asked)),.dat (.str kd.name),.dat (.tup (kd.b8.map eL)),.dat (.tup (kd.cF.map eQ)),.dat (.int wy),.dat (D.lst ((kd.cF.zip tabs).map mq)),(fB 1 (D.lst ((kd.cF.zip tabs).map mq)) z12),(fB 1 (D.lst ((kd.cF.zip tabs).map mq)) z13),(fB 1 (D.lst ((kd.cF.zip tabs).map mq)) z14),(fB 1 (D.lst ((kd.cF.zip tabs).map mq)) z15),(fB 1 (D.lst ((kd.cF.zip tabs).map mq)) z16),(fB 1 (D.lst ((kd.cF.zip tabs).map mq)) z17),U,λx hx=>htd x (List.mem_cons_of_mem _ hx),by rw[<- hps];simp,λp hp=>?_,#[bq f12,bq f13,bq f14,bq f15,bq f16,bq f17],?_]
     .rcases VM.mp hp with hp | hp
      .exact aZ p hp
      .rw[VH.mp hp];exact#[hpk,hask.symm]
     .rw[VA];change _=DS.mk _ [some (D.lst (ps.map F4++[D.tup [D.str (bM false),D.str kd.name,Qu #[false,kd,tabs],D.tup (zR #[false,kd,tabs])]])),none];rw[hask]
      rfl
    show#[#[U,(show noRef 1 7 [z12,z13,z14,z15,z16,z17]=true by rw[bC f12,bC f13,bC f14,bC f15,bC f16,bC f17];rfl)],?_];show#[_,U,_,.inr U,?_];show cO (λxs s=>∃ (dn td:!j4) (tabs:!(!(Str×Tm))) (gq hJ w9 xa BD Bx:Sl),kd.b8=dn++td/\xs=td.map eL/\tabs.length=dn.length/\(∀ rs∈tabs,uD (kd.cF.map iM.name) (n+2) rs)/\(gq.pl=true/\hJ.pl=true/\w9.pl=true/\xa.pl=true/\BD.pl=true/\Bx.pl=true)/\s=#[[.dat (.fO d),.dat (mE W),.dat (.int room),.own 0,.dat (lb kd),.dat (Hq (ks,vs)),.dat (.str (bM kd.asked)),.dat (.str kd.name),.dat (.tup (kd.b8.map eL)),.dat (.tup (kd.cF.map eQ)),.dat (.int wy),.own 1,gq,hJ,w9,xa,BD,Bx],[some (.lst (ps.map F4)),some (.lst ((dn.zip tabs).map lU))]]) ?_ ?_ _ _ #[[],kd.b8,[],z12,z13,z14,z15,z16,z17,U,U,U,λ_ h=>(nomatch h),#[f12,f13,f14,f15,f16,f17],U]
    rotate_left
    .rintro x xs s N2 ⟨dn,td,tabs,y12,HF,y14,y15,y16,y17,hdt,hx,htl,hro,⟨p12,p13,p14,p15,p16,p17⟩,rfl⟩ hN2 hE_2;cases td with
     | nil=>cases hx
     | cons b0 td =>
     injection hx with e1 e2;subst e1 e2;have hb0:b0∈kd.b8:=by rw[hdt];simp
     show#[_,U,U,_,_,U,_,_,U,U,?_];show#[_,U,_,.inr U,?_];show iF eQ eP (λr0 (r:Str×Tm)=>r.1=r0.name/\(λt=>Ty W (b0.fs++r0.ps) r0.res t/\t.tq (n+2)) r.2) _ (λr0 hr0 k N0 g1 g2=>?_) λsub rs hsub hprs=>?_
     .refine#[_,U,U,_,_,U,_,_,U,_,_,U,U,?_];show#[_,U,_,U,_,U,U,.inr #[_,_,_,[.inr b0.name,.inr r0.name],U,U,U,?_]];cases hl:cp ks vs [.inr b0.name,.inr r0.name] with
      | none=>exact#[_,U,fe U (g2 _ U)]
      | some v =>
       let(t,rfl,ht1,ht2):=hC.at cb hkd hb0 hr0 hl;exact#[_,U,ky U #[_,U,_,U,_,U,_,U,U,.inr #[_,_,_,[.inr b0.name,.inr r0.name],U,U,U,_,hl,g1 (r0.name,t) _ #[U,ht1,ht2] rfl]]]
     have hrw:uD (kd.cF.map iM.name) (n+2) rs:=zq (F:=λr0 t=>Ty W (b0.fs++r0.ps) r0.res t/\t.tq (n+2)) (uu cb hkd) a5 hsub hprs λr0 hr0 t ht=>#[(jZ cb hkd hb0 hr0 ht.1).1,(jZ cb hkd hb0 hr0 ht.1).2,ht.2];have hrw2:=hrw.perm (ue wy rs);rw[VY];show#[_,U,_,wy,U,U,hwy,?_];rw[wg];have hdl:=congrArg List.length hdt;rw[Vw] at hdl;show#[1,_,U,U,U,?_];show#[_,U,_,U,_,U,_,.inl U,?_];show#[_,U,_,_,U,U,?_,?_]
     .rw[Vv,XD];cbv
     show hN2 _ #[dn++[b0],td,tabs++[lJ wy rs],y12,HF,y14,.dat (.lst ((lJ wy rs).map eP)),.dat (.str b0.name),.dat (jb b0.fs),by rw[hdt];simp,U,by rw[List.length_append,List.length_append,htl];rfl,λq hq=>?_,#[p12,p13,p14,U,U,U],?_]
     .rcases VM.mp hq with hq | hq
      .exact hro q hq
      .rw[VH.mp hq];exact hrw2
     .rw[wZ htl,VA]
      rfl
    .rintro s ⟨dn,td3,tabs,z12,z13,z14,z15,z16,z17,hdt,hx,htl,hro,⟨f12,f13,f14,f15,f16,f17⟩,rfl⟩;have htd3:td3=[]:=by
      cases td3 with
      | nil=>rfl
      | cons a b=>cases hx
     rw[htd3,VJ] at hdt;subst hdt;show#[0,_,U,U,U,?_];show#[_,U,_,U,?_];show#[_,U,_,U,_,U,#[U,U,U],?_];show .inr #[_,U,?_];rw[kT,hask];show#[_,_,_,U,U,U,?_];show .inr #[_,_,U,U,?_];show#[_,.inl U,?_];show#[_,U,_,_,U,U,?_,?_]
     .have:=congrArg List.length hps;rw[Vw,Vv] at this;have:=cb.kl;rw[Vv];cbv
     have hpk:wF W (n+2) #[true,kd,tabs]:=wF.of cb hkd (by rw[htl];rfl) hro;show hN _ #[td,ps++[#[true,kd,tabs]],.dat (lb kd),.dat (Hq (ks,vs)),.dat (.str (bM kd.asked)),.dat (.str kd.name),.dat (.tup (kd.b8.map eL)),.dat (.tup (kd.cF.map eQ)),.dat (.int wy),.dat (D.lst ((kd.b8.zip tabs).map lU)),(fB 1 (D.lst ((kd.b8.zip tabs).map lU)) z12),(fB 1 (D.lst ((kd.b8.zip tabs).map lU)) z13),(fB 1 (D.lst ((kd.b8.zip tabs).map lU)) z14),(fB 1 (D.lst ((kd.b8.zip tabs).map lU)) z15),(fB 1 (D.lst ((kd.b8.zip tabs).map lU)) z16),(fB 1 (D.lst ((kd.b8.zip tabs).map lU)) z17),U,λx hx=>htd x (List.mem_cons_of_mem _ hx),by rw[<- hps];simp,λp hp=>?_,#[bq f12,bq f13,bq f14,bq f15,bq f16,bq f17],?_]
     .rcases VM.mp hp with hp | hp
      .exact aZ p hp
      .rw[VH.mp hp];exact#[hpk,hask.symm]
     .rw[VA];change _=DS.mk _ [some (D.lst (ps.map F4++[D.tup [D.str (bM true),D.str kd.name,Qu #[true,kd,tabs],D.tup (zR #[true,kd,tabs])]])),none];rw[hask]
      rfl
def R9:Yd:=λds R=>∃ ks:!Tm,ds=[.tup (ks.map toD)]/\ks.length<=1000/\R (.lst ((bK ks).map C5))
theorem oJ(ks:!Tm):(bK ks).length=2 * ks.length:=by
 induction ks with
 | nil=>rfl
 | cons k ks ih =>
  change ([Pc.s " ",.t k]++bK ks).length=_;rw[Vw,ih];change 2+_=2 * (ks.length+1);cbv
theorem CP(ks:!Tm)(k:Tm):bK (ks++[k])=bK ks++[.s " ",.t k]:=by
 unfold bK;rw[VU]
 rfl
theorem PB(F:Own K mg cR)(T:Txt K mg):aa1 P w K mg base cR 1 R9:=by
 show F.c λf fd F=>?_;show L0 (nos:=1) F dN (λds R h=>?_) λbT A outer s H E M hr=>#[_,(af (sN 0 1 dN.nd (az ae))
 (af (sF (aE (vd 0)) (gN 2 dN.nd)
 (af (la 1 (aa aj ae))
 (ah (la 1 (aa (vd 2) ae)))))
 (ah (d8 (pv 1))))),λds R h=>?_]
 .let(ks,rfl,_):=h
  rfl
 .let(ks,rfl,hl,q):=h;have hsz:=aH;show#[#[U,U],?_];show#[_,U,_,.inr U,?_];show cO (λxs s=>∃ (dn td:!Tm) (x2:Sl),x2.pl=true/\ks=dn++td/\xs=td.map toD/\s=#[[.dat (.tup (ks.map toD)),.own 0,x2],[some (.lst ((bK dn).map C5))]]) ?_ ?_ _ _ #[[],ks,.no,U,U,U,U]
  .rintro s ⟨dn,td,x2,hp,e,hx,rfl⟩;have htd:td=[]:=by
    cases td with
    | nil=>rfl
    | cons a b=>cases hx
   rw[htd,VJ] at e;subst e;exact#[0,_,U,U,q]
  .rintro x xs s N ⟨dn,td,x2,hp,e,hx,rfl⟩ hN hE_;cases td with
   | nil=>cases hx
   | cons p td =>
   injection hx with e1 e2;subst e1 e2;have hle:=congrArg List.length e;rw[Vw,VD] at hle;have g6:=oJ dn;show#[0,_,U,U,U,_,U,_,_,U,U,by rw[Vv];cbv,?_];show#[0,_,U,U,U,_,U,_,U,_,_,U,U,by rw[Vw,Vv];change _+1 < _;cbv,?_];show hN _ #[dn++[p],td,.dat (toD p),U,by rw[e];simp,U,?_];rw[CP,VA,VR]
   rfl
def R7:Yd:=λds R=>∃ (hs:!(Str×!Str)) (ks:!Tm),ds=[.tup (bA hs (ks.map toD))]/\Gv hs/\ks.length=hs.length/\R (.lst ((bo hs ks).map C5))
theorem cJ{x:Str}(h:Nm x):x.length<=8:=h.2.2.1
theorem vT:∀ (hs:!(Str×!Str)) (ks:!Tm) (h:Str×!Str) (k:Tm),hs.length=ks.length->bo (hs++[h]) (ks++[k])=bo hs ks++[.s (BX h),.t k]
 | [],[],h,k,_=>rfl
 | [],_::_,h,k,e=>by simp at e
 | _::_,[],h,k,e=>by simp at e
 | a::hs,t::ts,h,k,e=>by
  rw[List.cons_append,List.cons_append,bo,vT hs ts h k (by simpa using e)]
  rfl
theorem oF:∀ (hs:!(Str×!Str)) (ks:!Tm),(bo hs ks).length<=2 * hs.length
 | [],_=>by simp[bo]
 | _::_,[]=>by simp[bo]
 | _::hs,_::ks=>by
  have:=oF hs ks;rw[bo];simp only[List.length_cons];cbv
theorem join_le(x:Str)(ns:!Str)(hx:x.length<=8)(hn:ns.length<=3)(h:∀ n∈ns,n.length<=8):(((x::ns).map (·.length)).sum+(x::ns).length * (" ":Str).length<=100)/\(Txt.join " " (x::ns)).length<=100:=by
 have hs:(ns.map (·.length)).sum<=8 * ns.length:=by
  clear hn
  induction ns with
  | nil=>exact VB _
  | cons a l ih =>
   have:=ih λn hn=>h n (Vy _ hn);have:=h a Vx;simp only[List.map_cons,List.sum_cons,List.length_cons];cbv
 have e:(" ":Str).length=1:=rfl;have h1:((x::ns).map (·.length)).sum+(x::ns).length * (" ":Str).length<=100:=by
  rw[e];simp only[List.map_cons,List.sum_cons,List.length_cons];cbv
 show#[h1,?_];change (FM.Str.glued " " (x::ns)).length<=100;rw[StrLaws.glued_eq_join];exact VF (StrLaws.join_length_le _ _) h1
theorem Pr(F:Own K mg dg)(T:Txt K mg):aa1 P w K mg base dg 1 R7:=by
 show F.c λf fd F=>?_;show L0 (nos:=1) F cw (λds R h=>?_) λbT A outer s H E M hr=>#[_,(af (sN 0 1 cw.nd (az ae))
 (af (sF (aE (vd 0)) (bO (m:=3) U (aq (gN 2 cw.nd) (aq (gN 3 cw.nd) (aq (gN 4 cw.nd) bQ))))
 (af (la 1 (aa (bc aI cc (bc aI cc aj (iJ aj (aa (DN.de (bz aR aT (DN.de (az (aa (vd 2) ae))) (DN.de (d9 bY dY U T.list (by decide+kernel) (aa (vd 3) ae))))) ae))) aj) ae))
 (ah (la 1 (aa (vd 4) ae)))))
 (ah (d8 (pv 1))))),λds R h=>?_]
 .let(hs,ks,rfl,_):=h
  rfl
 .let(hs,ks,rfl,(hl3,hh),hl,q):=h;have hsz:=aH;show#[#[U,U],?_];show#[_,U,_,.inr U,?_];show cO (λxs s=>∃ (dh th:!(Str×!Str)) (dk tk:!Tm) (x2 x3 x4:Sl),(x2.pl=true/\x3.pl=true/\x4.pl=true)/\hs=dh++th/\ks=dk++tk/\dh.length=dk.length/\xs=bA th (tk.map toD)/\s=#[[.dat (.tup (bA hs (ks.map toD))),.own 0,x2,x3,x4],[some (.lst ((bo dh dk).map C5))]]) ?_ ?_ _ _ #[[],hs,[],ks,.no,.no,.no,#[U,U,U],U,U,U,U,U]
  .rintro s ⟨dh,th,dk,tk,x2,x3,x4,hp,e1,e2,hd,hx,rfl⟩;have hll:th.length=tk.length:=by
    have a:=congrArg List.length e1;have b:=congrArg List.length e2;rw[Vw] at a b;cbv
   have hth:th=[]/\tk=[]:=by
    cases th with
    | nil=>exact#[U,Wf hll.symm]
    | cons a th =>
     cases tk with
     | nil=>cases hll
     | cons b tk=>cases hx
   rw[hth.1,VJ] at e1;rw[hth.2,VJ] at e2;subst e1 e2;exact#[0,_,U,U,q]
  .rintro x xs s N ⟨dh,th,dk,tk,x2,x3,x4,hp,e1,e2,hd,hx,rfl⟩ hN hE_;have hll:th.length=tk.length:=by
    have a:=congrArg List.length e1;have b:=congrArg List.length e2;rw[Vw] at a b;cbv
   cases th with
   | nil=>cases hx
   | cons h th =>
   cases tk with
   | nil=>cases hll
   | cons k tk =>
   injection hx with z1 z2;subst z1 z2;have hh1:=hh h (by rw[e1];simp);have a:=congrArg List.length e1;rw[Vw,VD] at a;have g6:=oF dh dk;let(j1,j2):=join_le h.1 h.2 (cJ hh1.1) hh1.2.1 λn hn=>cJ (hh1.2.2 n hn);show#[_,U,U,_,_,U,_,_,U,_,_,U,U,?_];show#[0,_,U,U,U,?_];show#[_,U,_,U,_,U,_,.inr U,_,_,U,U,?_,h.1::h.2,U,VF j1 (),?_]
   .show 1+(h.2.map D.str).length<=_;rw[Vv];cbv
   show#[_,_,U,U,?_,_,_,U,U,?_,?_]
   .show 3+_<=_;cbv
   .rw[XT];change 3+_+3<=_;cbv
   show#[_,U,_,_,U,U,by rw[Vv];cbv,?_];show#[0,_,U,U,U,_,U,_,U,_,_,U,U,by rw[Vw,Vv];change _+1 < _;cbv,?_];show hN _ #[dh++[h],th,dk++[k],tk,.dat (.str h.1),.dat (.tup (sD h.2)),.dat (toD k),#[U,U,U],by rw[e1];simp,by rw[e2];simp,by simp[hd],U,?_];rw[vT dh dk h k hd,VA,VR]
   rfl
def Tj:Yd:=λds R=>∃ (f:Fm) (ks:!Tm),ds=[toD (.node f ks)]/\mN f ks.length/\R (.lst ((pieces f ks).map C5))
theorem T8{α:Type}{l:!α}(h:l.length=0):l=[]:=Wf h
theorem ln2{α:Type}{l:!α}(h:l.length=2):∃ a b,l=[a,b]:=by
 match l,h with
 | [a,b],_=>exact#[a,b,U]
theorem UQ{α:Type}{l:!α}(h:l.length=3):∃ a b c,l=[a,b,c]:=by
 match l,h with
 | [a,b,c],_=>exact#[a,b,c,U]
theorem T5{α:Type}{l:!α}(h:1<=l.length):∃ a r,l=a::r:=by
 match l,h with
 | a::r,_=>exact#[a,r,U]
theorem Es(f:Fm)(ks:!Tm):toD (.node f ks)=P5 f (ks.map toD):=by
 rw[<- toDs_map]
 rfl
theorem iK{x:Str}(h:vA x):x.length<=8:=by
 rcases h with h | rfl
 .exact cJ h
 .decide
theorem NZ(Pa:aa1 P w K mg base cR 1 R9)(SI:aa1 P w K mg base dg 1 R7)(F:Own K mg gy)(T:Txt K mg):aa1 P w K mg base gy 2 Tj:=by
 show F.c λf fd F=>?_;show L0 (nos:=0) F lX (λds R h=>?_) λbT A outer s H E M hr=>#[_,(af (sS 1 lX.nd (bN (vd 0) ag))
 (af (bw (ax aL bH (vd 1) aj (au _))
 (ah (bR (az (aa (bN (vd 0) ag) ae))))
 aD)
 (af (bw (ax aL bH (vd 1) aj (au _))
 (ah (bR (az (aa (ip Aw Lj U T.str (by decide+kernel) (aa (bN (vd 0) ag) ae)) ae))))
 aD)
 (af (bw (ax aL bH (vd 1) aj (au _))
 (ah (bR (bz aR aT (DN.de (bz aR aT (DN.de (az (aa (bc aI cc aj (bN (vd 0) ag)) ae))) (DN.de (aG hr Pa (aa (dC (vd 0) (bb ag) cx) ae))))) (DN.de (az (aa aj ae))))))
 aD)
 (af (bw (ax aL bH (vd 1) aj (au _))
 (ah (bR (bz aR aT (DN.de (bz aR aT (DN.de (az (aa aj ae))) (DN.de (aG hr Pa (aa (dC (vd 0) (bb ag) cx) ae))))) (DN.de (az (aa aj ae))))))
 aD)
 (af (bw (ax aL bH (vd 1) aj (au _))
 (ah (bR (bz aR aT (DN.de (bz aR aT (DN.de (az (aa (bc aI cc aj (bN (vd 0) ag)) ae))) (DN.de (aG hr Pa (aa (dC (vd 0) (bb ag) cx) ae))))) (DN.de (az (aa aj ae))))))
 aD)
 (af (bw (ax aL bH (vd 1) aj (au _))
 (ah (bR (bz aR aT (DN.de (bz aR aT (DN.de (az (aa (bc aI cc aj (bN (vd 0) ag)) ae))) (DN.de (aG hr Pa (aa (bN (vd 0) ag) ae))))) (DN.de (az (aa aj ae))))))
 aD)
 (af (bw (ax aL bH (vd 1) aj (au _))
 (ah (bR (bz aR aT (DN.de (bz aR aT (DN.de (az (aa aj (aa (bN (vd 0) ag) (aa (bc aI cc aj (bN (vd 0) ag)) ae))))) (DN.de (aG hr Pa (aa (bN (vd 0) ag) ae))))) (DN.de (az (aa aj ae))))))
 aD)
 (af (bw (ax aL bH (vd 1) aj (au _))
 (ah (bR (bz aR aT (DN.de (bz aR aT (DN.de (az (aa aj (aa (bN (vd 0) ag) (aa (bc aI cc aj (bN (vd 0) ag)) ae))))) (DN.de (aG hr SI (aa (bN (vd 0) ag) ae))))) (DN.de (az (aa aj ae))))))
 aD)
 (ah (bR (bz aR aT (DN.de (bz aR aT (DN.de (az (aa (bc aI cc aj (bN (vd 0) ag)) ae))) (DN.de (aG hr SI (aa (bN (vd 0) ag) ae))))) (DN.de (az (aa aj ae))))))))))))))),λds R h=>?_]
 .let(f,ks,rfl,_):=h
  rfl
 .let(f,ks,rfl,aZ,q):=h;have hsz:=aH;rw[Es];have tl:=λks:!Tm=>oJ ks;show#[_,U,?_];cases f with
  | nm x =>
   cases T8 aZ.2;show#[_,_,_,U,U,U,?_];show#[_,U,#[U,U,U],_,U,?_];show ky (by decide+kernel) ?_;exact#[_,U,_,_,_,U,U,U,q]
  | num i =>
   cases T8 aZ.2;show#[_,_,_,U,U,U,?_];show#[_,U,#[U,U,U],_,U,?_];show fe (by decide+kernel) ?_;show#[_,U,#[U,U,U],_,U,?_];show ky (by decide+kernel) ?_;exact#[_,U,_,_,_,U,U,U,.inl #[_,U,Lq aZ.1.1 aZ.1.2,q]]
  | op s =>
   let(a,b,rfl):=ln2 aZ.2;show#[_,_,_,U,U,U,?_];show#[_,U,#[U,U,U],_,U,?_];show fe (by decide+kernel) ?_;show#[_,U,#[U,U,U],_,U,?_];show fe (by decide+kernel) ?_;show#[_,U,#[U,U,U],_,U,?_];show ky (by decide+kernel) ?_;show#[_,U,_,_,_,U,U,U,_,_,U,U,?_,?_]
   .have:s.length=1:=by rcases aZ.1 with rfl | rfl | rfl<;>rfl
    change 1+s.length<=_;cbv
   exact#[_,U,_,U,_,U,[a,b],U,by change 2<=1000;decide,_,_,U,U,by change 1+4<=_;cbv,_,_,U,U,by change 1+4+1<=_;cbv,q]
  | j3 =>
   let(a,b,c,rfl):=UQ aZ;show#[_,_,_,U,U,U,?_];show#[_,U,#[U,U,U],_,U,?_];show fe (by decide+kernel) ?_;show#[_,U,#[U,U,U],_,U,?_];show fe (by decide+kernel) ?_;show#[_,U,#[U,U,U],_,U,?_];show fe (by decide+kernel) ?_;show#[_,U,#[U,U,U],_,U,?_];show ky (by decide+kernel) ?_;exact#[_,U,_,U,_,U,[a,b,c],U,by change 3<=1000;decide,_,_,U,U,by change 1+6<=_;cbv,_,_,U,U,by change 1+6+1<=_;cbv,q]
  | lt x =>
   let(a,b,rfl):=ln2 aZ.2;have hx:=cJ aZ.1;show#[_,_,_,U,U,U,?_];show#[_,U,#[U,U,U],_,U,?_];show fe (by decide+kernel) ?_;show#[_,U,#[U,U,U],_,U,?_];show fe (by decide+kernel) ?_;show#[_,U,#[U,U,U],_,U,?_];show fe (by decide+kernel) ?_;show#[_,U,#[U,U,U],_,U,?_];show fe (by decide+kernel) ?_;show#[_,U,#[U,U,U],_,U,?_];show ky (by decide+kernel) ?_;show#[_,U,_,_,_,U,U,U,_,_,U,U,?_,?_]
   .show 5+x.length<=_;cbv
   exact#[_,U,_,U,_,U,[a,b],U,by change 2<=1000;decide,_,_,U,U,by change 1+4<=_;cbv,_,_,U,U,by change 1+4+1<=_;cbv,q]
  | mk x =>
   have hx:=cJ aZ.1;have hk:=aZ.2;have hp:=oJ ks;show#[_,_,_,U,U,U,?_];show#[_,U,#[U,U,U],_,U,?_];show fe (by decide+kernel) ?_;show#[_,U,#[U,U,U],_,U,?_];show fe (by decide+kernel) ?_;show#[_,U,#[U,U,U],_,U,?_];show fe (by decide+kernel) ?_;show#[_,U,#[U,U,U],_,U,?_];show fe (by decide+kernel) ?_;show#[_,U,#[U,U,U],_,U,?_];show fe (by decide+kernel) ?_;show#[_,U,#[U,U,U],_,U,?_];show ky (by decide+kernel) ?_;show#[_,U,_,_,_,U,U,U,_,_,U,U,?_,?_]
   .show 6+x.length<=_;cbv
   show#[_,U,_,_,_,U,U,U,ks,U,by cbv,_,_,U,U,?_,_,_,U,U,?_,?_]
   .rw[Vv];change 1+_<=_;cbv
   .rw[Vw,Vv];change 1+_+1<=_;cbv
   .rw[pieces,VA,VA] at q;exact q
  | ask x =>
   let(a,r,rfl):=T5 aZ.2.1;have hx:=cJ aZ.1;have hk:r.length+1<=4:=aZ.2.2;have hp:=oJ r;show#[_,_,_,U,U,U,?_];show#[_,U,#[U,U,U],_,U,?_];show fe (by decide+kernel) ?_;show#[_,U,#[U,U,U],_,U,?_];show fe (by decide+kernel) ?_;show#[_,U,#[U,U,U],_,U,?_];show fe (by decide+kernel) ?_;show#[_,U,#[U,U,U],_,U,?_];show fe (by decide+kernel) ?_;show#[_,U,#[U,U,U],_,U,?_];show fe (by decide+kernel) ?_;show#[_,U,#[U,U,U],_,U,?_];show fe (by decide+kernel) ?_;show#[_,U,#[U,U,U],_,U,?_];show ky (by decide+kernel) ?_;show#[_,U,_,_,_,U,U,U,_,U,_,_,_,U,U,U,_,_,U,U,?_,?_]
   .show 1+x.length<=_;cbv
   show#[_,U,_,_,_,U,U,U,r,U,by cbv,_,_,U,U,?_,_,_,U,U,?_,?_]
   .rw[Vv];change 3+_<=_;cbv
   .rw[Vw,Vv];change 3+_+1<=_;cbv
   .rw[pieces,VA,VA] at q;exact q
  | k7 rr hs =>
   let(hr1,hh,hk):=aZ;let(a,r,rfl):=T5 (l:=ks) (by cbv);have hx:=iK hr1;have hk:r.length=hs.length:=Nat.succ.inj hk;have hp:=oF hs r;have h3:=hh.1;show#[_,_,_,U,U,U,?_];show#[_,U,#[U,U,U],_,U,?_];show fe (by decide+kernel) ?_;show#[_,U,#[U,U,U],_,U,?_];show fe (by decide+kernel) ?_;show#[_,U,#[U,U,U],_,U,?_];show fe (by decide+kernel) ?_;show#[_,U,#[U,U,U],_,U,?_];show fe (by decide+kernel) ?_;show#[_,U,#[U,U,U],_,U,?_];show fe (by decide+kernel) ?_;show#[_,U,#[U,U,U],_,U,?_];show fe (by decide+kernel) ?_;show#[_,U,#[U,U,U],_,U,?_];show fe (by decide+kernel) ?_;show#[_,U,#[U,U,U],_,U,?_];show ky (by decide+kernel) ?_;show#[_,U,_,_,_,U,U,U,_,U,_,_,_,U,U,U,_,_,U,U,?_,?_]
   .show 4+rr.length<=_;cbv
   show#[_,U,_,_,_,U,U,U,hs,r,U,hh,hk,_,_,U,U,?_,_,_,U,U,?_,?_]
   .rw[Vv];change 3+_<=_;cbv
   .rw[Vw,Vv];change 3+_+1<=_;cbv
   .rw[pieces,VA,VA] at q;exact q
  | new k hs =>
   let(hr1,hh,hk):=aZ;have hx:=iK hr1;have hp:=oF hs ks;have h3:=hh.1;show#[_,_,_,U,U,U,?_];show#[_,U,#[U,U,U],_,U,?_];show fe (by decide+kernel) ?_;show#[_,U,#[U,U,U],_,U,?_];show fe (by decide+kernel) ?_;show#[_,U,#[U,U,U],_,U,?_];show fe (by decide+kernel) ?_;show#[_,U,#[U,U,U],_,U,?_];show fe (by decide+kernel) ?_;show#[_,U,#[U,U,U],_,U,?_];show fe (by decide+kernel) ?_;show#[_,U,#[U,U,U],_,U,?_];show fe (by decide+kernel) ?_;show#[_,U,#[U,U,U],_,U,?_];show fe (by decide+kernel) ?_;show#[_,U,#[U,U,U],_,U,?_];show fe (by decide+kernel) ?_;show#[_,U,_,_,_,U,U,U,_,_,U,U,?_,?_]
   .show 5+k.length<=_;cbv
   show#[_,U,_,_,_,U,U,U,hs,ks,U,hh,hk,_,_,U,U,?_,_,_,U,U,?_,?_]
   .rw[Vv];change 1+_<=_;cbv
   .rw[Vw,Vv];change 1+_+1<=_;cbv
   .rw[pieces,VA,VA] at q;exact q
def Qx:Yd:=λds R=>∃ t:Tm,ds=[toD t]/\(t.gt/\t.k9<=500)/\R (.str (cD t.T))
theorem zM(p:Pc):1<=xf p:=by
 cases p with
 | s x=>exact VB _
 | t u =>
  have:=jo u;change 1<=4 * u.size - 1;cbv
theorem oR:∀ l:!Pc,l.length<=(l.map xf).sum
 | []=>VB _
 | p::l=>by
  have h1:=oR l;have h2:=zM p;simp only[List.length_cons,List.map_cons,List.sum_cons];cbv
theorem EA:∀ l:!Str,(l.map (·.length)).sum=(l.flatMap cd).length
 | []=>rfl
 | a::l=>by
  rw[VE,We,EA l,VS,Vw,mW]
def rH:Pc->Prop
 | .s _=>True
 | .t u=>u.gt
theorem AY{f:Fm}{ks:!Tm}(h:mN f ks.length)(hg:zV ks):∀ p∈pieces f ks,rH p:=by
 have ht:∀ ks:!Tm,zV ks->∀ p∈bK ks,rH p:=λks hg p hp=>by
  let(k,hk,hp):=V3.mp hp;rcases VG.mp hp with rfl | hp
  .exact True.intro
  .rw[VH.mp hp];exact yq hg k hk
 have hr:∀ (hs:!(Str×!Str)) (ks:!Tm),zV ks->∀ p∈bo hs ks,rH p:=λhs=>by
  induction hs with
  | nil=>intro ks _ p hp;simp[bo] at hp
  | cons h hs ih =>
   intro ks hg p hp;cases ks with
   | nil=>simp[bo] at hp
   | cons k ks =>
    rw[bo] at hp;rcases VG.mp hp with rfl | hp
    .exact True.intro
    .rcases VG.mp hp with rfl | hp
     .exact hg.1
     .exact ih ks hg.2 p hp
 have e3:∀ (a b:!Pc) (z:Pc),(∀ p∈a,rH p)->(∀ p∈b,rH p)->rH z->∀ p∈a++b++[z],rH p:=λa b z ha hb hz p hp=>by
  rcases VM.mp hp with hp | hp
  .exact (VM.mp hp).elim (ha p) (hb p)
  .rw[VH.mp hp];exact hz
 have one:∀ (x:Str),∀ p∈[Pc.s x],rH p:=λx p hp=>by
  rw[VH.mp hp];exact True.intro
 have three:∀ (x y:Str) (k:Tm),k.gt->∀ p∈[Pc.s x,.t k,.s y],rH p:=λx y k hk p hp=>by
  rcases VG.mp hp with rfl | hp
  .exact True.intro
  .rcases VG.mp hp with rfl | hp
   .exact hk
   .exact one y p hp
 cases f with
 | nm x=>exact one _
 | num i=>exact one _
 | op s=>exact e3 _ _ _ (one _) (ht ks hg) trivial
 | j3=>exact e3 _ _ _ (one _) (ht ks hg) trivial
 | lt x=>exact e3 _ _ _ (one _) (ht ks hg) trivial
 | mk c=>exact e3 _ _ _ (one _) (ht ks hg) trivial
 | ask f =>
  cases ks with
  | nil=>exact absurd h.2.1 ()
  | cons k ks=>exact e3 _ _ _ (three _ _ k hg.1) (ht ks hg.2) trivial
 | k7 r hs =>
  cases ks with
  | nil=>exact absurd h.2.2 (by simp)
  | cons k ks=>exact e3 _ _ _ (three _ _ k hg.1) (hr hs ks hg.2) trivial
 | new k hs=>exact e3 _ _ _ (one _) (hr hs ks hg) trivial
theorem Nl(UM:aa1 P w K mg base gy 2 Tj)(F:Own K mg fD)(T:Txt K mg):aa0 P w K mg base fD 3 Qx:=by
 show F.d (nos:=2) fT (λds R h=>?_) λf bT A outer s H E M hr=>#[_,(af (sN 0 1 fT.nd (az ae))
 (af (sN 1 2 fT.nd (az (aa (vd 0) ae)))
 (af (u9 PassesOwn.never (zK (pv 2))
 (af (sS 3 fT.nd (zt WI WJ uv EJ (pv 2)))
 (ah (bw (fG (cm fw ny U T.IQ PyProof.Rows.boot_isinstance (aa (vd 3) (aa (dc (d:=.ty "str") (gR (v:=.ty "str") U T.str (by decide+kernel) U) U) ae))))
 (ah (la 1 (aa (vd 3) ae)))
 (ah (iA (pY Wu Wv eZ pQ (pv 2) (aa (DN.de (B8 (DN.de (aG hr UM (aa (vd 3) ae))) fu)) ae))))))))
 (ah (aX (iJ aj (aa (sX (pv 1)) ae))))))),λds R h=>?_]
 .let(t,rfl,_):=h
  rfl
 .let(t,rfl,(hg,hin),q):=h;have hsz:=aH;have hs:=wW t hg;have hT:=zx t hg;show#[#[U,U],?_];show#[_,U,#[U,U],?_];show#[λm s=>∃ (sg:!Str) (st:!Pc) (x3:Sl),x3.pl=true/\m=(st.map xf).sum/\sg.length+m<=4 * t.size/\sg.flatMap cd++st.flatMap Ft=t.T/\(∀ p∈st,rH p)/\s=#[[.dat (toD t),.own 0,.own 1,x3],[some (.lst (sg.map .str)),some (.lst (st.reverse.map C5))]],#[_,[],[.t t],.no,U,U,?_,?_,?_,U],?_]
  .show 0+(4 * t.size - 1+0)<=_;cbv
  .show []++(t.T++[])=_;simp
  .intro p hp;rw[VH.mp hp];exact hg
  .rintro m s ⟨sg,st,x3,hx3,rfl,hm,hc,aZ,rfl⟩;have hlp:=oR st;show#[1,_,U,U,?_];cases st with
   | nil =>
    show fe U ?_;have hc:sg.flatMap cd=t.T:=by simpa using hc
    show#[_,U,.inr #[_,_,U,U,sg,U,?_,?_]]
    .rw[EA,hc];change _+sg.length * 0<=_;cbv
    .have e:Txt.join "" sg=cD t.T:=d3 (by rw[Dp,hc]);rw[e];exact q
   | cons p st =>
    have hr1:((p::st).reverse.map C5)=st.reverse.map C5++[C5 p]:=by simp
    have hw:=zM p;simp only[List.map_cons,List.sum_cons] at hm hlp;show ky (by rw[hr1];simp) ?_;show#[1,_,U,U,U,_,U,st.reverse.map C5,C5 p,by rw[hr1],U,?_];cases p with
    | s x =>
     show#[_,U,_,_,true,U,U,_,U,?_];show ky U ?_;show#[0,_,U,U,U,_,U,_,U,_,_,U,U,by rw[Vv];cbv,?_];show#[(st.map xf).sum,by simp[xf],sg++[x],st,.dat (.str x),U,U,?_,?_,λp hp=>aZ p (List.mem_cons_of_mem _ hp),by rw[List.map_append];rfl]
     .rw[Vw];change sg.length+1+_<=_;have:xf (.s x)=1:=rfl;cbv
     .rw[<- hc,VU,VR];change _=sg.flatMap cd++(cd x++st.flatMap Ft);simp
    | t u =>
     let(f,ks):=u;have hu:(Tm.node f ks).gt:=aZ _ Vx;show#[_,U,_,_,false,U,K8 _,_,U,?_];show fe U ?_;show#[1,_,U,U,U,_,U,f,ks,U,hu.1,?_];have hpw:=BO hu.1;have g6:=oR (pieces f ks);have hlq:=oR st;show#[_,U,_,U,_,_,U,U,?_,?_]
     .simp only[List.length_map,List.length_reverse];cbv
     show#[((pieces f ks++st).map xf).sum,?_,sg,pieces f ks++st,.dat (toD (.node f ks)),U,U,?_,?_,λp hp=>?_,?_]
     .rw[VA,Wx,VE,We];cbv
     .rw[VA,Wx];cbv
     .rw[VU,C3 hu.1,<- hc]
      rfl
     .rcases VM.mp hp with hp | hp
      .exact AY hu.1 hu.2 p hp
      .exact aZ p (Vy _ hp)
     .rw[List.reverse_append,VA,X1 (l:=pieces f ks)]
      rfl
def QA:Yd:=λds R=>∃ (x:Str) (fs:!(Str×Str)),ds=[.str x,.tup (fs.map pairD)]/\(x.length<=8/\fs.length<=3/\∀ p∈fs,p.1.length<=8/\p.2.length<=8)/\R (.str (cD (cL ((x::fs.flatMap λp=>[p.1,p.2]).map .w))))
theorem MK(F:Own K mg dB)(T:Txt K mg):aa0 P w K mg base dB 1 QA:=by
 show F.d (nos:=1) eD (λds R h=>?_) λf bT A outer s H E M hr=>#[_,(af (sN 0 2 eD.nd (az (aa (vd 0) ae)))
 (af (sF (aE (vd 1)) (bO (m:=2) U (aq (gN 3 eD.nd) (aq (gN 4 eD.nd) bQ)))
 (ah (iA (pY Wu Wv eZ pQ (pv 2) (aa (DN.de (az (aa (vd 3) (aa (vd 4) ae)))) ae)))))
 (ah (aX (iJ aj (aa (sX (pv 2)) ae)))))),λds R h=>?_]
 .let(x,fs,rfl,_):=h
  rfl
 .let(x,fs,rfl,(hx,hl,hf),q):=h;have hsz:=aH;right;show bJ pairD (λdn s=>∃ x3 x4:Sl,(x3.pl=true/\x4.pl=true)/\s=#[[.dat (.str x),.dat (.tup (fs.map pairD)),.own 0,x3,x4],[some (.lst ((x::dn.flatMap λp=>[p.1,p.2]).map .str))]]) ?_ ?_ _ #[.no,.no,#[U,U],U]
  .rintro s ⟨x3,x4,hp,rfl⟩;let(h1,h2):=lO hf;right;show#[?_,?_]
   .rw[VE,We,VD,h2];change _+_+_ * 1<=_;cbv
   .rw[show Txt.join _ _=_ from Hv _];exact q
  .rintro dn p td s E e ⟨x3,x4,⟨h3,h4⟩,rfl⟩ hN hE;have hle:=congrArg List.length e;rw[Vw,VD] at hle;have h2:=(lO (l:=dn) λp hp=>hf p (by rw[e];simp[hp])).2;right;show#[?_,?_]
   .rw[Vv,VD];change _+2<=_;cbv
   .refine hN _ #[.dat (.str p.1),.dat (.str p.2),#[U,U],?_];rw[show (x::(dn++[p]).flatMap λp=>[p.1,p.2]).map D.str=(x::dn.flatMap λp=>[p.1,p.2]).map D.str++[.str p.1,.str p.2] by simp]
    rfl
def RW:Yd:=λds R=>∃ (h:Hd) (r:!D),ds=[.tup (.str h.nm::.tup (h.fs.map pairD)::r)]/\(h.nm.length<=8/\h.fs.length<=3/\∀ p∈h.fs,p.1.length<=8/\p.2.length<=8)/\R (.str (cD (cL (h.ws.map .w))))
def QJ:Yd:=λds R=>∃ (h:Hd) (t:Str) (r:!D),ds=[.tup (.str h.nm::.tup (h.fs.map pairD)::.str t::r)]/\(h.nm.length<=8/\h.fs.length<=3/\∀ p∈h.fs,p.1.length<=8/\p.2.length<=8)/\t.length<=8/\R (.str (cD (cL ((h.ws++(["to",t]:!Str)).map .w))))
theorem NK(Ry:aa0 P w K mg base dB 1 QA)(F:Own K mg d5)(T:Txt K mg):aa0 P w K mg base d5 2 RW:=by
 show F.d (nos:=0) rP (λds R h=>?_) λf bT A outer s H E M hr=>#[_,(ah (aX (bB hr Ry (aa (bN (vd 0) ag) (aa (bN (vd 0) ag) ae))))),λds R h=>?_]
 .let(h,r,rfl,_):=h
  rfl
 .let(h,r,rfl,hl,q):=h;right;exact#[hl,q]
theorem O5(Ry:aa0 P w K mg base dB 1 QA)(F:Own K mg eu)(T:Txt K mg):aa0 P w K mg base eu 2 QJ:=by
 show F.d (nos:=0) rF (λds R h=>?_) λf bT A outer s H E M hr=>#[_,(ah (aX (bc aI cc (bc aI cc (bB hr Ry (aa (bN (vd 0) ag) (aa (bN (vd 0) ag) ae))) aj) (bN (vd 0) ag)))),λds R h=>?_]
 .let(h,t,r,rfl,_):=h
  rfl
 .let(h,t,r,rfl,hl,ht,q):=h;have hsz:=aH;have h1:=FG hl;have e4:(" to ":Str).length=4:=rfl;right;show#[hl,?_];right;show#[by rw[cX,e4];change (cL (h.ws.map .w)).length+_<=_;cbv,?_];right;show#[by rw[XT,cX,e4];change (cL (h.ws.map .w)).length+_+_<=_;cbv,?_];rw[<- MZ (by intro z;cases z)] at q;exact q
def RB:Yd:=λds R=>∃ rs:!(Str×Tm),ds=[.tup (rs.map eP)]/\(∀ r∈rs,Nm r.1/\qP r.2)/\R (.lst (rs.map λr=>.str (cD (cL (qo r)))))
theorem O8(RU:aa0 P w K mg base fD 3 Qx)(F:Own K mg et)(T:Txt K mg):aa1 P w K mg base et 4 RB:=by
 show F.n (nos:=0) rS (λds R h=>?_) λf bT A outer s H E M hr=>#[_,(ah (bR (nC ["name","term"] [] (aE (vd 0)) (λ_ _ _ _=>(bO (m:=2) U (aq (gM 0 ["name","term"]) (aq (gM 1 ["name","term"]) bQ)))) (λ_ _ _ _=>bD)
 (λ_ _ _ _=>(bc aI cc (bc aI cc (vd 0) aj) (bB hr RU (aa (vd 1) ae))))))),λds R h=>?_]
 .let(rs,rfl,_):=h
  rfl
 .let(rs,rfl,ok,q):=h;have hsz:=aH;right;show ba eP (λr=>.str (cD (cL (qo r)))) _ (λr hr k hk=>?_) ?_
  .let(h1,h2):=ok r hr;have h3:=zx r.2 h2.1;have h4:=h2.2.2;have h5:=cJ h1;have e3:(" : ":Str).length=3:=rfl;right;show#[by rw[e3];cbv,?_];right;show#[#[h2.1,by cbv],?_];right;show#[by rw[XT,e3,cX r.2.T];cbv,?_];rw[OJ];exact hk _ U
  .rw[VY];exact q
def Qp(b:Bool):Yd:=λds R=>∃ k:Kp,ds=[bW k]/\(eW k/\k.asked=b)/\R (.lst (k.rws.map λr=>.str (cD (cL r))))
theorem uM{h:Hd}:h.gg≠[]:=by intro z;cases z
theorem Fp{h:Hd}(e:h.res=none):h.ws.map .w=h.gg:=by
 unfold Hd.gg Hd.to;rw[e,VJ]
theorem to_els{h:Hd}{r:Str}(e:h.res=some r):(h.ws++(["to",r]:!Str)).map .w=h.gg:=by
 unfold Hd.gg Hd.to;rw[e]
theorem O4(Q2:aa0 P w K mg base d5 2 RW)(R1:aa0 P w K mg base eu 2 QJ)(RX:aa1 P w K mg base et 4 RB)(F:Own K mg gA)(T:Txt K mg):aa1 P w K mg base gA 5 (Qp false):=by
 show F.n (nos:=1) iS (λds R h=>?_) λf bT A outer s H E M hr=>#[_,(af (sN 0 1 iS.nd (az (aa (iJ aj (aa (DN.de (bz aR aT (DN.de (az (aa (bc aI cc aj (bN (vd 0) ag)) ae))) (DN.de (nC ["maker"] [] (aE (bN (vd 0) ag)) (λ_ _ _ _=>(gM 0 ["maker"])) (λ_ _ _ _=>bD)
 (λ_ _ _ _=>(bB hr Q2 (aa (vd 0) ae))))))) ae)) ae)))
 (af (sF (aE (bN (vd 0) ag)) (gN 2 iS.nd)
 (ah (la 1 (aa (iJ aj (aa (DN.de (bz aR aT (DN.de (az (aa (bc aI cc aj (bB hr R1 (aa (vd 2) ae))) ae))) (DN.de (aG hr RX (aa (bN (vd 2) ag) ae))))) ae)) ae))))
 (ah (d8 (pv 1))))),λds R h=>?_]
 .let(k,rfl,_):=h
  rfl
 .let((b,nm,hs,ts),rfl,(ok,rfl),q):=h;have hsz:=aH;have e5:("made ":Str).length<=6:=by decide
  have e4:("def ":Str).length=4:=rfl;have hn:nm.length<=8:=cJ ok.nm;have hl:hs.length<=5:=ok.hl;have tl:ts.length<=5:=ok.tl;right;show#[by change _+nm.length<=_;cbv,?_];right;show ba wm (λh=>.str (cD (cL h.gg))) _ (λh hh k hk=>?_) ?_
  .have o:=ok.hs h hh;have hr:h.res=none:=o.res;right;exact#[o.D9,by rw[Fp hr];exact hk _ U]
  rw[VY,show ("made ":Str)++_=_ from Ja nm];right;show#[by rw[Vv];change 1+hs.length<=_;cbv,?_];have g1:(cL [.w "made",.w nm]).length<=190000:=VF (iY.cons () (iY.cons hn .nil)).len ();show#[_,oE [.w "made",.w nm] Hd.gg hs,jL (by rw[Vv];cbv) g1 (λx hx=>?_) (),?_]
  .let(h,hh,rfl):=VI.mp hx;exact VF (ok.hs h hh).gg.len ()
  rw[oB _ _ (by simp) (λx hx=>by let(h,hh,rfl):=List.mem_map.mp hx;exact uM),List.flatMap_map];right;show bJ i6 (λdn s=>∃ x2:Sl,x2.pl=true/\s=#[[.dat (bW #[false,nm,hs,ts]),.own 0,x2],[some (.lst ((Kp.rws #[false,nm,hs,dn]).map λr=>.str (cD (cL r))))]]) ?_ ?_ _ #[.no,U,U]
  .rintro s ⟨x2,hp,rfl⟩;right;exact q
  .rintro dn t td s E e ⟨x2,hp,rfl⟩ hN hE;have e:ts=dn++t::td:=e;have o:og false t:=ok.ts t (by change t∈ts;rw[e];simp);have hle:=congrArg List.length e;rw[Vw,VD] at hle;let((nm2,fs,res),rows):=t;obtain⟨r,hr,hkn⟩:∃ r,res=some r/\vA r:=o.h.res;subst hr;have rl:rows.length<=5:=o.rl;have hel:(cL (Hd.gg #[nm2,fs,some r])).length<=9 * 9:=o.h.gg.len;right;show#[o.h.D9,iK hkn,?_];rw[to_els (h:=#[nm2,fs,some r]) U];right;show#[by rw[e4,cX (cL _)];cbv,?_];rw[OA uM];right;show#[λr hr=>o.rs r hr,?_];right;show#[by rw[Vv];change 1+rows.length<=_;cbv,?_];have g2:(cL (.w "def"::Hd.gg #[nm2,fs,some r])).length<=190000:=VF (iY.cons () o.h.gg).len ();show#[_,oE (.w "def"::Hd.gg #[nm2,fs,some r]) qo rows,jL (by rw[Vv];cbv) g2 (λx hx=>?_) (),?_]
   .let(r,hr,rfl):=VI.mp hx;exact VF (vq (o.rs r hr).1 (o.rs r hr).2).len ()
   rw[oB _ _ (by simp) (λx hx=>by let(r,hr,rfl):=List.mem_map.mp hx;intro z;cases z),List.flatMap_map];right;show#[by rw[List.length_map,show (Kp.rws #[false,nm,hs,dn]).length=dn.length+1 by simp[Kp.rws]];cbv,?_];show hN _ #[.dat (i6 #[#[nm2,fs,some r],rows]),U,?_];unfold Kp.rws;rw[VA,<- Xv,VA]
   rfl
theorem NB(Q2:aa0 P w K mg base d5 2 RW)(R1:aa0 P w K mg base eu 2 QJ)(RX:aa1 P w K mg base et 4 RB)(F:Own K mg fU)(T:Txt K mg):aa1 P w K mg base fU 5 (Qp true):=by
 show F.n (nos:=1) gX (λds R h=>?_) λf bT A outer s H E M hr=>#[_,(af (sN 0 1 gX.nd (az (aa (iJ aj (aa (DN.de (bz aR aT (DN.de (az (aa (bc aI cc aj (bN (vd 0) ag)) ae))) (DN.de (nC ["asker"] [] (aE (bN (vd 0) ag)) (λ_ _ _ _=>(gM 0 ["asker"])) (λ_ _ _ _=>bD)
 (λ_ _ _ _=>(bB hr R1 (aa (vd 0) ae))))))) ae)) ae)))
 (af (sF (aE (bN (vd 0) ag)) (gN 2 gX.nd)
 (ah (la 1 (aa (iJ aj (aa (DN.de (bz aR aT (DN.de (az (aa (bc aI cc aj (bB hr Q2 (aa (vd 2) ae))) ae))) (DN.de (aG hr RX (aa (bN (vd 2) ag) ae))))) ae)) ae))))
 (ah (d8 (pv 1))))),λds R h=>?_]
 .let(k,rfl,_):=h
  rfl
 .let((b,nm,hs,ts),rfl,(ok,rfl),q):=h;have hsz:=aH;have e5:("asked ":Str).length<=6:=by decide
  have e4:("tab ":Str).length=4:=rfl;have hn:nm.length<=8:=cJ ok.nm;have hl:hs.length<=5:=ok.hl;have tl:ts.length<=5:=ok.tl;right;show#[by change _+nm.length<=_;cbv,?_];right;show ba wm (λh=>.str (cD (cL h.gg))) _ (λh hh k hk=>?_) ?_
  .have o:=ok.hs h hh;let(nm2,fs,res):=h;obtain⟨r,hr,hkn⟩:∃ r,res=some r/\vA r:=o.res;subst hr;right;exact#[o.D9,iK hkn,by rw[to_els (h:=#[nm2,fs,some r]) U];exact hk _ U]
  rw[VY,show ("asked ":Str)++_=_ from Hr nm];right;show#[by rw[Vv];change 1+hs.length<=_;cbv,?_];have g1:(cL [.w "asked",.w nm]).length<=190000:=VF (iY.cons () (iY.cons hn .nil)).len ();show#[_,oE [.w "asked",.w nm] Hd.gg hs,jL (by rw[Vv];cbv) g1 (λx hx=>?_) (),?_]
  .let(h,hh,rfl):=VI.mp hx;exact VF (ok.hs h hh).gg.len ()
  rw[oB _ _ (by simp) (λx hx=>by let(h,hh,rfl):=List.mem_map.mp hx;exact uM),List.flatMap_map];right;show bJ i6 (λdn s=>∃ x2:Sl,x2.pl=true/\s=#[[.dat (bW #[true,nm,hs,ts]),.own 0,x2],[some (.lst ((Kp.rws #[true,nm,hs,dn]).map λr=>.str (cD (cL r))))]]) ?_ ?_ _ #[.no,U,U]
  .rintro s ⟨x2,hp,rfl⟩;right;exact q
  .rintro dn t td s E e ⟨x2,hp,rfl⟩ hN hE;have e:ts=dn++t::td:=e;have o:og true t:=ok.ts t (by change t∈ts;rw[e];simp);have hle:=congrArg List.length e;rw[Vw,VD] at hle;let((nm2,fs,res),rows):=t;have hr:res=none:=o.h.res;subst hr;have rl:rows.length<=5:=o.rl;have hel:(cL (Hd.gg #[nm2,fs,none])).length<=9 * 9:=o.h.gg.len;right;show#[o.h.D9,?_];rw[Fp (h:=#[nm2,fs,none]) U];right;show#[by rw[e4,cX (cL _)];cbv,?_];rw[O9 uM];right;show#[λr hr=>o.rs r hr,?_];right;show#[by rw[Vv];change 1+rows.length<=_;cbv,?_];have g2:(cL (.w "tab"::Hd.gg #[nm2,fs,none])).length<=190000:=VF (iY.cons () o.h.gg).len ();show#[_,oE (.w "tab"::Hd.gg #[nm2,fs,none]) qo rows,jL (by rw[Vv];cbv) g2 (λx hx=>?_) (),?_]
   .let(r,hr,rfl):=VI.mp hx;exact VF (vq (o.rs r hr).1 (o.rs r hr).2).len ()
   rw[oB _ _ (by simp) (λx hx=>by let(r,hr,rfl):=List.mem_map.mp hx;intro z;cases z),List.flatMap_map];right;show#[by rw[List.length_map,show (Kp.rws #[true,nm,hs,dn]).length=dn.length+1 by simp[Kp.rws]];cbv,?_];show hN _ #[.dat (i6 #[#[nm2,fs,none],rows]),U,?_];unfold Kp.rws;rw[VA,<- Xv,VA]
   rfl
def R8:Yd:=λds R=>∃ k:Kp,ds=[bW k]/\eW k/\R (.lst (k.rws.map λr=>.str (cD (cL r))))
theorem PU(UH:aa1 P w K mg base gA 5 (Qp false))(US:aa1 P w K mg base fU 5 (Qp true))(F:Own K mg eh)(T:Txt K mg):aa0 P w K mg base eh 6 R8:=by
 show F.d (nos:=0) oq (λds R h=>?_) λf bT A outer s H E M hr=>#[_,(ah (aX (Ga (ax aL bH (bN (vd 0) ag) aj (au _)) (DN.de (aG hr UH (aa (vd 0) ae))) (DN.de (aG hr US (aa (vd 0) ae)))))),λds R h=>?_]
 .let(k,rfl,_):=h
  rfl
 .let((b,nm,hs,ts),rfl,ok,q):=h;cases b with
  | false =>
   right;exact#[#[ok,U],q]
  | true =>
   right;exact#[#[ok,U],q]
def Qe:Yd:=λds R=>∃ t:Tm,(t.wf=true/\t.size<=100000)/\ds=[toD t]/\R (.lst (toDs t.kids))
theorem MJ(F:Own K mg eG)(T:Txt K mg):aa1 P w K mg base eG 1 Qe:=by
 show F.c λf fd F=>?_;show L0 (nos:=0) F i8 (λds R h=>?_) λbT A outer s H E M hr=>#[_,(af (sS 1 i8.nd (bN (vd 0) ag))
 (af (bw (ax jJ okIn (vd 1) (aK (aa aj (aa aj ae))) U)
 (ah (bR (d9 bY dY U T.list (by decide+kernel) (aa (dC (vd 0) (bb ag) cx) ae))))
 aD)
 (af (bw (ax aL bH (vd 1) aj (au _))
 (ah (bR (d9 bY dY U T.list (by decide+kernel) (aa (dC (vd 0) (bb ag) cx) ae))))
 aD)
 (af (bw (ax aL bH (vd 1) aj (au _))
 (ah (bR (d9 bY dY U T.list (by decide+kernel) (aa (bN (vd 0) ag) ae))))
 aD)
 (af (bw (ax aL bH (vd 1) aj (au _))
 (ah (bR (bz aR aT (DN.de (az (aa (bN (vd 0) ag) ae))) (DN.de (d9 bY dY U T.list (by decide+kernel) (aa (bN (vd 0) ag) ae))))))
 aD)
 (af (bw (ax aL bH (vd 1) aj (au _))
 (ah (bR (bz aR aT (DN.de (az (aa (bN (vd 0) ag) ae))) (DN.de (nC ["row"] [] (aE (bN (vd 0) ag)) (λ_ _ _ _=>(gM 0 ["row"])) (λ_ _ _ _=>bD)
 (λ_ _ _ _=>(bN (vd 0) ag)))))))
 aD)
 (af (bw (ax aL bH (vd 1) aj (au _))
 (ah (bR (nC ["row"] [] (aE (bN (vd 0) ag)) (λ_ _ _ _=>(gM 0 ["row"])) (λ_ _ _ _=>bD)
 (λ_ _ _ _=>(bN (vd 0) ag)))))
 aD)
 (ah (bR (az ae)))))))))),λds R h=>?_]
 .let(t,_,rfl,_):=h
  rfl
 .let(t,(hw,hs),rfl,q):=h;let(f,ks):=t;let(ha,hk):=jT hw;have hl:ks.length < 100000:=VZ wa hs
  replace q:R (.lst (toDs ks)):=q
  cases f with
  | nm x =>
   cases len0 (l:=ks) (by simpa [Fm.ar] using ha);trivial;exact q
  | num x =>
   cases len0 (l:=ks) (by simpa [Fm.ar] using ha);trivial;exact q
  | op x =>
   let(a,b,rfl):=Bm (l:=ks) (by simpa [Fm.ar] using ha);trivial;exact q
  | j3 =>
   let(a,b,c,rfl):=Oa (l:=ks) (by simpa [Fm.ar] using ha);trivial;exact q
  | lt x =>
   let(a,b,rfl):=Bm (l:=ks) (by simpa [Fm.ar] using ha);trivial;exact q
  | mk x =>
   trivial;exact q
  | ask x =>
   let(a,r,rfl):=mP (l:=ks) (by simpa [Fm.ar] using ha);trivial;show#[?_,q];have:=aH;have e:(toDs (a::r)).tail=toDs r:=rfl;rw[e,toDs_len];simp at hl ⊢;cbv
  | k7 x hd =>
   have AZ:ks.length=hd.length+1:=(uA ha).1;let(a,r,rfl):=mP (l:=ks) (by cbv);have hr2:(toDs r).length=hd.length:=by rw[toDs_len];simpa using AZ
   trivial;show hZ (f:=f6) (λy hy k hk=>?_) #[_,_,U,U,?_,?_]
   .let(a1,a2,a3,rfl):=gb hr2 y hy;trivial;exact hk _ U
   .have e:(List.map f6 (bA hd (toDs r))).length=(toDs r).length:=by rw[gp hr2]
    have:=aH;change [toD a].length+([]++List.map f6 (bA hd (toDs r))).length<=Ev;rw[VY,e,toDs_len];simp at hl ⊢;cbv
   .show R (.lst ([toD a]++([]++List.map f6 (bA hd (toDs r)))));rw[gp hr2];exact q
  | new x hd =>
   have hr2:(toDs ks).length=hd.length:=by rw[toDs_len];exact (ER ha).1
   trivial;show hZ (f:=f6) (λy hy k hk=>?_) ?_
   .let(a1,a2,a3,rfl):=gb hr2 y hy;trivial;exact hk _ U
   .show R (.lst ([]++List.map f6 (bA hd (toDs ks))));rw[gp hr2];exact q
def QN:Yd:=λds R=>∃ t:Tm,(t.wf=true/\t.size<=100000)/\ds=[toD t]/\R (.lst (toDs t.pre))
theorem toDs_app(a b:!Tm):toDs (a++b)=toDs a++toDs b:=by rw[toDs_map,toDs_map,toDs_map,VA]
theorem toDs_rev(a:!Tm):toDs a.reverse=(toDs a).reverse:=by rw[toDs_map,toDs_map,X1]
theorem Mq(F:Own K mg lS)(T:Txt K mg)(UN:aa1 P w K mg base eG 1 Qe):aa1 P w K mg base lS 2 QN:=by
 show F.c λf fd F=>?_;show L0 (nos:=2) F lE (λds R h=>?_) λbT A outer s H E M hr=>#[_,(af (sN 0 1 lE.nd (az ae))
 (af (sN 1 2 lE.nd (az (aa (vd 0) ae)))
 (af (u9 PassesOwn.never (zK (pv 2))
 (af (sS 3 lE.nd (zt WI WJ uv EJ (pv 2)))
 (af (la 1 (aa (vd 3) ae))
 (ah (iA (pY Wu Wv eZ pQ (pv 2) (aa (DN.de (B8 (DN.de (aG hr UN (aa (vd 3) ae))) fu)) ae)))))))
 (ah (d8 (pv 1)))))),λds R h=>?_]
 .let(t,_,rfl,_):=h
  rfl
 .let(t,(hw,hs),rfl,q):=h
  replace q:R (.lst (toDs t.pre)):=q
  trivial;show#[λm s=>∃ (dn st:!Tm) (x:Sl),s=#[[.dat (toD t),.own 0,.own 1,x],[some (.lst (toDs dn)),some (.lst (toDs st.reverse))]]/\m=aU st/\dn++eA st=t.pre/\mD st=true,#[_,[],[t],.no,U,U,?_,?_],?_]
  .show t.pre++[]=t.pre;simp
  .show (t.wf&&true)=true;simp[hw]
  .rintro m s ⟨dn,st,x,rfl,rfl,e,n5⟩;have hlen:dn.length+aU st=t.size:=by rw[<- iC t,<- e,Vw,lK]
   show#[1,toDs st.reverse,U,U,?_];cases st with
   | nil =>
    show fe U ?_;have e':dn=t.pre:=by simpa [eA] using e
    subst e';exact#[0,_,U,U,q]
   | cons y r =>
    have hy:y.wf=true:=iO n5 y Vx;have hr':mD r=true:=oQ λz hz=>iO n5 z (Vy _ hz);have hsz:aU (y::r)=y.size+aU r:=rfl;have ed:toDs (y::r).reverse=toDs r.reverse++[toD y]:=by rw[Xb,toDs_app];rfl
    show ky (by rw[ed];simp) ?_;have fz:=aH;show#[1,_,U,U,U,_,U,toDs r.reverse,toD y,by rw[ed],U,?_];show#[0,_,U,U,U,_,U,_,U,_,_,U,U,?_,?_]
    .rw[toDs_len];cbv
    show#[1,_,U,U,U,_,U,y,#[hy,by cbv],U,_,U,_,U,_,_,U,U,?_,?_]
    .rw[toDs_len,Xj,Xj,toDs_len];have h1:=eS r;have h2:=eS y.kids;have h3:=size_eq y;cbv
    show#[aU (y.kids++r),?_,dn++[y],y.kids++r,.dat (toD y),?_,U,?_,yB (Ad hy) hr']
    .rw[mI,hsz,size_eq y];cbv
    .rw[toDs_app,List.reverse_append,toDs_app,toDs_rev y.kids]
     rfl
    .rw[<- e,pO,VR];change _=dn++(y.pre++eA r);rw[De y];simp
def Ua:Yd:=λds R=>∃ t:Tm,ds=[toD t]/\R (M7 (uw t))
theorem OW(F:Own K mg ma)(T:Txt K mg):aa0 P w K mg base ma 1 Ua:=by
 show F.d (nos:=0) Bb (λds R h=>?_) λf bT A outer s H E M hr=>#[_,(af (bw (ax aL bH (bN (vd 0) ag) aj (au _))
 (ah (aX (aK (aa aj (aa (bN (vd 0) ag) ae)))))
 aD)
 (af (bw (ax aL bH (bN (vd 0) ag) aj (au _))
 (ah (aX (aK (aa aj (aa (bN (vd 0) ag) ae)))))
 aD)
 (ah (aX qc)))),λds R h=>?_]
 .let(t,rfl,_):=h
  rfl
 .let((f,ks),rfl,q):=h;cases f<;>(right;exact q)
def Tg:Yd:=λds R=>∃ k:Kp,ds=[bW k]/\eW k/\∀ l,rM l k.uses->R (GC l)
theorem Mz(QW:aa1 P w K mg base lS 2 QN)(UX:aa0 P w K mg base ma 1 Ua)(F:Own K mg jS)(T:Txt K mg):aa1 P w K mg base jS 3 Tg:=by
 show F.n (nos:=1) dP (λds R h=>?_) λf bT A outer s H E M hr=>#[_,(af (sN 0 1 dP.nd vf)
 (af (sF (aE (bN (vd 0) ag)) (gN 2 dP.nd)
 (ah (sF (aE (bN (vd 2) (dc (d:=.int (-1)) fu U))) (bO (m:=2) U (aq (gN 3 dP.nd) (aq (gN 4 dP.nd) bQ)))
 (ah (sF (aE (DN.de (aG hr QW (aa (vd 4) ae)))) (gN 5 dP.nd)
 (af (sS 6 dP.nd (bB hr UX (aa (vd 5) ae)))
 (ah (bw (ax zA Cr (vd 6) qc (au _))
 (ah (oD (iZ (dm hr) (pv 1) (DE.pe (vd 6)) (DE.pe (bc b7 fC (Hg (vR (dm hr) (pv 1) (DE.pe (vd 6)) (DE.pe ag) #[U,U,U,U])) ag)) U)))
 aD))))))))
 (ah (d8 (pv 1))))),λds R h=>?_]
 .let(k,rfl,_):=h
  rfl
 .let((b,nm,hs,ts),rfl,ok,q):=h;have hsz:=aH;have hul:(Kp.uses #[b,nm,hs,ts]).length<=5 * (5 * 763):=ok.uses;right;show bJ i6 (λdn s=>∃ (l:Cn) (x2 x3 x4 x5 x6:Sl),(x2.pl=true/\x3.pl=true/\x4.pl=true/\x5.pl=true/\x6.pl=true)/\rM l (dn.flatMap Tb.uses)/\s=#[[.dat (bW #[b,nm,hs,ts]),.own 0,x2,x3,x4,x5,x6],[some (GC l)]]) ?_ ?_ _ #[[],.no,.no,.no,.no,.no,#[U,U,U,U,U],.nil,U]
  .rintro s ⟨l,x2,x3,x4,x5,x6,hp,hl,rfl⟩;right;exact q l hl
  .rintro dn t td s E e ⟨l,x2,x3,x4,x5,x6,⟨h2,h3,h4,h5,h6⟩,hl,rfl⟩ hN hE;have e:ts=dn++t::td:=e;have o:og b t:=ok.ts t (by change t∈ts;rw[e];simp);right;show bJ eP (λrn s=>∃ (l:Cn) (x3 x4 x5 x6:Sl),(x3.pl=true/\x4.pl=true/\x5.pl=true/\x6.pl=true)/\rM l (dn.flatMap Tb.uses++rn.flatMap Bd)/\s=#[[.dat (bW #[b,nm,hs,ts]),.own 0,.dat (i6 t),x3,x4,x5,x6],[some (GC l)]]) ?_ ?_ _ #[l,x3,x4,x5,x6,#[h3,h4,h5,h6],by rw[WB,VJ];exact hl,U]
   .rintro s ⟨l,x3,x4,x5,x6,⟨h3,h4,h5,h6⟩,hl,rfl⟩;exact hN _ #[l,_,x3,x4,x5,x6,#[U,h3,h4,h5,h6],by rw[List.flatMap_append];simpa [Tb.uses] using hl,U]
   .rintro rn r rd s E2 e2 ⟨l,x3,x4,x5,x6,⟨h3,h4,h5,h6⟩,hl,rfl⟩ hN2 hE2;have hr:=(o.rs r (by rw[e2];simp)).2;let(w1,w2):=nz r.2 hr.1;right;show#[r.2,#[w1,by have:=hr.2.2;cbv],U,?_];rw[toDs_map];right;show bJ toD (λpn s=>∃ (l:Cn) (x5 x6:Sl),(x5.pl=true/\x6.pl=true)/\rM l (dn.flatMap Tb.uses++rn.flatMap Bd++pn.filterMap uw)/\s=#[[.dat (bW #[b,nm,hs,ts]),.own 0,.dat (i6 t),.dat (.str r.1),.dat (toD r.2),x5,x6],[some (GC l)]]) ?_ ?_ _ #[l,x5,x6,#[h5,h6],by rw[List.filterMap_nil,VJ];exact hl,U]
    .rintro s ⟨l,x5,x6,⟨h5,h6⟩,hl,rfl⟩;exact hN2 _ #[l,_,_,x5,x6,#[U,U,h5,h6],by rw[List.flatMap_append];simpa [Bd] using hl,U]
    .rintro pn p pd s E3 e3 ⟨l,x5,x6,⟨h5,h6⟩,hl,rfl⟩ hN3 hE3;right;have ef:(pn++[p]).filterMap uw=pn.filterMap uw++(uw p).toList:=by
      rw[List.filterMap_append];cases h:uw p<;>simp[h]
     cases hu:uw p with
     | none=>exact hN3 _ #[l,_,_,#[U,U],by rw[ef,hu];simpa using hl,U]
     | some u =>
      have hll:l.length<=30000:=by
       show VF hl.1 ?_;rw[Vw,Vw];have h1:(dn.flatMap Tb.uses).length<=5 * (5 * 763):=by
        have:=hul;rw[show Kp.uses #[b,nm,hs,ts]=ts.flatMap Tb.uses from U,e,VU,Vw] at this;cbv
       have h2:(rn.flatMap Bd).length<=5 * 763:=bj (by have:=o.rl;rw[e2,List.length_append] at this;cbv) λx hx=>wY (o.rs x (by rw[e2];simp[hx])).2;have h3:(pn.filterMap uw).length<=763:=by
        show VF (XG _ _) ?_;have:=congrArg List.length e3;rw[iC,Vw] at this;have:=hr.2.2;cbv
       cbv
      right;have el:(cp (l.map λp=>dX p.1) (l.map λp=>D.int p.2) [Sum.inr (Gh u.1),Sum.inr u.2]).getD (.int 0)=.int (lk l u):=vc l u;dsimp only;rw[el];right;show#[by rw[Vv];cbv,?_];show hN3 _ #[bump l u,.dat (toD p),.dat (M7 (some u)),#[U,U],by rw[ef,hu,<- VR];exact hl.bump u,?_];rw[<- K9]
      rfl
def Qt(a:Bool):Yd:=λds R=>∃ k:Kp,ds=[bW k]/\eW k/\R (.tup ((k.wb a).map wm))
theorem My(F:Own K mg gD)(T:Txt K mg):aa0 P w K mg base gD 1 (Qt false):=by
 show F.d (nos:=0) uX (λds R h=>?_) λf bT A outer s H E M hr=>#[_,(af (bw (ax aL bH (bN (vd 0) ag) aj (au _))
 (ah (aX (bN (vd 0) ag)))
 aD)
 (ah (aX (iE T.tuple (aa (DN.de (nC ["table"] [] (aE (bN (vd 0) ag)) (λ_ _ _ _=>(gM 0 ["table"])) (λ_ _ _ _=>bD)
 (λ_ _ _ _=>(aK (aa (Ob (vd 0) ag) (aa (Ob (vd 0) ag) ae)))))) ae))))),λds R h=>?_]
 .let(k,rfl,_):=h
  rfl
 .let((b,nm,hs,ts),rfl,ok,q):=h;cases b with
  | false =>
   right;exact q
  | true =>
   right;show ba i6 (λt=>wm t.h) _ (λt ht k hk=>?_) ?_
   .have o:=(ok.ts t ht).h;let((nm2,fs,res),rows):=t;have hr:res=none:=o.res;subst hr;right;exact hk _ U
   .right;rw[VY];rw[show Kp.wb #[true,nm,hs,ts] false=ts.map (·.h) from U,V2] at q;exact q
theorem Ot(F:Own K mg gP)(T:Txt K mg):aa0 P w K mg base gP 1 (Qt true):=by
 show F.d (nos:=0) uo (λds R h=>?_) λf bT A outer s H E M hr=>#[_,(af (bw (ax aL bH (bN (vd 0) ag) aj (au _))
 (ah (aX (bN (vd 0) ag)))
 aD)
 (ah (aX (iE T.tuple (aa (DN.de (nC ["function"] [] (aE (bN (vd 0) ag)) (λ_ _ _ _=>(gM 0 ["function"])) (λ_ _ _ _=>bD)
 (λ_ _ _ _=>(aK (aa (Ob (vd 0) ag) (aa (Ob (vd 0) ag) (aa (Ob (vd 0) ag) ae))))))) ae))))),λds R h=>?_]
 .let(k,rfl,_):=h
  rfl
 .let((b,nm,hs,ts),rfl,ok,q):=h;cases b with
  | true =>
   right;exact q
  | false =>
   right;show ba i6 (λt=>wm t.h) _ (λt ht k hk=>?_) ?_
   .have o:=(ok.ts t ht).h;let((nm2,fs,res),rows):=t;obtain⟨r,hr,hkn⟩:∃ r,res=some r/\vA r:=o.res;subst hr;right;exact hk _ U
   .right;rw[VY];rw[show Kp.wb #[false,nm,hs,ts] true=ts.map (·.h) from U,V2] at q;exact q
def SM:Yd:=λds R=>∃ k:Kp,ds=[bW k]/\eW k/\∀ l,oZ l k.told->R (Pn l)
theorem Mv(GMI:aa0 P w K mg base gD 1 (Qt false))(UO:aa0 P w K mg base gP 1 (Qt true))(F:Own K mg jM)(T:Txt K mg):aa1 P w K mg base jM 2 SM:=by
 show F.n (nos:=1) iL (λds R h=>?_) λf bT A outer s H E M hr=>#[_,(af (sN 0 1 iL.nd vf)
 (af (sF (aE (bB hr GMI (aa (vd 0) ae))) (gN 2 iL.nd)
 (ah (oD (iZ (dm hr) (pv 1) (DE.pe (aK (aa aj (aa (bN (vd 2) ag) ae)))) (DE.pe vY) U))))
 (af (sF (aE (bB hr UO (aa (vd 0) ae))) (gN 3 iL.nd)
 (ah (oD (iZ (dm hr) (pv 1) (DE.pe (aK (aa aj (aa (bN (vd 3) ag) ae)))) (DE.pe vY) U))))
 (ah (d8 (pv 1)))))),λds R h=>?_]
 .let(k,rfl,_):=h
  rfl
 .let(k,rfl,ok,q):=h;have hsz:=aH;have h1:=ok.told;right;show#[ok,?_];right;show bJ wm (λdn s=>∃ (l:!(Bool×Str)) (x2:Sl),x2.pl=true/\oZ l (dn.map λh=>(false,h.nm))/\s=#[[.dat (bW k),.own 0,x2,.no],[some (Pn l)]]) ?_ ?_ _ #[[],.no,U,.nil,U]
  .rintro s ⟨l,x2,h2,hl,rfl⟩;right;show#[ok,?_];right;show bJ wm (λdn s=>∃ (l:!(Bool×Str)) (x3:Sl),x3.pl=true/\oZ l ((k.wb false).map (λh=>(false,h.nm))++dn.map λh=>(true,h.nm))/\s=#[[.dat (bW k),.own 0,x2,x3],[some (Pn l)]]) ?_ ?_ _ #[l,.no,U,by rw[Wj,VJ];exact hl,U]
   .rintro s ⟨l,x3,h3,hl,rfl⟩;right;exact q l hl
   .rintro dn h td s E e ⟨l,x3,h3,hl,rfl⟩ hN hE;right;show#[by rw[List.length_map];have:=hl.1;have:=ok.told;unfold Kp.told at this;rw[e] at this;simp only[List.length_append,List.length_map,List.length_cons] at *;cbv,?_];show hN _ #[AD l (true,h.nm),.dat (wm h),U,by rw[VA,<- VR];exact hl.put _,?_];rw[<- BP]
    rfl
  .rintro dn h td s E e ⟨l,x2,h2,hl,rfl⟩ hN hE;right;show#[by rw[List.length_map];have:=hl.1;have:=ok.told;unfold Kp.told at this;rw[e] at this;simp only[List.length_append,List.length_map,List.length_cons] at *;cbv,?_];show hN _ #[AD l (false,h.nm),.dat (wm h),U,by rw[VA];exact hl.put _,?_];rw[<- BP]
   rfl
def TU:Yd:=λds R=>∃ ps:!Kp,ds=[.tup (ps.map bW)]/\eY ps/\R (.lst (ps.flatMap λk=>ps.map λo=>.tup [bW k,bW o,.int (rJ k o:Nat)]))
theorem Mn(U4:aa1 P w K mg base jM 2 SM)(UD:aa1 P w K mg base jS 3 Tg)(F:Own K mg dZ)(T:Txt K mg):aa1 P w K mg base dZ 4 TU:=by
 show F.n (nos:=1) bU (λds R h=>?_) λf bT A outer s H E M hr=>#[_,(af (sN 0 1 bU.nd (az ae))
 (af (gF (tV (nj (i:=2) bU.nd U U (ts:=["kind"]) (us:=[]) #[U,U,U,U,U,U] rfl (aE (vd 0)) (λ_ _ _ _=>(gM 0 ["kind"])) (λ_ _ _ _=>bD)
 (λ_ _ _ _=>(DN.df (aG hr U4 (aa (vd 0) ae)))))))
 (af (sF (aE (vd 0)) (gN 3 bU.nd)
 (af (gF (dQ (i:=4) bU.nd U (Or.inr U) (DE.pe (DN.de (aG hr UD (aa (vd 3) ae))))))
 (ah (sF (IV U T.zip (aa (vd 0) (aa (vd 2) ae))) (bO (m:=2) U (aq (gN 5 bU.nd) (aq (gN 6 bU.nd) bQ)))
 (ah (la 1 (aa (aK (aa (vd 3) (aa (vd 5) (aa (cm (wu U) Il U T.sum (by decide+kernel) (aa (DN.de (nC ["use"] [4] (Gp (vd 6)) (λ_ _ _ _=>(gM 0 ["use","uses"])) (λ_ _ _ _=>bD)
 (λ_ _ _ _=>(Ld (vR (dm hr) (DE.pe (vd 1)) (DE.pe (vd 0)) (DE.pe ag) #[U,U,U,U]))))) ae)) ae)))) ae)))))))
 (ah (d8 (pv 1)))))),λds R h=>?_]
 .let(ps,rfl,_):=h
  rfl
 .let(ps,rfl,(hl,ok),q):=h;have hsz:=aH;right;show fb bW Mc (λk l=>oZ l k.told) ps (λk hk kk hkk=>?_) λls hls=>?_
  .right;exact#[ok k hk,λl hl=>#[_,_,U,hkk _ _ hl U]]
  rw[VY];let(z1,z2,z3):=pX bW Mc hls;right;show bJ bW (λdn s=>∃ (x3 x4 x5 x6:Sl),(x3.pl=true/\x4.pl=true/\x5.pl=true/\x6.pl=true)/\s=#[[.dat (.tup (ps.map bW)),.own 0,.dat (.lst (ls.map Mc)),x3,x4,x5,x6],[some (.lst (dn.flatMap λk=>ps.map λo=>.tup [bW k,bW o,.int (rJ k o:Nat)]))]]) ?_ ?_ _ #[.no,.no,.no,.no,#[U,U,U,U],U]
  .rintro s ⟨x3,x4,x5,x6,hp,rfl⟩;right;exact q
  .rintro dn k td s E e ⟨x3,x4,x5,x6,⟨h3,h4,h5,h6⟩,rfl⟩ hN hE;have ok1:=ok k (by rw[e];simp);right;show#[ok1,λl hcl=>?_];right;rw[z3];show bJ (λp:Kp×!(Bool×Str)=>.tup [bW p.1,Mc p.2]) (λzn s=>∃ (x5 x6:Sl),(x5.pl=true/\x6.pl=true)/\s=#[[.dat (.tup (ps.map bW)),.own 0,.dat (.lst (ls.map Mc)),.dat (bW k),.dat (GC l),x5,x6],[some (.lst ((dn.flatMap λk=>ps.map λo=>.tup [bW k,bW o,.int (rJ k o:Nat)])++zn.map λp=>.tup [bW k,bW p.1,.int (rJ k p.1:Nat)]))]]) ?_ ?_ _ #[x5,x6,#[h5,h6],by rw[Wj,VJ];rfl]
   .rintro s ⟨x5,x6,⟨h5,h6⟩,rfl⟩;show hN _ #[.dat (bW k),.dat (GC l),x5,x6,#[U,U,h5,h6],?_];have ez:((ps.zip ls).map λp=>D.tup [bW k,bW p.1,.int (rJ k p.1:Nat)])=ps.map λo=>D.tup [bW k,bW o,.int (rJ k o:Nat)]:=by
     conv=>rhs;rw[<- z1,V2]
     rfl
    rw[ez,VU];simp
   .rintro zn p zd s E2 e2 ⟨x5,x6,⟨h5,h6⟩,rfl⟩ hN2 hE2;have hsn:=z2 p (by rw[e2];simp);right;rw[V2];show ba (λu=>OU (dX u)) (λu=>.int (lk l u:Nat)) _ (λu hu kk hk=>?_) ?_
    .right;have el:(cp (l.map λp=>dX p.1) (l.map λp=>D.int p.2) [Sum.inr (Gh u.1),Sum.inr u.2]).getD (.int 0)=.int (lk l u):=vc l u;dsimp only;rw[el];exact hk _ U
    .rw[VY];have hc:=FT hcl hsn;have hcc:=Ed (o:=p.1) ok1;have hle:=congrArg List.length e2;have hzl:=congrArg List.length z1;rw[Vw,VD] at hle;rw[Vv] at hzl;have hdl:=congrArg List.length e;rw[Vw] at hdl;have BJ:(dn.flatMap λk=>ps.map λo=>D.tup [bW k,bW o,.int (rJ k o:Nat)]).length<=5 * 5:=bj (by cbv) λx _=>by rw[Vv];exact hl
     show#[p.2.map λu=>lk l u,by rw[V2];rfl,by rw[hc];cbv,?_];rw[hc];right;show#[by rw[Vw,Vv];cbv,?_];show hN2 _ #[.dat (bW p.1),.dat (Mc p.2),#[U,U],?_];rw[VA,<- VR]
     rfl
def TQ:Yd:=λds R=>∃ ps:!Kp,ds=[.tup (ps.map bW)]/\eY ps/\R (.lst ((iH ps).map yi))
theorem Ox(Vm:aa1 P w K mg base dZ 4 TU)(F:Own K mg gw)(T:Txt K mg):aa1 P w K mg base gw 5 TQ:=by
 show F.n (nos:=1) eB (λds R h=>?_) λf bT A outer s H E M hr=>#[_,(af (sN 0 1 eB.nd (az ae))
 (af (sF (aE (DN.de (aG hr Vm (aa (vd 0) ae)))) (bO (m:=3) U (aq (gN 2 eB.nd) (aq (gN 3 eB.nd) (aq (gN 4 eB.nd) bQ))))
 (ah (bw (DW.dt (kZ (ax HV Nc (bN (vd 2) ag) (bN (vd 3) ag) (au _)) (i5 (ax ku nk (vd 4) ag (au _)))))
 (ah (la 1 (aa (aK (aa (bN (vd 2) ag) (aa (bN (vd 3) ag) (aa (vd 4) ae)))) ae)))
 aD)))
 (ah (d8 (pv 1))))),λds R h=>?_]
 .let(ps,rfl,_):=h
  rfl
 .let(ps,rfl,hps,q):=h;have hsz:=aH;right;show#[hps,?_];rw[GX];right;have g6:(nq ps).length<=5 * 5:=bj hps.1 λx _=>by rw[Vv];exact hps.1
  show bJ Th (λdn s=>∃ (x2 x3 x4:Sl),(x2.pl=true/\x3.pl=true/\x4.pl=true)/\s=#[[.dat (.tup (ps.map bW)),.own 0,x2,x3,x4],[some (.lst (((dn.filter fj).map t7).map yi))]]) ?_ ?_ _ #[.no,.no,.no,#[U,U,U],U]
  .rintro s ⟨x2,x3,x4,hp,rfl⟩;right;exact q
  .rintro dn p td s E e ⟨x2,x3,x4,⟨h2,h3,h4⟩,rfl⟩ hN hE;have BB:fj p=false->E.nx #[[.dat (.tup (ps.map bW)),.own 0,.dat (bW p.1),.dat (bW p.2),.dat (.int (rJ p.1 p.2:Nat))],[some (.lst (((dn.filter fj).map t7).map yi))]]:=λh=>hN _ #[.dat (bW p.1),.dat (bW p.2),.dat (.int (rJ p.1 p.2:Nat)),#[U,U,U],by rw[List.filter_append,List.filter_cons_of_neg (by rw[h];exact Bool.false_ne_true)];simp];have hyes:fj p=true->E.nx #[[.dat (.tup (ps.map bW)),.own 0,.dat (bW p.1),.dat (bW p.2),.dat (.int (rJ p.1 p.2:Nat))],[some (.lst (((dn.filter fj).map t7).map yi++[yi (t7 p)]))]]:=λh=>hN _ #[.dat (bW p.1),.dat (bW p.2),.dat (.int (rJ p.1 p.2:Nat)),#[U,U,U],by rw[List.filter_append,List.filter_cons_of_pos h];simp];have BJ:(((dn.filter fj).map t7).map yi).length<=25:=by
    rw[Vv,Vv];have:=V9 fj dn;have:=congrArg List.length e;rw[Vw] at this;cbv
   let((ka,kn,kh,kt),(oa,on,oh,ot)):=p;cases ka<;>cases oa
   .right;exact BB U
   .right;show aN (b':=fj _) (show decide ((0:Int) < ((rJ _ _:Nat):Int))=decide (0 < rJ _ _) from decide_eq_decide.mpr (by cbv)) (λh=>?_) λh=>BB h;right;exact#[by cbv,hyes h]
   .right;show aN (b':=fj _) (show decide ((0:Int) < ((rJ _ _:Nat):Int))=decide (0 < rJ _ _) from decide_eq_decide.mpr (by cbv)) (λh=>?_) λh=>BB h;right;exact#[by cbv,hyes h]
   .right;exact BB U
def TB:Yd:=λds R=>∃ ps:!Kp,ds=[.tup (ps.map bW)]/\eY ps/\R (.lst ((iH ps).map λx=>.str (qg x)))
theorem Pw(Vg:aa1 P w K mg base gw 5 TQ)(F:Own K mg fS)(T:Txt K mg):aa1 P w K mg base fS 6 TB:=by
 show F.n (nos:=0) rV (λds R h=>?_) λf bT A outer s H E M hr=>#[_,(ah (bR (nC ["kind","other","many"] [] (aE (DN.de (aG hr Vg (aa (vd 0) ae)))) (λ_ _ _ _=>(bO (m:=3) U (aq (gM 0 ["kind","other","many"]) (aq (gM 1 ["kind","other","many"]) (aq (gM 2 ["kind","other","many"]) bQ))))) (λ_ _ _ _=>bD)
 (λ_ _ _ _=>(CU (jP aj (jP (Cp (vd 0)) (jP aj (jP (Cp (vd 1)) (jP aj (jP (Cp (vd 2)) Km))))))))))),λds R h=>?_]
 .let(ps,rfl,_):=h
  rfl
 .let(ps,rfl,hps,q):=h;have hsz:=aH;let(h1,h2):=mv hps;right;show#[hps,?_];right;show ba yi (λx=>.str (qg x)) _ (λx hx k hk=>?_) ?_
  .have o:=h2 x hx;have g1:=cJ o.a;have g2:=cJ o.b;have g3:=wj o;have g4:(qd (x.2.2:Nat)).length<=8:=qB (by cbv) (by have:=o.n;cbv);have e6:("cross ":Str).length=6:=rfl;have e1:(" ":Str).length=1:=rfl;have hlog:((x.2.2:Nat):Int).natAbs.log2 < 1920:=by
    have hn:=o.n;by_cases h0:((x.2.2:Nat):Int).natAbs=0
    .rw[h0];decide
    .rw[Nat.log2_lt h0];exact VZ (by cbv:((x.2.2:Nat):Int).natAbs < 2 ^ 15) (Nat.pow_le_pow_right () ())
   right;rw[empty_app]
   iterate 7 (show#[by (try simp only[Str.length_append]);cbv,?_];right)
   show#[hlog,?_];right;show#[by change (_++qd _).length<=_;simp only[Str.length_append];cbv,?_];exact#[VF g3 (by cbv),hk _ U]
  .rw[VY];exact q
def SD:Yd:=λds R=>∃ ps:!Kp,ds=[.tup (ps.map bW)]/\eY ps/\R (.str (Txt.join "\n" (rp ps)))
theorem Ni(Vf:aa1 P w K mg base fS 6 TB)(UW:aa0 P w K mg base eh 6 R8)(F:Own K mg oG)(T:Txt K mg):aa0 P w K mg base oG 7 SD:=by
 show F.d (nos:=1) pW (λds R h=>?_) λf bT A outer s H E M hr=>#[_,(af (sN 0 1 pW.nd (az ae))
 (af (sF (aE (vd 0)) (gN 2 pW.nd)
 (ah (iA (pY Wu Wv eZ pQ (pv 1) (aa (bB hr UW (aa (vd 2) ae)) ae)))))
 (ah (aX (iJ aj (aa (DN.de (bz aR aT (sX (pv 1)) (DN.de (aG hr Vf (aa (vd 0) ae))))) ae)))))),λds R h=>?_]
 .let(ps,rfl,_):=h
  rfl
 .let(ps,rfl,hps,q):=h;have hsz:=aH;let(h1,h2):=qS hps;right;show bJ bW (λdn s=>∃ x2:Sl,x2.pl=true/\s=#[[.dat (.tup (ps.map bW)),.own 0,x2],[some (.lst ((dn.flatMap λk=>k.rws.map λr=>cD (cL r)).map .str))]]) ?_ ?_ _ #[.no,U,U]
  .rintro s ⟨x2,_,rfl⟩;right;show#[hps,?_];right;have e2:((ps.flatMap λk=>k.rws.map λr=>cD (cL r)).map D.str++(iH ps).map λx=>.str (qg x))=(rp ps).map .str:=by
    unfold rp;rw[VA,V2 (l:=iH ps)]
    rfl
   have e3:=congrArg List.length e2;rw[Vw,Vv (as:=rp ps)] at e3;show#[by cbv,?_];rw[e2];right;exact#[tM h1 () h2 (),q]
  .rintro dn k td s E e ⟨x2,_,rfl⟩ hN hE;have o:=hps.2 k (by rw[e];simp);have hd:=congrArg List.length e;rw[Vw] at hd;have:=hps.1;have h4:=bj (f:=λk:Kp=>k.rws.map λr=>cD (cL r)) (l:=dn) (n:=5) (m:=6) (by cbv) λk hk=>by
    rw[Vv];exact (hps.2 k (by rw[e];simp[hk])).rws.1
   have h5:=o.rws.1;right;show#[o,?_];right;show#[by rw[Vv,Vv];cbv,?_];show hN _ #[.dat (bW k),U,?_];rw[VU,VA (l₁:=dn.flatMap _)];simp
   rfl
def rb:Nat->!Kp->!(Nat×Kp)
 | _,[]=>[]
 | r,k::ps=>(r,k)::rb (r+1+k.tabs.length) ps
def oU(ps:!Kp):Nat:=(ps.map λk=>1+k.tabs.length).sum
theorem o7:∀ (a:!Kp) (k:Kp) (r:Nat),rb r (a++[k])=rb r a++[(r+oU a,k)]
 | [],k,r=>by simp[rb,oU]
 | b::a,k,r=>by
  rw[List.cons_append,rb,o7 a k,rb,List.cons_append,show oU (b::a)=1+b.tabs.length+oU a by simp[oU],show r+1+b.tabs.length+oU a=r+(1+b.tabs.length+oU a) by cbv]
theorem uC(r:Nat)(ps:!Kp):(rb r ps).length=ps.length:=by
 induction ps generalizing r with
 | nil=>rfl
 | cons k ps ih=>rw[rb,VD,ih,VD]
theorem oC{r:Nat}{ps:!Kp}{x:Nat×Kp}(h:x∈rb r ps):x.2∈ps:=by
 induction ps generalizing r with
 | nil=>cases h
 | cons k ps ih =>
  rcases VG.mp h with rfl | h
  .exact Vx
  .exact Vy _ (ih h)
theorem vB(a:!Kp)(k:Kp):oU (a++[k])=oU a+1+k.tabs.length:=by simp[oU];cbv
def Rb(p:Nat×Kp):D:=.tup [.int (p.1:Nat),bW p.2]
def Su:Yd:=λds R=>∃ ps:!Kp,ds=[.tup (ps.map bW)]/\eY ps/\R (.lst ((rb 0 ps).map Rb))
theorem NH(F:Own K mg c7)(T:Txt K mg):aa1 P w K mg base c7 1 Su:=by
 show F.n (nos:=1) cn (λds R h=>?_) λf bT A outer s H E M hr=>#[_,(af (sN 0 1 cn.nd (az ae))
 (af (sS 2 cn.nd ag)
 (af (sF (aE (vd 0)) (gN 3 cn.nd)
 (af (la 1 (aa (aK (aa (vd 2) (aa (vd 3) ae))) ae))
 (ah (sS 2 cn.nd (bc b7 fC (bc b7 fC (vd 2) ag) (fE T.len (aa (bN (vd 3) ag) ae)))))))
 (ah (d8 (pv 1)))))),λds R h=>?_]
 .let(ps,rfl,_):=h
  rfl
 .let(ps,rfl,hps,q):=h;have hsz:=aH;right;show bJ bW (λdn s=>∃ x3:Sl,x3.pl=true/\s=#[[.dat (.tup (ps.map bW)),.own 0,.dat (.int (oU dn:Nat)),x3],[some (.lst ((rb 0 dn).map Rb))]]) ?_ ?_ _ #[.no,U,U]
  .rintro s ⟨x3,hp,rfl⟩;right;exact q
  .rintro dn k td s E e ⟨x3,hp,rfl⟩ hN hE;have hle:=congrArg List.length e;rw[Vw,VD] at hle;have:=hps.1;right;show#[by rw[Vv,uC];cbv,?_];right;show hN _ #[.dat (bW k),U,?_];rw[o7,vB,VA,Nat.zero_add];change DS.mk _ _=DS.mk _ _;rw[Vv]
   rfl
theorem Ba{α:Type}(f:α->D)(n:Nat)(l:!α):pE n (l.map f)=(l.zipIdx n).map λq=>.tup [.int (q.2:Nat),f q.1]:=by
 show Xc λi=>?_;unfold pE;rw[X4,V0,V0,List.getElem?_zipIdx,Vv];by_cases h:i < l.length
 .rw[XB h,VO h]
  rfl
 .rw[WH (by rw[WN];cbv),WH (Xu h)]
  rfl
theorem Jl{r:Nat}{ps:!Kp}{x:Nat×Kp}(h:x∈rb r ps):x.1<=r+oU ps:=by
 induction ps generalizing r with
 | nil=>cases h
 | cons k ps ih =>
  have e:oU (k::ps)=1+k.tabs.length+oU ps:=by simp[oU]
  rcases VG.mp h with rfl | h
  .exact Wz _ _
  .have:=ih h;cbv
theorem Jp{ps:!Kp}(h:eY ps):oU ps<=30:=by
 have h1:∀ l:!Kp,(∀ k∈l,eW k)->oU l<=l.length * 6:=λl=>by
  induction l with
  | nil=>exact λ_=>VB _
  | cons k l ih =>
   intro hl;have e:oU (k::l)=1+k.tabs.length+oU l:=by simp[oU]
   have:=ih λx hx=>hl x (Vy _ hx);have:=(hl k Vx).tl;rw[e,VD,Xr];cbv
 have:=h1 ps h.2;have:=h.1;cbv
def pF(p:Nat×Kp):!(Nat×Kp×Tb):=(p.2.tabs.zipIdx (p.1+1)).map λq=>(q.2,p.2,q.1)
def Qf(x:Nat×Kp×Tb):D:=.tup [.int (x.1:Nat),bW x.2.1,i6 x.2.2]
def R6:Yd:=λds R=>∃ ps:!Kp,ds=[.tup (ps.map bW)]/\eY ps/\R (.lst (((rb 0 ps).flatMap pF).map Qf))
theorem Pg(UA:aa1 P w K mg base c7 1 Su)(F:Own K mg cQ)(T:Txt K mg):aa1 P w K mg base cQ 2 R6:=by
 show F.n (nos:=1) bE (λds R h=>?_) λf bT A outer s H E M hr=>#[_,(af (sN 0 1 bE.nd (az ae))
 (af (sF (aE (DN.de (aG hr UA (aa (vd 0) ae)))) (bO (m:=2) U (aq (gN 2 bE.nd) (aq (gN 3 bE.nd) bQ)))
 (ah (sF (NP U T.enumerate (aa (bN (vd 3) ag) ae) (bc b7 fC (vd 2) ag)) (bO (m:=2) U (aq (gN 4 bE.nd) (aq (gN 5 bE.nd) bQ)))
 (ah (la 1 (aa (aK (aa (vd 4) (aa (vd 3) (aa (vd 5) ae)))) ae))))))
 (ah (d8 (pv 1))))),λds R h=>?_]
 .let(ps,rfl,_):=h
  rfl
 .let(ps,rfl,hps,q):=h;have hsz:=aH;have h30:=Jp hps;right;show#[hps,?_];right;show bJ Rb (λdn s=>∃ x2 x3 x4 x5:Sl,(x2.pl=true/\x3.pl=true/\x4.pl=true/\x5.pl=true)/\s=#[[.dat (.tup (ps.map bW)),.own 0,x2,x3,x4,x5],[some (.lst ((dn.flatMap pF).map Qf))]]) ?_ ?_ _ #[.no,.no,.no,.no,#[U,U,U,U],U]
  .rintro s ⟨x2,x3,x4,x5,hp,rfl⟩;right;exact q
  .rintro dn p td s E e ⟨x2,x3,x4,x5,⟨h2,h3,h4,h5⟩,rfl⟩ hN hE;let(r,k):=p;have hm:(r,k)∈rb 0 ps:=by rw[e];simp
   have hk:=hps.2 k (oC hm);have hr:=Jl hm;have hkl:=hk.tl;have hdn:(dn.flatMap pF).length<=5 * 5:=bj (by have:=congrArg List.length e;rw[uC,Vw,VD] at this;have:=hps.1;cbv) λx hx=>by
    change ((x.2.tabs.zipIdx _).map _).length<=5;rw[Vv,Wn];exact (hps.2 x.2 (oC (show x∈rb 0 ps by rw[e];simp[hx]))).tl
   right;show#[by change ((r+1:Nat):Int) < 2 ^ 63;cbv,?_];rw[Ba];show bJ (λq:Tb×Nat=>D.tup [.int (q.2:Nat),i6 q.1]) (λdn2 s=>∃ x4 x5:Sl,(x4.pl=true/\x5.pl=true)/\s=#[[.dat (.tup (ps.map bW)),.own 0,.dat (.int (r:Nat)),.dat (bW k),x4,x5],[some (.lst ((dn.flatMap pF++dn2.map λq=>(q.2,k,q.1)).map Qf))]]) ?_ ?_ _ #[x4,x5,#[h4,h5],by rw[Wj,VJ];rfl]
   .rintro s ⟨x4,x5,hp,rfl⟩;show hN _ #[.dat (.int (r:Nat)),.dat (bW k),x4,x5,#[U,U,hp.1,hp.2],?_];rw[VU,VS,WB,VJ]
    rfl
   .rintro dn2 t td2 s E2 e2 ⟨x4,x5,⟨g4,g5⟩,rfl⟩ hN2 hE2;have AZ:=congrArg List.length e2;rw[Wn,Vw,VD] at AZ;have AZ:k.tabs.length=dn2.length+(td2.length+1):=AZ;right;show#[by rw[Vv,Vw,Vv];cbv,?_];show hN2 _ #[.dat (.int (t.2:Nat)),.dat (i6 t.1),#[U,U],?_];rw[VA (l₁:=dn2),<- VR,VA (l₂:=[t].map _)]
    rfl
structure Tv(K:Frag)(mg:Str->Option AC)(at_:AT):Prop where
 inner:mg "INNER_TABLES"=some (.ref at_)
 tabs:∀ H,ir K H at_ [.str "case",.str "new"]
def gC:Tm->Bool
 | .node (.k7 _ _) _=>true
 | .node (.new _ _) _=>true
 | _=>false
def Sr:Yd:=λds R=>∃ t:Tm,ds=[toD t]/\R (.bl (gC t))
theorem OZ(F:Own K mg iT)(T:Txt K mg){at_:AT}(J:Tv K mg at_):aa0 P w K mg base iT 1 Sr:=by
 show F.d (nos:=0) vZ (λds R h=>?_) λf bT A outer s H E M hr=>#[_,(ah (aX (jC jJ (Ph J.tabs U) (bN (vd 0) ag) (dc (d:=.fO at_) (He (v:=.ref at_) U J.inner U) U) U))),λds R h=>?_]
 .let(t,rfl,_):=h
  rfl
 .let((f,ks),rfl,q):=h;let(rest,e):=toD_word f ks;rw[e];show#[_,U,_,_,_,U,U,cM,U,U,?_];cases f<;>exact q
def vy(t:Tb):!Tm:=t.rows.flatMap λr=>r.2.pre.filter gC
def pf(x:Nat×Kp×Tb):!(Nat×Nat×Tm):=(vy x.2.2).zipIdx.map λq=>(x.1,q.2,q.1)
def ko(ps:!Kp):!(Nat×Nat×Tm):=((rb 0 ps).flatMap pF).flatMap pf
def oI(x:Nat×Nat×Tm):D:=.tup [.tup [.int (x.1:Nat),.int (x.2.1:Nat)],toD x.2.2]
theorem Br{α:Type}(l:!α)(a:α):(l++[a]).zipIdx=l.zipIdx++[(a,l.length)]:=by
 rw[List.zipIdx_append];simp
theorem lN{r:Str×Tm}(h:qP r.2):(r.2.pre.filter gC).length<=763:=by
 show VF (V9 _ _) ?_;rw[iC];have:=(nz r.2 h.1).2;have:=h.2.2;cbv
theorem oV{a:Bool}{t:Tb}(o:og a t):(vy t).length<=5 * 763:=bj o.rl λr hr=>lN (o.rs r hr).2
theorem uE{ps:!Kp}{x:Nat×Kp×Tb}(h:x∈(rb 0 ps).flatMap pF):x.2.1∈ps/\x.2.2∈x.2.1.tabs:=by
 let(p,hp,hx):=V3.mp h;let(q,hq,rfl):=VI.mp hx;show#[oC hp,?_];have:=List.mem_zipIdx hq;rw[this.2.2];exact Xh _
theorem Dq{ps:!Kp}(h:eY ps):((rb 0 ps).flatMap pF).length<=5 * 5:=bj (by rw[uC];exact h.1) λx hx=>by
 change ((x.2.tabs.zipIdx _).map _).length<=5;rw[Vv,Wn];exact (h.2 x.2 (oC hx)).tl
def Na:Yd:=λds R=>∃ ps:!Kp,ds=[.tup (ps.map bW)]/\eY ps/\R (.lst ((ko ps).map oI))
theorem Nj(UB:aa1 P w K mg base cQ 2 R6)(QW:aa1 P w K mg base lS 2 QN)(Um:aa0 P w K mg base iT 1 Sr)(F:Own K mg cW)(T:Txt K mg):aa1 P w K mg base cW 3 Na:=by
 show F.n (nos:=1) bg (λds R h=>?_) λf bT A outer s H E M hr=>#[_,(af (sN 0 1 bg.nd (az ae))
 (af (sF (aE (DN.de (aG hr UB (aa (vd 0) ae)))) (bO (m:=3) U (aq (gN 2 bg.nd) (aq (gN 3 bg.nd) (aq (gN 4 bg.nd) bQ))))
 (af (sS 5 bg.nd (uG (ee c9 U T.len WY (cq (pv 1) d6))))
 (ah (sF (aE (bN (vd 4) (dc (d:=.int (-1)) fu U))) (bO (m:=2) U (aq (gN 6 bg.nd) (aq (gN 7 bg.nd) bQ)))
 (ah (sF (aE (DN.de (aG hr QW (aa (vd 7) ae)))) (gN 8 bg.nd)
 (ah (bw (fG (bB hr Um (aa (vd 8) ae)))
 (ah (la 1 (aa (aK (aa (aK (aa (vd 2) (aa (bc iP fC (uG (ee c9 U T.len WY (cq (pv 1) d6))) (vd 5)) ae))) (aa (vd 8) ae))) ae)))
 aD))))))))
 (ah (d8 (pv 1))))),λds R h=>?_]
 .let(ps,rfl,_):=h
  rfl
 .let(ps,rfl,hps,q):=h;have hsz:=aH;right;show#[hps,?_];right;have hnl:=Dq hps;show bJ Qf (λdn s=>∃ x2 x3 x4 x5 x6 x7 x8:Sl,(x2.pl=true/\x3.pl=true/\x4.pl=true/\x5.pl=true/\x6.pl=true/\x7.pl=true/\x8.pl=true)/\s=#[[.dat (.tup (ps.map bW)),.own 0,x2,x3,x4,x5,x6,x7,x8],[some (.lst ((dn.flatMap pf).map oI))]]) ?_ ?_ _ #[.no,.no,.no,.no,.no,.no,.no,#[U,U,U,U,U,U,U],U]
  .rintro s ⟨x2,x3,x4,x5,x6,x7,x8,hp,rfl⟩;right;exact q
  .rintro dn x td s E e ⟨x2,x3,x4,x5,x6,x7,x8,⟨h2,h3,h4,h5,h6,h7,h8⟩,rfl⟩ hN hE;let(r,k,t):=x;let(hk,ht):=uE (show (r,k,t)∈(rb 0 ps).flatMap pF by rw[e];simp);have o:og k.asked t:=(hps.2 k hk).ts t ht;have hdl:(dn.flatMap pf).length<=25 * (5 * 763):=bj (by have:=congrArg List.length e;rw[Vw,VD] at this;cbv) λy hy=>by
    let(hk2,ht2):=uE (show y∈(rb 0 ps).flatMap pF by rw[e];simp[hy]);change ((vy y.2.2).zipIdx.map _).length<=_;rw[Vv,Wn];exact oV ((hps.2 _ hk2).ts _ ht2)
   generalize hA:dn.flatMap pf=A at hdl;right;show bJ eP (λrn s=>∃ x6 x7 x8:Sl,(x6.pl=true/\x7.pl=true/\x8.pl=true)/\s=#[[.dat (.tup (ps.map bW)),.own 0,.dat (.int (r:Nat)),.dat (bW k),.dat (i6 t),.dat (.int (A.length:Nat)),x6,x7,x8],[some (.lst ((A++(rn.flatMap λr=>r.2.pre.filter gC).zipIdx.map λq=>(r,q.2,q.1)).map oI))]]) ?_ ?_ _ #[x6,x7,x8,#[h6,h7,h8],?_]
   .rintro s ⟨x6,x7,x8,hp,rfl⟩;show hN _ #[.dat (.int (r:Nat)),.dat (bW k),.dat (i6 t),.dat (.int (A.length:Nat)),x6,x7,x8,#[U,U,U,U,hp.1,hp.2.1,hp.2.2],?_];rw[VU,VS,WB,VJ,hA]
    rfl
   .rintro rn y rd s E2 e2 ⟨x6,x7,x8,⟨h6,h7,h8⟩,rfl⟩ hN2 hE2;have hr:=(o.rs y (by rw[e2];simp)).2;let(w1,w2):=nz y.2 hr.1;have hB:(rn.flatMap λr=>r.2.pre.filter gC).length<=5 * 763:=bj (by have:=o.rl;rw[e2,List.length_append] at this;cbv) λz hz=>lN (o.rs z (by rw[e2];simp[hz])).2;generalize hBe:(rn.flatMap λr=>r.2.pre.filter gC)=B at hB;right;show#[y.2,#[w1,by have:=hr.2.2;cbv],U,?_];rw[toDs_map];right;show bJ toD (λpn s=>∃ x8:Sl,x8.pl=true/\s=#[[.dat (.tup (ps.map bW)),.own 0,.dat (.int (r:Nat)),.dat (bW k),.dat (i6 t),.dat (.int (A.length:Nat)),.dat (.str y.1),.dat (toD y.2),x8],[some (.lst ((A++(B++pn.filter gC).zipIdx.map λq=>(r,q.2,q.1)).map oI))]]) ?_ ?_ _ #[x8,h8,by rw[Xa,VJ];rfl]
    .rintro s ⟨x8,hp,rfl⟩;show hN2 _ #[.dat (.str y.1),.dat (toD y.2),x8,#[U,U,hp],?_];rw[VU,VS,WB,VJ,hBe]
    .rintro pn p pd s E3 e3 ⟨x8,hp,rfl⟩ hN3 hE3;have hpn:(pn.filter gC).length<=763:=by
      show VF (V9 _ _) ?_;have:=congrArg List.length e3;rw[iC,Vw] at this;have:=hr.2.2;cbv
     right;cases hb:gC p with
     | false =>
      show fe U ?_;show hN3 _ #[.dat (toD p),U,?_];rw[Wk,W5 (by rw[hb];decide),Xa,VJ]
      rfl
     | true =>
      show ky U ?_;have hlen:(((A++(B++pn.filter gC).zipIdx.map λq=>(r,q.2,q.1)).map oI).length:Int) - ((A.length:Nat):Int)=(((B++pn.filter gC).length:Nat):Int):=by
       rw[Vv,Vw,Vv,Wn];cbv
      right;rw[hlen];show#[by rw[Vv,Vw,Vv,Wn,Vw];cbv,?_];show hN3 _ #[.dat (toD p),U,?_];rw[Wk,Xk (by rw[hb]),Xa,<- VR B,Br,VA (l₁:=(B++pn.filter gC).zipIdx),<- VR A,VA (f:=oI) (l₁:=A++_)]
      rfl
   .rw[WB,List.zipIdx_nil,Wj,VJ,Vv]
    rfl
def Tc:Yd:=λds R=>∃ ps:!Kp,ds=[.tup (ps.map bW)]/\eY ps/\R (.bl (ko ps).isEmpty)
theorem Mh(Qq:aa1 P w K mg base cW 3 Na)(F:Own K mg j6)(T:Txt K mg):aa0 P w K mg base j6 4 Tc:=by
 show F.d (nos:=0) xG (λds R h=>?_) λf bT A outer s H E M hr=>#[_,(ah (aX (Jf (DN.de (aG hr Qq (aa (vd 0) ae)))))),λds R h=>?_]
 .let(ps,rfl,_):=h
  rfl
 .let(ps,rfl,hps,q):=h;right;show#[hps,?_];right;rw[show ((ko ps).map oI).isEmpty=(ko ps).isEmpty by cases ko ps<;>rfl];exact q
theorem iU(t:Tm):AR (toD t) "tuple"=some true:=by
 let(f,ks):=t;let(rest,e):=toD_word f ks;rw[e]
 rfl
theorem OF(F:Own K mg fY)(T:Txt K mg):aa1 P w K mg base fY 1 Qe:=by
 show F.n (nos:=0) rR (λds R h=>?_) λf bT A outer s H E M hr=>#[_,(af (bw (DW.dt (kC (ax aL bH (bN (vd 0) ag) aj (au _)) (kW (ax aL bH (bN (vd 0) ag) aj (au _)))))
 (ah (bR (az ae)))
 aD)
 (af (bw (ax aL bH (bN (vd 0) ag) aj (au _))
 (ah (bR (d9 bY dY U T.list (by decide+kernel) (aa (bN (vd 0) ag) ae))))
 aD)
 (af (bw (ax aL bH (bN (vd 0) ag) aj (au _))
 (ah (bR (bz aR aT (DN.de (az (aa (bN (vd 0) ag) ae))) (DN.de (d9 bY dY U T.list (by decide+kernel) (aa (bN (vd 0) ag) ae))))))
 aD)
 (af (bw (ax aL bH (bN (vd 0) ag) aj (au _))
 (ah (bR (nC ["_law_row"] [] (aE (bN (vd 0) ag)) (λ_ _ _ _=>(gM 0 ["_law_row"])) (λ_ _ _ _=>bD)
 (λ_ _ _ _=>(bN (vd 0) ag)))))
 aD)
 (af (bw (ax aL bH (bN (vd 0) ag) aj (au _))
 (ah (bR (bz aR aT (DN.de (az (aa (bN (vd 0) ag) ae))) (DN.de (nC ["_law_row"] [] (aE (bN (vd 0) ag)) (λ_ _ _ _=>(gM 0 ["_law_row"])) (λ_ _ _ _=>bD)
 (λ_ _ _ _=>(bN (vd 0) ag)))))))
 aD)
 (ah (bR (nC ["_law_one"] [] (aE (dC (vd 0) (bb ag) cx)) (λ_ _ _ _=>(gM 0 ["_law_one"])) (λ_ _ _ _=>fK (fG (cm fw ny U T.IQ PyProof.Rows.boot_isinstance (aa (vd 0) (aa (dc (d:=.ty "tuple") (gR (v:=.ty "tuple") U T.tuple (by decide+kernel) U) U) ae)))))
 (λ_ _ _ _=>(vd 0)))))))))),λds R h=>?_]
 .let(t,_,rfl,_):=h
  rfl
 .let(t,(hw,hs),rfl,q):=h;let(f,ks):=t;let(ha,hk):=jT hw;have hl:ks.length < 100000:=VZ wa hs;have hsz:=aH
  replace q:R (.lst (toDs ks)):=q
  cases f with
  | nm x =>
   cases len0 (l:=ks) (by simpa [Fm.ar] using ha);right;exact q
  | num x =>
   cases len0 (l:=ks) (by simpa [Fm.ar] using ha);right;exact q
  | mk x =>
   right;exact q
  | op x =>
   let(a,b,rfl):=Bm (l:=ks) (by simpa [Fm.ar] using ha);right;show#[iU a,?_];right;show#[iU b,?_];right;exact q
  | lt x =>
   let(a,b,rfl):=Bm (l:=ks) (by simpa [Fm.ar] using ha);right;show#[iU a,?_];right;show#[iU b,?_];right;exact q
  | j3 =>
   let(a,b,c,rfl):=Oa (l:=ks) (by simpa [Fm.ar] using ha);right;show#[iU a,?_];right;show#[iU b,?_];right;show#[iU c,?_];right;exact q
  | ask x =>
   let(a,r,rfl):=mP (l:=ks) (by simpa [Fm.ar] using ha);right;show#[?_,q];have e:(toDs (a::r)).tail=toDs r:=rfl;rw[e,toDs_len];simp at hl ⊢;cbv
  | k7 x hd =>
   have AZ:ks.length=hd.length+1:=(uA ha).1;let(a,r,rfl):=mP (l:=ks) (by cbv);have hr2:(toDs r).length=hd.length:=by rw[toDs_len];simpa using AZ
   right;show hZ (f:=f6) (λy hy k hk=>?_) #[_,_,U,U,?_,?_]
   .let(a1,a2,a3,rfl):=gb hr2 y hy;right;exact hk _ U
   .have e:(List.map f6 (bA hd (toDs r))).length=(toDs r).length:=by rw[gp hr2]
    change [toD a].length+([]++List.map f6 (bA hd (toDs r))).length<=Ev;rw[VY,e,toDs_len];simp at hl ⊢;cbv
   .show R (.lst ([toD a]++([]++List.map f6 (bA hd (toDs r)))));rw[gp hr2];exact q
  | new x hd =>
   have hr2:(toDs ks).length=hd.length:=by rw[toDs_len];exact (ER ha).1
   right;show hZ (f:=f6) (λy hy k hk=>?_) ?_
   .let(a1,a2,a3,rfl):=gb hr2 y hy;right;exact hk _ U
   .show R (.lst ([]++List.map f6 (bA hd (toDs ks))));rw[gp hr2];exact q
theorem CJ(f:Fm)(ks:!Tm):gC (Tm.node f ks)=(decide (f.word="case")||decide (f.word="new")):=by
 cases f<;>first | rfl | (show _=_;decide+kernel)
def Tw:Yd:=λds R=>∃ t:Tm,(t.wf=true/\t.size<=100000)/\ds=[toD t]/\R (.lst (toDs (t.pre.filter gC)))
theorem Ov(U7:aa1 P w K mg base fY 1 Qe)(F:Own K mg fP)(T:Txt K mg):aa1 P w K mg base fP 2 Tw:=by
 show F.n (nos:=2) fi (λds R h=>?_) λf bT A outer s H E M hr=>#[_,(af (sN 0 1 fi.nd (az ae))
 (af (sN 1 2 fi.nd (az (aa (vd 0) ae)))
 (af (u9 PassesOwn.never (ax ku nk (uG (ee c9 U T.len WY (cq (pv 2) d6))) ag (au _))
 (af (sS 3 fi.nd (zt WI WJ uv EJ (pv 2)))
 (af (bw (DW.dt (kC (ax aL bH (bN (vd 3) ag) aj (au _)) (kW (ax aL bH (bN (vd 3) ag) aj (au _)))))
 (ah (la 1 (aa (vd 3) ae)))
 aD)
 (ah (iA (pY Wu Wv eZ pQ (pv 2) (aa (DN.de (B8 (DN.de (aG hr U7 (aa (vd 3) ae))) fu)) ae)))))))
 (ah (d8 (pv 1)))))),λds R h=>?_]
 .let(t,_,rfl,_):=h
  rfl
 .let(t,(hw,hs),rfl,q):=h
  replace q:R (.lst (toDs (t.pre.filter gC))):=q
  have fz:=aH;right;show#[λm s=>∃ (dn st:!Tm) (x:Sl),s=#[[.dat (toD t),.own 0,.own 1,x],[some (.lst (toDs (dn.filter gC))),some (.lst (toDs st.reverse))]]/\m=aU st/\dn++eA st=t.pre/\mD st=true,#[_,[],[t],.no,U,U,?_,?_],?_]
  .show t.pre++[]=t.pre;simp
  .show (t.wf&&true)=true;simp[hw]
  .rintro m s ⟨dn,st,x,rfl,rfl,e,n5⟩;have hlen:dn.length+aU st=t.size:=by rw[<- iC t,<- e,Vw,lK]
   have BJ:(dn.filter gC).length<=dn.length:=V9 _ _;cases st with
   | nil =>
    have e':dn=t.pre:=by simpa [eA] using e
    subst e';right;exact q
   | cons y r =>
    have hy:y.wf=true:=iO n5 y Vx;have hr':mD r=true:=oQ λz hz=>iO n5 z (Vy _ hz);have hsz:aU (y::r)=y.size+aU r:=rfl;have ed:toDs (y::r).reverse=toDs r.reverse++[toD y]:=by rw[Xb,toDs_app];rfl
    right;show ky (by rw[ed,Vw];exact decide_eq_true (by change (0:Int) < ((_+1:Nat):Int);cbv)) ?_;have hlen1:(toDs r.reverse).length<=100000:=by
     rw[toDs_len,Xj];have:=eS r;cbv
    right;have hst2:∀ b:Bool,gC y=b->toDs ((dn++[y]).filter gC)=toDs (dn.filter gC)++(if b=true then [toD y] else []):=λb hb=>by
     cases b with
     | true=>rw[Wk,Xk (by rw[hb]),Xa,toDs_app,if_pos U];rfl
     | false=>rw[Wk,W5 (by rw[hb];decide),Xa,VJ,if_neg VN,VJ]
    let(f,ks):=y;let(rest,ew):=toD_word f ks;have hbw:=CJ f ks;generalize hye:toD (.node f ks)=yD at ew;show#[toDs r.reverse,yD,by rw[ed,hye],U,?_];have hcs:decide (fv (D.str f.word)=fv (D.str "case"))=decide (f.word="case"):=cN;have hcn:decide (fv (D.str f.word)=fv (D.str "new"))=decide (f.word="new"):=cN;have hfl2:(toDs (dn.filter gC)).length < Ev:=by rw[toDs_len];cbv
    have hF:gC (Tm.node f ks)=true->toDs (dn.filter gC)++[yD]=toDs ((dn++[Tm.node f ks]).filter gC):=λh=>by rw[hst2 true h,if_pos U,hye]
    have hF0:gC (Tm.node f ks)=false->toDs (dn.filter gC)=toDs ((dn++[Tm.node f ks]).filter gC):=λh=>by rw[hst2 false h,if_neg VN,VJ]
    refine' jn ?i7 λi7=>?main
    case main =>
     show#[_,U,_,_,_,ew,U,cM,?_];right;rw[hcs];by_cases h1:f.word="case"
     .refine ky (decide_eq_true h1) ?_;show ky U ?_;right;show#[hfl2,?_];rw[hF (by rw[hbw,decide_eq_true h1];rfl)];exact i7
     .refine fe (decide_eq_false h1) ?_;show#[_,U,_,_,_,ew,U,cM,?_];right;rw[hcn];by_cases h2:f.word="new"
      .refine ky (decide_eq_true h2) ?_;right;show#[hfl2,?_];rw[hF (by rw[hbw,decide_eq_true h2,Bool.or_true])];exact i7
      .refine fe (decide_eq_false h2) ?_;rw[hF0 (by rw[hbw,decide_eq_false h1,decide_eq_false h2];rfl)];exact i7
    case i7 =>
     rw[<- hye];right;show#[Tm.node f ks,#[hy,by cbv],U,?_];right;show#[?_,?_]
     .rw[toDs_len,Xj,Xj,toDs_len];have h1:=eS r;have h2:=eS (Tm.node f ks).kids;have h3:(Tm.node f ks).size=aU (Tm.node f ks).kids+1:=rfl;cbv
     show#[aU (ks++r),?_,dn++[Tm.node f ks],ks++r,.dat (toD (Tm.node f ks)),?_,U,?_,yB (Ad hy) hr']
     .rw[mI,hsz];have h3:(Tm.node f ks).size=aU ks+1:=rfl;cbv
     .rw[List.reverse_append,toDs_app,toDs_rev ks]
      rfl
     .rw[<- e,pO,VR];change _=dn++((Tm.node f ks).pre++eA r);rw[De (Tm.node f ks)];simp[Tm.kids]
theorem zS(n:Nat):eF 0 n=(List.range n).map λi:Nat=>D.int (i:Int):=by
 unfold eF;show WQ λi _=>?_;rw[Int.zero_add]
theorem Fv(dn:!Kp)(k:Kp):ko (dn++[k])=ko dn++(pF (oU dn,k)).flatMap pf:=by
 unfold ko;rw[o7,VU,VU,Nat.zero_add,VS,WB,VJ]
theorem FK(r:Nat)(k:Kp)(l:!Tb)(t:Tb):((l++[t]).zipIdx (r+1)).map (λq:Tb×Nat=>(q.2,k,q.1))=(l.zipIdx (r+1)).map (λq=>(q.2,k,q.1))++[(r+1+l.length,k,t)]:=by
 rw[List.zipIdx_append,VA];simp
theorem Jn{ps:!Kp}(h:eY ps):(ko ps).length<=25 * (5 * 763):=bj (Dq h) λy hy=>by
 let(hk2,ht2):=uE hy;change ((vy y.2.2).zipIdx.map _).length<=_;rw[Vv,Wn];exact oV ((h.2 _ hk2).ts _ ht2)
theorem Hb(r:Nat)(l:!Tm):(List.range l.length).map (λi=>oI (r,i,l.getD i (.node .j3 [])))=(l.zipIdx.map λq=>oI (r,q.2,q.1)):=by
 show Xc λi=>?_;rw[V0,V0,List.getElem?_zipIdx];by_cases h:i < l.length
 .rw[XB h,VO h,Option.map_some,Option.map_some,Option.map_some,WS,VO h];simp
 .rw[WH (by rw[WN];cbv),WH (Xu h)]
  rfl
theorem Pt(UK:aa1 P w K mg base fP 2 Tw)(F:Own K mg fV)(T:Txt K mg):aa1 P w K mg base fV 3 Na:=by
 show F.n (nos:=1) aM (λds R h=>?_) λf bT A outer s H E M hr=>#[_,(af (sN 0 1 aM.nd (az ae))
 (af (gF (dQ (i:=2) aM.nd U (Or.inr U) (DE.pe (dc (d:=.int (-1)) fu U))))
 (af (sF (aE (vd 0)) (bO (m:=4) U (aq (gN 3 aM.nd) (aq (gN 4 aM.nd) (aq (gN 5 aM.nd) (aq (gN 6 aM.nd) bQ)))))
 (af (gF (dQ (i:=2) aM.nd U (Or.inr U) (DE.pe (bc b7 fC (vd 2) ag))))
 (ah (sF (aE (vd 6)) (gN 7 aM.nd)
 (af (gF (dQ (i:=2) aM.nd U (Or.inr U) (DE.pe (bc b7 fC (vd 2) ag))))
 (af (gF (dQ (i:=8) aM.nd U (Or.inr U) (DE.pe (DN.de (az ae)))))
 (af (sF (aE (bN (vd 7) (dc (d:=.int (-1)) fu U))) (bO (m:=2) U (aq (gN 9 aM.nd) (aq (gN 10 aM.nd) bQ)))
 (ah (gF (dQ (i:=8) aM.nd U (Or.inr U) (DE.pe (DN.de (bz aR aT (vd 8) (DN.de (aG hr UK (aa (vd 10) ae))))))))))
 (ah (iA (pY Wu Wv eZ pQ (pv 1) (aa (DN.de (nC ["_law_k"] [2,8] (dD U T.range (aa (fE T.len (aa (vd 8) ae)) ae)) (λ_ _ _ _=>(gM 0 ["_law_k","_law_row","_law_tables_here"])) (λ_ _ _ _=>bD)
 (λ_ _ _ _=>(aK (aa (aK (aa (vd 1) (aa (vd 0) ae))) (aa (lA (vd 2) (vd 0)) ae)))))) ae)))))))))))
 (ah (d8 (pv 1)))))),λds R h=>?_]
 .let(ps,rfl,_):=h
  rfl
 .let(ps,rfl,hps,q):=h;have hsz:=aH;right;show bJ bW (λdn s=>∃ x3 x4 x5 x6 x7 x8 x9 cP:Sl,(x3.pl=true/\x4.pl=true/\x5.pl=true/\x6.pl=true/\x7.pl=true/\x8.pl=true/\x9.pl=true/\cP.pl=true)/\s=#[[.dat (.tup (ps.map bW)),.own 0,.dat (.int ((oU dn:Nat) - 1)),x3,x4,x5,x6,x7,x8,x9,cP],[some (.lst ((ko dn).map oI))]]) ?_ ?_ _ #[.no,.no,.no,.no,.no,.no,.no,.no,#[U,U,U,U,U,U,U,U],U]
  .rintro s ⟨x3,x4,x5,x6,x7,x8,x9,cP,hp,rfl⟩;right;exact q
  .rintro dn k td s E e ⟨x3,x4,x5,x6,x7,x8,x9,cP,⟨h3,h4,h5,h6,h7,h8,h9,h10⟩,rfl⟩ hN hE;have hk:=hps.2 k (by rw[e];simp);have hpd:eY dn:=#[by have:=congrArg List.length e;rw[List.length_append] at this;have:=hps.1;cbv,λx hx=>hps.2 x (by rw[e];simp[hx])];have hAl:=Jn hpd;have hsn:=Fv dn k;have hrs:=vB dn k;generalize ko dn=A at hAl hsn;generalize oU dn=r at hsn hrs;have hr1:((r:Nat):Int) - 1+1=((r+0:Nat):Int):=by cbv
   right;rw[hr1];show bJ i6 (λdn2 s=>∃ x7 x8 x9 cP:Sl,(x7.pl=true/\x8.pl=true/\x9.pl=true/\cP.pl=true)/\s=#[[.dat (.tup (ps.map bW)),.own 0,.dat (.int (r+dn2.length:Nat)),.dat (.str (bM k.asked)),.dat (.str k.nm),.dat (.tup (k.heads.map wm)),.dat (.tup (k.tabs.map i6)),x7,x8,x9,cP],[some (.lst ((A++((dn2.zipIdx (r+1)).map λq=>(q.2,k,q.1)).flatMap pf).map oI))]]) ?_ ?_ _ #[x7,x8,x9,cP,#[h7,h8,h9,h10],by rw[List.zipIdx_nil,Wj,WB,VJ];rfl]
   .rintro s ⟨x7,x8,x9,cP,hp,rfl⟩;show hN _ #[.dat (.str (bM k.asked)),.dat (.str k.nm),.dat (.tup (k.heads.map wm)),.dat (.tup (k.tabs.map i6)),x7,x8,x9,cP,#[U,U,U,U,hp.1,hp.2.1,hp.2.2.1,hp.2.2.2],?_];rw[show ((oU (dn++[k]):Nat):Int) - 1=((r+k.tabs.length:Nat):Int) by rw[hrs];cbv,hsn]
    rfl
   .rintro dn2 t td2 s E2 e2 ⟨x7,x8,x9,cP,⟨g7,g8,g9,g10⟩,rfl⟩ hN2 hE2;have o:og k.asked t:=hk.ts t (by rw[e2];simp);right;show bJ eP (λrn s=>∃ x9 cP:Sl,(x9.pl=true/\cP.pl=true)/\s=#[[.dat (.tup (ps.map bW)),.own 0,.dat (.int ((r+dn2.length:Nat)+1)),.dat (.str (bM k.asked)),.dat (.str k.nm),.dat (.tup (k.heads.map wm)),.dat (.tup (k.tabs.map i6)),.dat (i6 t),.dat (.lst (toDs (rn.flatMap λy=>y.2.pre.filter gC))),x9,cP],[some (.lst ((A++((dn2.zipIdx (r+1)).map λq=>(q.2,k,q.1)).flatMap pf).map oI))]]) ?_ ?_ _ #[x9,cP,#[g9,g10],U]
    .rintro s ⟨x9,cP,hp,rfl⟩;have hL:=oV o;have oo:=FK r k dn2 t;have hDl:(((dn2.zipIdx (r+1)).map λq:Tb×Nat=>(q.2,k,q.1)).flatMap pf).length<=5 * (5 * 763):=bj (by rw[Vv,Wn];have:=congrArg List.length e2;rw[Vw,VD] at this;have:=hk.tl;cbv) λx hx=>by
      let(q2,hq,rfl):=VI.mp hx;change ((vy q2.1).zipIdx.map _).length<=_;rw[Vv,Wn];have hm:=List.mem_zipIdx hq;show oV (hk.ts q2.1 ?_);rw[e2,hm.2.2];exact Wa _ (Xh _)
     have hio:pf (r+1+dn2.length,k,t)=(vy t).zipIdx.map λq=>(r+1+dn2.length,q.2,q.1):=rfl;rw[show (t.rows.flatMap λy=>y.2.pre.filter gC)=vy t from U];generalize vy t=L at hL hio;have hrow:((r+dn2.length:Nat):Int)+1=((r+1+dn2.length:Nat):Int):=by cbv
     rw[hrow];right;show#[#[by cbv,by rw[toDs_len];cbv],?_];rw[W4,toDs_len,zS];show ba (λi:Nat=>D.int (i:Int)) (λi=>oI (r+1+dn2.length,i,L.getD i (.node .j3 []))) (List.range L.length) (λi hi kk hkk=>?_) ?_
     .have hi:=WC.mp hi;have ha:jd (toDs L) ((i:Nat):Int)=some (toD (L.getD i (.node .j3 []))):=fk (by rw[toDs_map,V0,VO hi,WS,VO hi];rfl);right;show#[ha,?_];right;exact hkk _ U
     .rw[VY,Hb];right;show#[by rw[Vv,Vw,Vv,Wn];cbv,?_];show hN2 _ #[.dat (i6 t),.dat (.lst (toDs L)),x9,cP,#[U,U,hp.1,hp.2],?_];rw[oo,VU,VS,WB,VJ,hio,<- VR,VA (l₁:=A++_),V2 (l:=L.zipIdx),Vw,show r+(dn2.length+[t].length)=r+1+dn2.length by change r+(dn2.length+1)=_;cbv]
      rfl
    .rintro rn y rd s E3 e3 ⟨x9,cP,⟨g9,g10⟩,rfl⟩ hN3 hE3;have hr:=(o.rs y (by rw[e3];simp)).2;let(w1,w2):=nz y.2 hr.1;have hB:(rn.flatMap λr=>r.2.pre.filter gC).length<=5 * 763:=bj (by have:=o.rl;rw[e3,List.length_append] at this;cbv) λz hz=>lN (o.rs z (by rw[e3];simp[hz])).2;have hC:=lN hr;right;show#[y.2,#[w1,by have:=hr.2.2;cbv],U,?_];right;show#[by rw[toDs_len,toDs_len];cbv,?_];show hN3 _ #[.dat (.str y.1),.dat (toD y.2),#[U,U],?_];rw[<- toDs_app,VU,VS,WB,VJ]
     rfl
def Tight(k:Kp):Prop:=∀ t∈k.tabs,∀ r∈t.rows,r.2.dep<=19/\r.2.k9<=63
def TH(d:AT):Yd:=λds R=>∃ ps:!Kp,ds=[.fO d,.tup (ps.map bW)]/\(eY ps/\∀ k∈ps,Tight k)/\∀ qs:!Kp,qs.length=ps.length->(∀ k∈qs,eW k)->ve qs=ve ps->R (.tup (qs.map bW))
theorem Fl(l:!D)(x:D):cutD (l++[x]) none (some (-1))=l:=by
 unfold cutD;rw[HT.qX,Xp,X7,Vw];have e:HT.b5 (l.length+[x].length) (l.length+[x].length) (some (-1))=l.length:=by
  change HT.b5 (l.length+1) (l.length+1) (some (-1))=_;unfold HT.b5;simp;cbv
 rw[e,List.take_left]
theorem Hx{t:Tm}{i:Int}(hg:t.gt)(hd:t.dep<=19)(hi:t.k9<=63)(i0:0<=i)(i1:i < 2):qP (.node .j3 [.node (.num i) [],t,t]):=by
 show#[#[U,#[#[#[i0,by cbv],U],trivial],hg,hg,trivial],?_,?_]
 .show kJ _+1<=20;have:kJ [Tm.node (.num i) [],t,t]<=19:=wM λu hu=>by
   simp only[List.mem_cons,List.not_mem_nil,or_false] at hu;rcases hu with rfl | rfl | rfl
   .show 0+1<=19;decide
   .exact hd
   .exact hd
  cbv
 .show 1+(0+0+(t.k9+(t.k9+0)))<=127;cbv
theorem Ml{d l:AT}(eE:C4 P w K mg base aQ a9 1 (cg K (aW d l) (gE d)))(F:Own K mg fh)(T:Txt K mg):C4 P w K mg base aQ fh 2 (cg K (aW d l) (TH d)):=by
 show F.d (nos:=3) aP (λds R h=>?_) λf bT A outer s H E M hr=>#[_,(af (sN 0 2 aP.nd (az ae))
 (af (sF (aE (vd 1)) (bO (m:=4) U (aq (gN 3 aP.nd) (aq (gN 4 aP.nd) (aq (gN 5 aP.nd) (aq (gN 6 aP.nd) bQ)))))
 (af (sN 1 7 aP.nd (az ae))
 (af (sF (aE (vd 6)) (gN 8 aP.nd)
 (af (sN 2 9 aP.nd (az ae))
 (af (sF (aE (bN (vd 8) (dc (d:=.int (-1)) fu U))) (bO (m:=2) U (aq (gN 10 aP.nd) (aq (gN 11 aP.nd) bQ)))
 (af (bw (ax aL bH (ak hr eE (aa (vd 0) (aa ag ae))) ag (au _))
 (ah (sS 11 aP.nd (aK (aa aj (aa (aK (aa aj (aa (ak hr eE (aa (vd 0) (aa ag ae))) ae))) (aa (vd 11) (aa (vd 11) ae)))))))
 aD)
 (ah (la 9 (aa (aK (aa (vd 10) (aa (vd 11) ae))) ae)))))
 (ah (la 7 (aa (bc Ac JU (dC (vd 8) cx (bb (dc (d:=.int (-1)) fu U))) (aK (aa (iE T.tuple (aa (sX (pv 9)) ae)) ae))) ae))))))
 (ah (la 2 (aa (aK (aa (vd 3) (aa (vd 4) (aa (vd 5) (aa (iE T.tuple (aa (sX (pv 7)) ae)) ae))))) ae))))))
 (ah (aX (iE T.tuple (aa (sX (pv 2)) ae)))))),λds R h=>?_]
 .let(ps,rfl,_):=h
  rfl
 .let(ps,rfl,(hps,htg),q):=h;have hsz:=aH;right;show bJ bW (λdn s=>∃ (out:!Kp) (x3 x4 x5 x6 x7 x8 x9 cP eJ:Sl),(x3.pl=true/\x4.pl=true/\x5.pl=true/\x6.pl=true/\x7.pl=true/\x8.pl=true/\x9.pl=true/\cP.pl=true/\eJ.pl=true)/\out.length=dn.length/\(∀ k∈out,eW k)/\ve out=ve dn/\s=#[[.dat (.fO d),.dat (.tup (ps.map bW)),.own 0,x3,x4,x5,x6,x7,x8,x9,cP,eJ],[some (.lst (out.map bW)),none,none]]) ?_ ?_ _ #[[],.no,.no,.no,.no,.no,.no,.no,.no,.no,#[U,U,U,U,U,U,U,U,U],U,λ_ h=>(nomatch h),U,U]
  .rintro s ⟨out,x3,x4,x5,x6,x7,x8,x9,cP,eJ,hp,hol,aZ,hrw,rfl⟩;right;exact q out hol aZ hrw
  .rintro dn k td s E e ⟨out,x3,x4,x5,x6,x7,x8,x9,cP,eJ,⟨h3,h4,h5,h6,h7,h8,h9,h10,h11⟩,hol,aZ,hrw,rfl⟩ hN hE;have hkm:k∈ps:=by rw[e];simp
   have hk:=hps.2 k hkm;have hol2:out.length < 5:=by
    have:=congrArg List.length e;rw[Vw,VD] at this;have:=hps.1;cbv
   right;show#[#[U,(show noRef 1 5 [x8,x9,cP,eJ]=true by rw[bC h8,bC h9,bC h10,bC h11];rfl)],?_];right;show bJ i6 (λdn2 s=>∃ (rD:!Tb) (x8 x9 cP eJ:Sl),(x8.pl=true/\x9.pl=true/\cP.pl=true/\eJ.pl=true)/\rD.length=dn2.length/\(∀ t∈rD,og k.asked t)/\xk rD=xk dn2/\s=#[[.dat (.fO d),.dat (.tup (ps.map bW)),.own 0,.dat (.str (bM k.asked)),.dat (.str k.nm),.dat (.tup (k.heads.map wm)),.dat (.tup (k.tabs.map i6)),.own 1,x8,x9,cP,eJ],[some (.lst (out.map bW)),some (.lst (rD.map i6)),none]]) ?_ ?_ _ #[[],x8,x9,cP,eJ,#[h8,h9,h10,h11],U,λ_ h=>(nomatch h),U,U]
   .rintro s ⟨rD,x8,x9,cP,eJ,⟨g8,g9,g10,g11⟩,htl,L7,htw,rfl⟩;right;show#[by rw[Vv];cbv,?_];show hN _ #[out++[#[k.asked,k.nm,k.heads,rD]],.dat (.str (bM k.asked)),.dat (.str k.nm),.dat (.tup (k.heads.map wm)),.dat (.tup (k.tabs.map i6)),.dat (.lst (rD.map i6)),fB 1 (.lst (rD.map i6)) x8,fB 1 (.lst (rD.map i6)) x9,fB 1 (.lst (rD.map i6)) cP,fB 1 (.lst (rD.map i6)) eJ,#[U,U,U,U,U,bq g8,bq g9,bq g10,bq g11],by rw[Vw,Vw,hol];rfl,λx hx=>?_,by rw[p8,p8,hrw];exact congrArg (ve dn+·) htw,?_]
    .rcases VM.mp hx with hx | hx
     .exact aZ x hx
     .rw[VH.mp hx];exact#[hk.nm,hk.hl,hk.hs,by change rD.length<=5;rw[htl];exact hk.tl,L7]
    .rw[VA]
     rfl
   .rintro dn2 t td2 s E2 e2 ⟨rD,x8,x9,cP,eJ,⟨g8,g9,g10,g11⟩,htl,L7,htw,rfl⟩ hN2 hE2;have htm:t∈k.tabs:=by rw[e2];simp
    have o:og k.asked t:=hk.ts t htm;have htl2:rD.length < 5:=by
     have:=congrArg List.length e2;rw[Vw,VD] at this;have:=hk.tl;cbv
    right;show#[#[U,(show noRef 2 3 [cP,eJ]=true by rw[bC g10,bC g11];rfl)],?_];right;show bJ eP (λrn s=>∃ (rs:!(Str×Tm)) (cP eJ:Sl),(cP.pl=true/\eJ.pl=true)/\rs.length=rn.length/\(∀ r∈rs,Nm r.1/\qP r.2)/\s=#[[.dat (.fO d),.dat (.tup (ps.map bW)),.own 0,.dat (.str (bM k.asked)),.dat (.str k.nm),.dat (.tup (k.heads.map wm)),.dat (.tup (k.tabs.map i6)),.own 1,.dat (i6 t),.own 2,cP,eJ],[some (.lst (out.map bW)),some (.lst (rD.map i6)),some (.lst (rs.map eP))]]) ?_ ?_ _ #[[],cP,eJ,#[g10,g11],U,λ_ h=>(nomatch h),U]
    .rintro s ⟨rs,cP,eJ,⟨g10,g11⟩,hrl,hro,rfl⟩;right;rw[Fl];have hc:t.h.cells≠[]/\t.h.cells.length<=3:=by
      unfold Hd.cells;unfold Hd.tl;cases t.h.res<;>exact#[by simp,by simp]
     show#[hc.1,by rw[WV];cbv,?_];right;show#[by rw[Vv];cbv,?_];show hN2 _ #[rD++[#[t.h,rs]],.dat (i6 t),.dat (.lst (rs.map eP)),fB 2 (.lst (rs.map eP)) cP,fB 2 (.lst (rs.map eP)) eJ,#[U,U,bq g10,bq g11],by rw[Vw,Vw,htl];rfl,λx hx=>?_,by rw[w8,w8,htw];exact congrArg (xk dn2+·) hrl,?_]
     .rcases VM.mp hx with hx | hx
      .exact L7 x hx
      .rw[VH.mp hx];exact#[o.h,by change rs.length<=5;rw[hrl];exact o.rl,hro]
     .rw[VA]
      rfl
    .rintro rn y rd s E3 e3 ⟨rs,cP,eJ,⟨g10,g11⟩,hrl,hro,rfl⟩ hN3 hE3;have hym:y∈t.rows:=by rw[e3];simp
     let(hy1,hy2):=o.rs y hym;let(t1,t2):=htg k hkm t htm y hym;have hrl2:rs.length < 5:=by
      have:=congrArg List.length e3;rw[Vw,VD] at this;have:=o.rl;cbv
     have hfin:∀ u:Tm,qP u->E3.nx #[[.dat (.fO d),.dat (.tup (ps.map bW)),.own 0,.dat (.str (bM k.asked)),.dat (.str k.nm),.dat (.tup (k.heads.map wm)),.dat (.tup (k.tabs.map i6)),.own 1,.dat (i6 t),.own 2,.dat (.str y.1),.dat (toD u)],[some (.lst (out.map bW)),some (.lst (rD.map i6)),some (.lst ((rs++[(y.1,u)]).map eP))]]:=λu hu=>hN3 _ #[rs++[(y.1,u)],.dat (.str y.1),.dat (toD u),#[U,U],by rw[Vw,Vw,hrl];rfl,λr hr=>(VM.mp hr).elim (hro r) λhr=>by rw[VH.mp hr];exact#[hy1,hu],U];right;show#[#[by decide,by decide],λr r0 r1=>?_];have hre:(rs.map eP).length < Ev:=by rw[Vv];cbv
     right;show aN U (λ_=>?_) (λ_=>?_)
     .right;show#[#[by decide,by decide],λi i0 i1=>?_];right;show#[hre,?_];have:=hfin (.node .j3 [.node (.num i) [],y.2,y.2]) (Hx hy2.1 t1 t2 i0 i1);rw[VA] at this;exact this
     .right;show#[hre,?_];have:=hfin y.2 hy2;rw[VA] at this;exact this
end
def oj(l:!Nat):Bool:=l.take 6 == cd "(case "||l.take 5 == cd "(new "
def jc:!Nat->!(!Nat)
 | []=>[]
 | c::l=>if oj (c::l)=true then (c::l)::jc l else jc l
inductive uk:!(!Nat)->!Tm->Prop
 | nil:uk [] []
 | cons {h:!Nat} {t:Tm} {hs:!(!Nat)} {ts:!Tm}:t.T <+: h->uk hs ts->uk (h::hs) (t::ts)
theorem uk.app{a b:!(!Nat)}{ts us:!Tm}(h:uk a ts)(k:uk b us):uk (a++b) (ts++us):=by
 induction h with
 | nil=>exact k
 | cons p _ ih=>exact .cons p ih
def Seg(a:!Nat)(ts:!Tm):Prop:=∀ r,∃ hs,jc (a++r)=hs++jc r/\uk hs ts
theorem Seg.nil:Seg [] []:=λr=>#[[],U,.nil]
theorem Seg.app{a b:!Nat}{ts us:!Tm}(h:Seg a ts)(k:Seg b us):Seg (a++b) (ts++us):=λr=>by
 let(h1,e1,p1):=h (b++r);let(h2,e2,p2):=k r;exact#[h1++h2,by rw[VR,e1,e2,VR],p1.app p2]
theorem xX{n:Nat}{l:!Nat}(h:n≠40):oj (n::l)=false:=by
 unfold oj;rw[X8,beq_eq_false_iff_ne,beq_eq_false_iff_ne];constructor
 .intro e;have e2:n=40:=(XZ (show n::l.take 5=40::[99,97,115,101,32] from e)).1;exact h e2
 .intro e;have e2:n=40:=(XZ (show n::l.take 4=40::[110,101,119,32] from e)).1;exact h e2
theorem jQ{n:Nat}{l:!Nat}(h:oj (n::l)=false):jc (n::l)=jc l:=by
 rw[jc,h]
 rfl
theorem Seg.cons{n:Nat}{a:!Nat}{ts:!Tm}(h:n≠40)(k:Seg a ts):Seg (n::a) ts:=λr=>by
 let(hs,e,p):=k r;exact#[hs,by rw[Xv,jQ (xX h),e],p]
abbrev nb(l:!Nat):Prop:=∀ n∈l,n≠40
theorem Seg.no{a b:!Nat}{ts:!Tm}(h:nb a)(k:Seg b ts):Seg (a++b) ts:=by
 induction a with
 | nil=>exact k
 | cons n a ih=>exact .cons (h n Vx) (ih λm hm=>h m (Vy _ hm))
theorem Seg.nb{a:!Nat}(h:nb a):Seg a []:=by
 have:=Seg.no h Seg.nil
 rwa [VJ] at this
theorem jE{x:Str}(h:Nm x):nb (cd x):=λn z=>by
 have:=h.1 n z;cbv
theorem xR{x:Str}(h:vA x):nb (cd x):=by
 rcases h with h | rfl
 .exact jE h
 .decide
theorem Eg{i:Int}(h0:0<=i):nb (cd (qd i)):=λm hc=>by
 let(n,rfl):=Xl h0;have e:cd (qd (n:Int))=(Nat.toDigits 10 n).map Char.toNat:=PySem.W.KIN.signs_num n;rw[e] at hc;let(ch,hm,hh):=VI.mp hc;have:=Nat.isDigit_of_mem_toDigits () () hm;unfold Char.isDigit at this;simp only[Bool.and_eq_true,decide_eq_true_eq] at this;have h2:48<=ch.toNat:=this.1;cbv
theorem zI{l:!(!Nat)}(h:∀ x∈l,nb x):nb (fM l):=by
 cases l with
 | nil=>exact λ_ z=>by cases z
 | cons a l =>
  intro n z;rcases VM.mp z with z | z
  .exact h a Vx n z
  .let(x,hx,z):=V3.mp z;rcases VG.mp z with rfl | z
   .decide
   .exact h x (Vy _ hx) n z
abbrev rD(t:Tm):!Tm:=t.pre.filter gC
inductive CQ:!(!Nat)->!Tm->Prop
 | nil:CQ [] []
 | cons {a:!Nat} {k:Tm} {as:!(!Nat)} {ks:!Tm}:Seg a (rD k)->CQ as ks->CQ (a::as) (k::ks)
theorem CQ.fl{as:!(!Nat)}{ks:!Tm}(h:CQ as ks):Seg (as.flatMap (32::·)) ((eA ks).filter gC):=by
 induction h with
 | nil=>exact Seg.nil
 | cons p _ ih =>
  rw[VS,eA,Wk];exact (Seg.cons () p).app ih
theorem CQ.rows:∀ {hs:!(Str×!Str)} {as:!(!Nat)} {ks:!Tm},CQ as ks->hs.length=ks.length->(∀ h∈hs,Nm h.1/\∀ n∈h.2,Nm n)->Seg (eC hs as) ((eA ks).filter gC)
 | [],_,_,.nil,_,_=>Seg.nil
 | _::_,_,_,.nil,e,_=>by cases e
 | [],_,_,.cons _ _,e,_=>by cases e
 | h::hs,_,_,.cons p r,e,hh=>by
  let(h1,h2):=hh h Vx;rw[eA,Wk];show Seg.app (a:=32::124::32::(fM (cd h.1::h.2.map cd)++32::58::32::_)) (.cons () (.cons () (.cons () (.no (zI λx hx=>?_) (.cons () (.cons () (.cons () p))))))) (CQ.rows r (by simpa using e) λx hx=>hh x (List.mem_cons_of_mem _ hx));rcases VG.mp hx with rfl | hx
  .exact jE h1
  .let(n,hn,rfl):=VI.mp hx;exact jE (h2 n hn)
theorem Seg.br{a:!Nat}{ts:!Tm}(h:∀ r,oj (40::(a++r))=false)(k:Seg a ts):Seg (40::a++[41]) ts:=λr=>by
 let(hs,e,p):=k (41::r);show#[hs,?_,p];rw[show 40::a++[41]++r=40::(a++41::r) by simp,jQ (h _),e,jQ (xX ())]
theorem Seg.tb{t:Tm}{a:!Nat}{ts:!Tm}(h:∀ r,oj (40::(a++r))=true)(e:t.T=40::a++[41])(k:Seg a ts):Seg (40::a++[41]) (t::ts):=λr=>by
 let(hs,e1,p):=k (41::r);show#[(40::(a++41::r))::hs,?_,.cons #[r,by rw[e];simp] p];rw[show 40::a++[41]++r=40::(a++41::r) by simp,jc,if_pos (h _),e1,jQ (xX ())]
 rfl
theorem jy{x:Str}(h:(cd x).all (·!= 40)=true):nb (cd x):=λn hn=>by
 have:=Wr.mp h n hn;simpa using this
mutual
theorem ID:∀ t:Tm,t.gt->Seg t.T (rD t)
 | .node f ks,h=>by
  have hk:=An ks h.2;have ho:=h.1;have eT:(Tm.node f ks).T=pK f (pB f (vt ks)):=by rw[Tm.T]
  have wr:f.w=1->(Tm.node f ks).T=40::pB f (vt ks)++[41]:=λe=>by rw[eT,pK,e];rfl
  have pe:rD (.node f ks)=(if gC (.node f ks)=true then [Tm.node f ks] else [])++(eA ks).filter gC:=by
   change (Tm.pre (.node f ks)).filter gC=_;rw[Tm.pre,Xx];split<;>rfl
  rw[pe];cases f with
  | nm x =>
   have e0:ks=[]:=XR.mp ho.2;subst e0;exact Seg.nb (jE ho.1)
  | num i =>
   have e0:ks=[]:=XR.mp ho.2;subst e0;exact Seg.nb (Eg ho.1.1)
  | op s =>
   rw[wr U];show Seg.br ?_ (Seg.no ?_ hk.fl)
   .intro r;rcases ho.1 with rfl | rfl | rfl<;>rfl
   .rcases ho.1 with rfl | rfl | rfl<;>exact jy ()
  | j3 =>
   rw[wr U];exact Seg.br (λr=>rfl) (Seg.no (jy ()) hk.fl)
  | lt x =>
   rw[wr U];show Seg.br (λr=>rfl) ?_;change Seg (cd "let "++cd x++_) _;rw[VR];exact Seg.no (jy ()) (Seg.no (jE ho.1) hk.fl)
  | mk c =>
   rw[wr U];show Seg.br (λr=>rfl) ?_;change Seg (cd "make "++cd c++_) _;rw[VR];exact Seg.no (jy ()) (Seg.no (jE ho.1) hk.fl)
  | ask g =>
   rw[wr U];cases ks with
   | nil=>exact absurd ho.2.1 ()
   | cons k ks =>
    cases hk with
    | cons p hk =>
     show Seg.br (λr=>rfl) ?_;change Seg (cd "ask "++k.T++(32::cd g)++_) _;rw[VR,VR];show Seg.no (jy ()) ?_;change Seg _ ((k.pre++eA ks).filter gC);rw[Wk];exact Seg.app p (Seg.cons () (Seg.no (jE ho.1) hk.fl))
  | k7 q hs =>
   rw[wr U];cases ks with
   | nil=>exact absurd ho.2.2 (by simp)
   | cons k ks =>
    cases hk with
    | cons p hk =>
     show Seg.tb (λr=>rfl) (wr U) ?_;change Seg (cd "case "++k.T++cd " to "++cd q++_) _;rw[VR,VR,VR];show Seg.no (jy ()) ?_;change Seg _ ((k.pre++eA ks).filter gC);rw[Wk];exact Seg.app p (Seg.no (jy ()) (Seg.no (xR ho.1) (CQ.rows hk (by have:=ho.2.2;simp at this;cbv) λx hx=>#[(ho.2.1.2 x hx).1,(ho.2.1.2 x hx).2.2])))
  | new q hs =>
   rw[wr U];show Seg.tb (λr=>rfl) (wr U) ?_;change Seg (cd "new "++cd q++_) _;rw[VR];exact Seg.no (jy ()) (Seg.no (xR ho.1) (CQ.rows hk ho.2.2.symm λx hx=>#[(ho.2.1.2 x hx).1,(ho.2.1.2 x hx).2.2]))
theorem An:∀ ks:!Tm,zV ks->CQ (vt ks) ks
 | [],_=>.nil
 | k::ks,h=>.cons (ID k h.1) (An ks h.2)
end
def num(n:Nat)(l:!(!Tm)):!(Nat×Nat×Tm):=(l.zipIdx n).flatMap λx=>x.1.zipIdx.map λq=>(x.2,q.2,q.1)
theorem jz(n:Nat)(t:!Tm)(l:!(!Tm)):num n (t::l)=(t.zipIdx.map λq=>(n,q.2,q.1))++num (n+1) l:=by
 unfold num;rw[List.zipIdx_cons,VS]
theorem z0(n:Nat)(a b:!(!Tm)):num n (a++b)=num n a++num (n+a.length) b:=by
 unfold num;rw[List.zipIdx_append,VU]
theorem Jk{α:Type}(l:!α):∀ n:Nat,num n (l.map λ_=>[])=[]:=by
 induction l with
 | nil=>exact λ_=>rfl
 | cons a l ih =>
  intro n;rw[VE,jz,ih]
  rfl
theorem CS(k:Kp)(l:!Tb):∀ r:Nat,num r (l.map vy)=((l.zipIdx r).map λq:Tb×Nat=>(q.2,k,q.1)).flatMap pf:=by
 induction l with
 | nil=>exact λ_=>rfl
 | cons t l ih =>
  intro r;rw[VE,jz,ih,List.zipIdx_cons,VE,VS]
  rfl
def LU(ps:!Kp):!(!Tm):=ps.flatMap λk=>[]::k.tabs.map vy
theorem xx:∀ (ps:!Kp) (r:Nat),num r (LU ps)=((rb r ps).flatMap pF).flatMap pf
 | [],_=>rfl
 | k::ps,r=>by
  change num r (([]::k.tabs.map vy)++LU ps)=_;rw[z0,jz,xx ps,rb,VS,VU,CS k];rw[VD,Vv,show r+(k.tabs.length+1)=r+1+k.tabs.length by cbv]
  rfl
def rt(ps:!Kp):!(!Tm):=LU ps++(iH ps).map λ_=>[]
theorem yd(ps:!Kp):num 0 (rt ps)=ko ps:=by
 unfold rt;rw[z0,Jk,VJ,xx]
 rfl
inductive vw:!Str->!(!Tm)->Prop
 | nil:vw [] []
 | cons {x:Str} {ts:!Tm} {xs:!Str} {Ih:!(!Tm)}:uk (jc (cd x)) ts->vw xs Ih->vw (x::xs) (ts::Ih)
theorem vw.app{a b:!Str}{c d:!(!Tm)}(h:vw a c)(k:vw b d):vw (a++b) (c++d):=by
 induction h with
 | nil=>exact k
 | cons p _ ih=>exact .cons p ih
theorem vw.flat{α β:Type}{f:β->α->Str}{g:β->α->!Tm}{b:β}{l:!α}(h:∀ x∈l,uk (jc (cd (f b x))) (g b x)):vw (l.map (f b)) (l.map (g b)):=by
 induction l with
 | nil=>exact .nil
 | cons a l ih=>exact .cons (h a Vx) (ih λx hx=>h x (Vy _ hx))
theorem Seg.Q6{a:!Nat}{ts:!Tm}(h:Seg a ts):uk (jc a) ts:=by
 let(hs,e,p):=h [];rw[VJ,jc,VJ] at e;rw[e];exact p
theorem ED{es:!El}(h:∀ e∈es,nb e.T):nb (cL es):=zI λx hx=>by
 let(e,he,rfl):=VI.mp hx;exact h e he
theorem EY{l:!(Str×Tm)}(h:∀ r∈l,Nm r.1/\qP r.2):Seg ((l.flatMap λr=>.w "|"::qo r).flatMap λe=>32::e.T) (l.flatMap λr=>r.2.pre.filter gC):=by
 induction l with
 | nil=>exact .nil
 | cons r l ih =>
  rw[VS,VU];change Seg _ (r.2.pre.filter gC++l.flatMap λr=>r.2.pre.filter gC);let(h1,h2):=h r Vx;show Seg.app ?_ (ih λx hx=>h x (Vy _ hx));have e:((El.w "|"::qo r).flatMap λe=>32::e.T)=(32::124::32::(cd r.1++(32::58::32::r.2.T))):=by
   change 32::(cd "|"++(32::(cd r.1++(32::(cd ":"++(32::(r.2.T++[])))))))=_;rw[VJ]
   rfl
  rw[e];exact .cons () (.cons () (.cons () (.no (jE h1) (.cons () (.cons () (.cons () (ID _ h2.1)))))))
theorem dw.nb{b:Bool}{h:Hd}(o:dw b h):∀ e∈h.gg,nb e.T:=o.gen xR ()
theorem FX{a:Bool}{t:Tb}(o:og a t):Seg (cL (t.gg a)) (vy t):=by
 change Seg (cL ((.w (tabS a)::t.h.gg)++t.rows.flatMap λr=>.w "|"::qo r)) _;rw[oM (by simp)];show .no (ED λe he=>?_) (EY o.rs);rcases VG.mp he with rfl | he
 .show P0.nb (cd (tabS a));cases a<;>decide
 .exact dw.nb o.h e he
theorem FV{k:Kp}(o:eW k):nb (cL k.gg):=ED λe he=>by
 rcases VG.mp he with rfl | he
 .show nb (cd (bM k.asked));cases k.asked<;>decide
 .rcases VG.mp he with rfl | he
  .exact jE o.nm
  .let(h,hh,he):=V3.mp he;rcases VG.mp he with rfl | he
   .show nb (cd "|");decide
   .exact dw.nb (o.hs h hh) e he
theorem qL{a b:!Nat}(h:nb a)(k:nb b):nb (a++b):=λn z=>(VM.mp z).elim (h n) (k n)
theorem FH{x:Str×Str×Nat}(o:Qk x):nb (cd (qg x)):=by
 unfold qg;simp only[bI];exact qL (qL (qL (qL (qL () (jE o.a)) ()) (jE o.b)) ()) (Eg (by cbv))
theorem S5{ps:!Kp}(h:eY ps):vw (rp ps) (rt ps):=by
 show vw.app ?_ (vw.flat (f:=λ_:Unit=>qg) (g:=λ_ _=>[]) (b:=Unit.unit) λx hx=>(Seg.nb (FH ((mv h).2 x hx))).Q6);have h2:=h.2;clear h
 induction ps with
 | nil=>exact .nil
 | cons k ps ih =>
  rw[VS];have o:=h2 k Vx;show vw.app (c:=[]::k.tabs.map vy) (.cons ?_ ?_) (ih λx hx=>h2 x (Vy _ hx))
  .rw[sj (cL k.gg)];exact (Seg.nb (FV o)).Q6
  .rw[V2];show vw.flat (f:=λk:Kp=>(λr=>cD (cL r))∘Tb.gg k.asked) (g:=λ_=>vy) (b:=k) λt ht=>?_;change uk (jc (cd (cD (cL (t.gg k.asked))))) _;rw[sj];exact (FX (o.ts t ht)).Q6
def m8(l:!Nat):!Nat:=(List.range l.length).filter λi=>oj (l.drop i)
theorem qk:∀ l:!Nat,(m8 l).map (λi=>l.drop i)=jc l
 | []=>rfl
 | c::l=>by
  unfold m8;rw[VD,List.range_succ_eq_map,Xx,List.filter_map];have ih:=qk l;have e:((List.range l.length).filter ((λi=>oj ((c::l).drop i))∘Nat.succ))=m8 l:=rfl;rw[e,jc,Xp];split
  .rw[VE,V2];exact congrArg (_::·) ih
  .rw[V2];exact ih
theorem uk.len{hs:!(!Nat)}{ts:!Tm}(h:uk hs ts):hs.length=ts.length:=by
 induction h with
 | nil=>rfl
 | cons _ _ ih=>rw[VD,VD,ih]
theorem uk.at{hs:!(!Nat)}{ts:!Tm}(h:uk hs ts):∀ {i:Nat} {t:Tm},ts[i]?=some t->∃ x,hs[i]?=some x/\t.T <+: x:=by
 induction h with
 | nil=>exact λe=>by cases e
 | cons p _ ih =>
  intro i t e;cases i with
  | zero=>cases e;exact#[_,U,p]
  | succ i=>exact ih e
theorem pos_at{l:!Nat}{ts:!Tm}(h:uk (jc l) ts){i:Nat}{t:Tm}(e:ts[i]?=some t):∃ n,(m8 l)[i]?=some n/\n<=l.length/\t.T <+: l.drop n:=by
 let(x,e1,p):=h.at e;rw[<- qk,V0] at e1;let(n,e2,rfl):=Wb.mp e1;have:=WC.mp (Wo.mp (V8 e2)).1;exact#[n,e2,by cbv,p]
theorem GQ{l:!Nat}{ts:!Tm}(h:uk (jc l) ts):(m8 l).length=ts.length:=by
 rw[<- h.len,<- qk,Vv]
theorem vw.at{xs:!Str}{Ih:!(!Tm)}(h:vw xs Ih):∀ {r:Nat} {ts:!Tm},Ih[r]?=some ts->∃ x,xs[r]?=some x/\uk (jc (cd x)) ts:=by
 induction h with
 | nil=>exact λe=>by cases e
 | cons p _ ih =>
  intro i t e;cases i with
  | zero=>cases e;exact#[_,U,p]
  | succ i=>exact ih e
theorem Gf{l:!(!Tm)}{x:Nat×Nat×Tm}(h:x∈num 0 l):∃ ts,l[x.1]?=some ts/\ts[x.2.1]?=some x.2.2:=by
 let(y,hy,hx):=V3.mp h;let(q,hq,rfl):=VI.mp hx;exact#[y.1,by simpa using (List.mem_zipIdx_iff_getElem?.mp hy),by simpa using (List.mem_zipIdx_iff_getElem?.mp hq)]
theorem Aq(l:!(!Tm)):∀ n:Nat,(num n l).length=(l.map List.length).sum:=by
 induction l with
 | nil=>exact λ_=>rfl
 | cons t l ih =>
  intro n;rw[jz,Vw,ih,Vv,Wn,VE,We]
theorem vw.sum{xs:!Str}{Ih:!(!Tm)}(h:vw xs Ih):(xs.map λx=>(m8 (cd x)).length).sum=(Ih.map List.length).sum:=by
 induction h with
 | nil=>rfl
 | cons p _ ih=>rw[VE,VE,We,We,ih,GQ p]
theorem N8{ps:!Kp}(h:eY ps){x:Nat×Nat×Tm}(hx:x∈ko ps):∃ z,(rp ps)[x.1]?=some z/\∃ n,(m8 (cd z))[x.2.1]?=some n/\n<=(cd z).length/\x.2.2.T <+: (cd z).drop n:=by
 rw[<- yd] at hx;let(ts,e1,e2):=Gf hx;let(z,e3,p):=(S5 h).at e1;exact#[z,e3,pos_at p e2]
theorem EF{ps:!Kp}(h:eY ps):((rp ps).map λx=>(m8 (cd x)).length).sum=(ko ps).length:=by
 rw[(S5 h).sum,<- yd,Aq]
def Ug(a b:Nat×Nat×Tm):Prop:=a.1 < b.1\/a.1=b.1/\a.2.1 < b.2.1
theorem KY(l:!(!Tm)):∀ n:Nat,(num n l).Pairwise Ug/\∀ x∈num n l,n<=x.1:=by
 induction l with
 | nil=>exact λ_=>#[.nil,λ_ h=>(nomatch h)]
 | cons t l ih =>
  intro n;rw[jz];let(h1,h2):=ih (n+1);show#[List.pairwise_append.mpr #[?_,h1,λa ha b hb=>?_],λx hx=>?_]
  .rw[Xe,WG];intro i j hi hj hij;exact .inr #[U,by simpa using hij]
  .let(q,_,rfl):=VI.mp ha;have:=h2 b hb;exact .inl (by change n < b.1;cbv)
  .rcases VM.mp hx with hx | hx
   .let(q,_,rfl):=VI.mp hx;exact VB _
   .have:=h2 x hx;cbv
def Ca(x:Nat×Nat×Tm):!Int:=[(x.1:Int),(x.2.1:Int)]
theorem IX(ps:!Kp):(ko ps).Pairwise Ug:=by
 rw[<- yd];exact (KY _ 0).1
theorem BF(ps:!Kp):((ko ps).map Ca).Nodup:=by
 show Xe.mpr ((IX ps).imp λ{a b} h e=>?_);have e1:=(XZ e).1;have e2:=(XZ (XZ e).2).1;rcases h with h | h<;>cbv
theorem K0(ps:!Kp):LC ((ko ps).map Ca):=by
 intro i ks ls h1 h2;rw[V0] at h1 h2;let(a,ea,rfl):=Wb.mp h1;let(b,eb,rfl):=Wb.mp h2;let(ia,ea):=VC.mp ea;let(ib,eb):=VC.mp eb;have:=WG.mp (IX ps) i (i+1) ib ia (by cbv);rw[ea,eb] at this;change (if ((a.1:Nat):Int)=(b.1:Nat) then (if ((a.2.1:Nat):Int)=(b.2.1:Nat) then decide (2 < 2) else decide (((a.2.1:Nat):Int) < (b.2.1:Nat))) else decide (((a.1:Nat):Int) < (b.1:Nat)))=false;rcases this with h | ⟨h,h2⟩
 .rw[if_neg (by cbv)];exact decide_eq_false (by cbv)
 .rw[if_pos (by cbv),if_neg (by cbv)];exact decide_eq_false (by cbv)
mutual
theorem EH:∀ t:Tm,(t.pre.filter gC).length<=t.k9
 | .node f ks=>by
  have:=zr ks;rw[Tm.pre,Xx,Tm.k9];split
  .rename_i h
   have:f.w=1:=by cases f<;>first | rfl | cases h
   rw[VD];cbv
  .cbv
theorem zr:∀ ks:!Tm,((eA ks).filter gC).length<=ig ks
 | []=>VB _
 | k::ks=>by
  have:=EH k;have:=zr ks;rw[eA,Wk,Vw,ig];cbv
end
theorem yZ:∀ {l:!(Str×Tm)},(∀ r∈l,r.2.k9<=127)->(l.flatMap λr=>r.2.pre.filter gC).length<=127 * l.length
 | [],_=>VB _
 | r::l,h=>by
  have h1:=h r Vx;have h2:=EH r.2;have ih:=yZ λx hx=>h x (Vy _ hx);rw[VS,Vw,VD];cbv
theorem Al:∀ {l:!Tb},(∀ t∈l,∀ r∈t.rows,r.2.k9<=127)->((l.map vy).map List.length).sum<=127 * (l.map λt=>t.rows.length).sum
 | [],_=>VB _
 | t::l,h=>by
  have h1:=yZ (h t Vx);have ih:=Al λx hx=>h x (Vy _ hx);rw[VE,VE,We,VE,We];have h1:(vy t).length<=_:=h1;cbv
theorem Cy:∀ {ps:!Kp},(∀ k∈ps,eW k)->((LU ps).map List.length).sum<=127 * (ps.map λk=>(k.tabs.map λt=>t.rows.length).sum).sum
 | [],_=>VB _
 | k::ps,h=>by
  have ih:=Cy λx hx=>h x (Vy _ hx);have hk:=Al (l:=k.tabs) λt ht r hr=>(((h k Vx).ts t ht).rs r hr).2.2.2;change ((([]::k.tabs.map vy)++LU ps).map List.length).sum<=_;rw[VA,Wx,VE,We,VE,We,List.length_nil];cbv
theorem MD{ps:!Kp}(h:eY ps)(h3:(ps.map λk=>(k.tabs.map λt=>t.rows.length).sum).sum<=75):(ko ps).length < 9900:=by
 have:=Cy h.2;rw[show ko ps=num 0 (LU ps) from (xx ps 0).symm,Aq];cbv
mutual
theorem Ck:∀ t:Tm,t.gt->∀ u∈t.pre,u.gt/\u.k9<=t.k9
 | .node f ks,h,u,hu=>by
  rcases VG.mp hu with rfl | hu
  .exact#[h,VB _]
  .let(h1,h2):=Am ks h.2 u hu;show#[h1,?_];rw[Tm.k9];cbv
theorem Am:∀ ks:!Tm,zV ks->∀ u∈eA ks,u.gt/\u.k9<=ig ks
 | [],_,u,hu=>by cases hu
 | t::r,h,u,hu=>by
  rw[ig];rcases VM.mp hu with hu | hu
  .let(h1,h2):=Ck t h.1 u hu;exact#[h1,by cbv]
  .let(h1,h2):=Am r h.2 u hu;exact#[h1,by cbv]
end
theorem Fg{hs:!(Str×!Str)}(h:Gv hs):∀ x∈(hs.map λh=>h.1::h.2).flatten,FS.strOk x=true:=λx hx=>by
 let(l,hl,hx):=List.mem_flatten.mp hx;let(y,hy,rfl):=VI.mp hl;rcases VG.mp hx with rfl | hx
 .exact qv (gx (h.2 y hy).1)
 .exact qv (gx ((h.2 y hy).2.2 x hx))
mutual
theorem Cz:∀ t:Tm,t.gt->t.By=true
 | .node f ks,h=>by
  rw[Tm.By,yP ks h.2,Bool.and_true,Wr];have o:=h.1;have one:∀ {y:Str},Nm y->∀ x∈[y],FS.strOk x=true:=λh x hx=>by
   rw[VH.mp hx];exact qv (gx h)
  cases f with
  | nm x=>exact one o.1
  | num i=>exact λ_ h=>(nomatch h)
  | op s =>
   intro x hx;rw[VH.mp hx];rcases o.1 with rfl | rfl | rfl<;>decide+kernel
  | j3=>exact λ_ h=>(nomatch h)
  | lt x=>exact one o.1
  | mk c=>exact one o.1
  | ask g=>exact one o.1
  | k7 r hs=>exact λx hx=>(VG.mp hx).elim (λe=>e▸qv (qw o.1)) (Fg o.2.1 x)
  | new r hs=>exact λx hx=>(VG.mp hx).elim (λe=>e▸qv (qw o.1)) (Fg o.2.1 x)
theorem yP:∀ ks:!Tm,zV ks->rN ks=true
 | [],_=>rfl
 | t::r,h=>by
  change (t.By&&rN r)=true;rw[Cz t h.1,yP r h.2]
  rfl
end
theorem DM{ps:!Kp}(h:eY ps){x:Nat×Nat×Tm}(hx:x∈ko ps):qP x.2.2:=by
 let(y,hy,hx):=V3.mp hx;let(hk,ht):=uE hy;let(q,hq,rfl):=VI.mp hx;have hq:q.1∈vy y.2.2:=by
  rw[(List.mem_zipIdx hq).2.2];exact Xh _
 let(r,hr,hq):=V3.mp hq;have o:=(((h.2 _ hk).ts _ ht).rs r hr).2;have hu:=(Wo.mp hq).1;let(g1,g2):=Ck r.2 o.1 q.1 hu;exact#[g1,VF (C0 r.2 (nz r.2 o.1).1 q.1 hu).2.2 o.2.1,VF g2 o.2.2]
theorem HI{x:Nat×Nat×Tm}(h:qP x.2.2):iq (oI x)=true/\fH (oI x)<=82:=by
 have w:=(nz _ h.1).1;constructor
 .show (true&&(iq (toD x.2.2)&&true))=true;rw[C8 _ w (Cz _ h.1)]
  rfl
 .have d:=B5 _ w;have d2:=h.2.1;change fH (.tup [.tup [.int _,.int _],toD x.2.2])<=82;simp only[uh,dS,jB,uF];cbv
theorem oN{α:Type}{f:α->D}{n:Nat}:∀ {l:!α},(∀ x∈l,fH (f x)<=n)->gk (l.map f)<=n
 | [],_=>by rw[Wj,jB];cbv
 | a::l,h=>by
  rw[VE,dS];have h1:=h a Vx;have h2:=oN λx hx=>h x (Vy _ hx);cbv
theorem NW{ps:!Kp}(h:eY ps):iq (.lst ((ko ps).map oI))=true/\fH (.lst ((ko ps).map oI))<=150:=by
 show#[c5 λx hx=>(HI (DM h hx)).1,?_];rw[yX];have:=oN λx hx=>(HI (DM h (x:=x) hx)).2;cbv
theorem Gn(l:!(!Int)):iq (.lst (l.map Ai))=true/\fH (.lst (l.map Ai))<=150:=by
 show#[c5 λx _=>c5 λ_ _=>rfl,?_];rw[yX];have:=oN (f:=Ai) (n:=1) (l:=l) λx _=>by
  change fH (.tup _)<=1;rw[uh];have:=oN (f:=D.int) (n:=0) (l:=x) λy _=>by rw[uF];exact VB _
  cbv
 cbv
section
variable{P:Fk}{w:FB}{K:Frag}{mg:Str->Option AC}{base:Db}
theorem Vl{A:Fr}{k:Nat}(hr:dE k A):A.units+3 < cLine:=by have:=hr.un;cbv
theorem Od(a:!Nat)(x:Str):decide (fv (.str (cD a))=fv (.str x))=(a == cd x):=by
 rw[cN];by_cases e:a=cd x
 .subst e;rw[zj,decide_eq_true U];simp
 .rw[decide_eq_false λz=>e (by rw[<- z])];simp[e]
def T9:Yd:=λds R=>∃ l:!Nat,ds=[.str (cD l)]/\l.length<=190000/\R (.lst ((m8 l).map λn:Nat=>D.int n))
theorem Mo(F:Own K mg fR)(T:Txt K mg):aa1 P w K mg base fR 1 T9:=by
 show F.n (nos:=0) rK (λds R h=>?_) λf bT A outer s H E M hr=>#[_,(ah (bR (nC ["_law_at"] [0] (dD U T.range (aa (cm lr C7 U T.len WY (aa (vd 0) ae)) ae)) (λ_ _ _ _=>(gM 0 ["_law_at","_law_row"])) (λ_ _ _ _=>fK (DW.dt (kC (ax aL bH (jf (vd 1) (bb (vd 0)) (bb (bc b7 fC (vd 0) ag))) aj (au _)) (kW (ax aL bH (jf (vd 1) (bb (vd 0)) (bb (bc b7 fC (vd 0) ag))) aj (au _))))))
 (λ_ _ _ _=>(vd 0))))),λds R h=>?_]
 .let(l,rfl,_):=h
  rfl
 .let(l,rfl,hl,q):=h;have hsz:=aH;right;show#[by rw[cX];cbv,_,U,#[by cbv,by rw[cX];cbv],?_];rw[cX,W4,zS];show bp (λi:Nat=>D.int (i:Int)) (λi:Nat=>D.int (i:Int)) (λi=>oj (l.drop i)) _ (λi hi kk N h1 h2=>?_) q;have hi:=WC.mp hi;have sl:∀ m:Nat,Txt.slice (cD l) (some (i:Int)) (some ((i:Int)+(m:Int)))=cD ((l.drop i).take m):=λm=>by
   have:=N7 (l:=l) (i:=i) (j:=i+m) (by cbv) (by cbv);rw[Nat.add_sub_cancel_left] at this;rw[<- this]
   rfl
  have s6:Txt.slice (cD l) (some (i:Int)) (some ((i:Int)+6))=cD ((l.drop i).take 6):=sl 6;have s5:Txt.slice (cD l) (some (i:Int)) (some ((i:Int)+5))=cD ((l.drop i).take 5):=sl 5;have hlen:(cD l).length<=Ev:=by rw[cX];cbv
  right;show#[hlen,?_];right;show aN (show _=((l.drop i).take 6 == cd "(case ") by rw[s6];exact Od _ _) (λt6=>?_) (λt6=>?_)
  .refine#[_,U,h1 (by unfold oj;rw[t6];rfl) _ U]
  .right;show#[hlen,?_];right;show aN (show _=((l.drop i).take 5 == cd "(new ") by rw[s5];exact Od _ _) (λt5=>?_) (λt5=>h2 (by unfold oj;rw[t6,t5];rfl) _ U);show#[_,U,h1 (by unfold oj;rw[t5,Bool.or_true]) _ U]
def Sx:Yd:=λds R=>∃ ps:!Kp,ds=[.lst ((rp ps).map .str),.lst ((ko ps).map oI)]/\(eY ps/\(ko ps).length < 9900)/\R (.bl true)
theorem Px(T1:aa1 P w K mg base fR 1 T9)(RU:aa0 P w K mg base fD 3 Qx)(F:Own K mg fq)(T:Txt K mg):aa0 P w K mg base fq 4 Sx:=by
 show F.d (nos:=1) cC (λds R h=>?_) λf bT A outer s H E M hr=>#[_,(af (sN 0 2 cC.nd (az ae))
 (af (sF (aE (vd 1)) (bO (m:=2) U (aq (gN 3 cC.nd) (aq (gN 4 cC.nd) bQ)))
 (af (sS 5 cC.nd (lA (vd 0) (bN (vd 3) ag)))
 (af (sS 6 cC.nd (DN.de (aG hr T1 (aa (vd 5) ae))))
 (af (bw (DW.dt (kC (je (Fj Oq Fi nk nk ag (bN (vd 3) ag) (fE T.len (aa (vd 6) ae)))) (kW (je (fG (CC (jf (vd 5) (bb (lA (vd 6) (bN (vd 3) ag))) cx) (aa (bB hr RU (aa (vd 4) ae)) ae)))))))
 (ah (aX vY))
 aD)
 (ah (la 2 (aa (vd 3) ae)))))))
 (ah (aX (zO (jC aL bH (cm (wu U) Il U T.sum (by decide+kernel) (aa (DN.de (nC ["_law_row"] [] (aE (vd 0)) (λ_ _ _ _=>(gM 0 ["_law_row"])) (λ_ _ _ _=>bD)
 (λ_ _ _ _=>(fE T.len (aa (DN.de (aG hr T1 (aa (vd 0) ae))) ae))))) ae)) (La (ee (show cT _ (.builtin "len") (CB _) from AS) U T.len WY (cq (nh (show cT _ (.type "set") (Di _) from Av U (Vl hr)) U T.set (by decide+kernel) (cq (DE.pe (sX (pv 2))) d6)) d6))) (au _)) (CF (jC (qu (nZ hr)) sU (sX (pv 2)) (DN.de (Ht (ee (show cT _ (.builtin "sorted") yc from uW) U T.sorted (by decide+kernel) (cq (DE.pe (sX (pv 2))) d6)))) (au _)))))))),λds R h=>?_]
 .let(ps,rfl,_):=h
  rfl
 .let(ps,rfl,(hps,hin),q):=h;have hsz:=aH;have hpr:=qS hps;right;show bJ oI (λdn s=>∃ x3 x4 x5 x6:Sl,(x3.pl=true/\x4.pl=true/\x5.pl=true/\x6.pl=true)/\s=#[[.dat (.lst ((rp ps).map .str)),.dat (.lst ((ko ps).map oI)),.own 0,x3,x4,x5,x6],[some (.lst ((dn.map Ca).map Ai))]]) ?_ ?_ _ #[.no,.no,.no,.no,#[U,U,U,U],U]
  .rintro s ⟨x3,x4,x5,x6,hp,rfl⟩;have hmet:∀ ns∈(ko ps).map Ca,ns≠[]:=λns h=>by
    let(x,_,rfl):=VI.mp h;exact λe=>by cases e
   have hlm:((ko ps).map Ca).length < 9900:=by rw[Vv];exact hin
   right;show ba D.str (λz=>D.int ((m8 (cd z)).length:Nat)) (rp ps) (λz hz kk hkk=>?_) ?_
   .have hzl:=hpr.2 z hz;obtain⟨l,rfl⟩:∃ l,z=cD l:=#[cd z,(zj z).symm];rw[cX] at hzl;right;show#[hzl,?_];right;rw[Vv,sj] at *;exact hkk _ U
   .refine#[(rp ps).map λz=>(m8 (cd z)).length,by rw[V2];rfl,?_,?_]
    .rw[EF hps];cbv
    .rw[EF hps];right;show#[#[hmet,BF ps,hlm],?_];right;show ky (by rw[Vv];exact decide_eq_true U) ?_;right;show#[#[hmet,K0 ps,hlm],?_];let(o1,o2):=Gn ((ko ps).map Ca);show#[#[o1,o1,.inl o2],?_];change R (.bl (FC _ _));rw[o9];exact q
  .rintro dn x td s E e ⟨x3,x4,x5,x6,⟨h3,h4,h5,h6⟩,rfl⟩ hN hE;have hx:x∈ko ps:=by rw[e];simp
   let(z,ez,n,en,hn,uB):=N8 hps hx;have htm:=DM hps hx;let(r,i,t):=x;obtain⟨l,rfl⟩:∃ l,z=cD l:=#[cd z,(zj z).symm];have hl:l.length<=190000:=by
    have:=hpr.2 _ (V8 ez)
    rwa [cX] at this
   rw[sj] at en hn uB;have hi:i < (m8 l).length:=(VC.mp en).1;have hm:(List.map Ai (dn.map Ca)).length < Ev:=by
    rw[Vv,Vv];have:=congrArg List.length e;rw[Vw] at this;cbv
   right;show#[fk (j:=r) (by rw[V0,ez];rfl),?_];right;show#[hl,?_];right;show fe (by rw[Vv];change (not (decide ((i:Int) < ((m8 l).length:Nat))))=false;rw[decide_eq_true (by cbv)];rfl) ?_;right;show#[fk (j:=i) (by rw[V0,en];rfl),?_];right;show#[by rw[cX];cbv,?_];right;show#[#[htm.1,by have:=htm.2.2;cbv],?_];right;show fe (by rw[O7 hn,starts_pre uB];rfl) ?_;right;show#[hm,?_];have e2:List.map Ai (dn.map Ca)++[Ai (Ca (r,i,t))]=List.map Ai ((dn++[(r,i,t)]).map Ca):=by rw[VA,VA];rfl
   rw[show D.tup [D.int ((r,i,t):Nat×Nat×Tm).1,D.int ((r,i,t):Nat×Nat×Tm).2.1]=Ai (Ca (r,i,t)) from U,e2];exact hN _ #[.dat _,.dat _,.dat _,.dat _,#[U,U,U,U],U]
def Sm:Yd:=λds R=>∃ l:!(Nat×Nat×Tm),ds=[.lst (l.map oI)]/\R (.bl true)
theorem Oz(F:Own K mg iN)(T:Txt K mg):aa0 P w K mg base iN 1 Sm:=by
 show F.d (nos:=0) nV (λds R h=>?_) λf bT A outer s H E M hr=>#[_,(af (bw (je (fG (cm fw ny U T.IQ PyProof.Rows.boot_isinstance (aa (vd 0) (aa (dc (d:=.ty "list") (gR (v:=.ty "list") U T.list (by decide+kernel) U) U) ae)))))
 (ah (aX vY))
 aD)
 (af (sF (aE (vd 0)) (gN 1 nV.nd)
 (af (bw (DW.dt (kC (je (fG (cm fw ny U T.IQ PyProof.Rows.boot_isinstance (aa (vd 1) (aa (dc (d:=.ty "tuple") (gR (v:=.ty "tuple") U T.tuple (by decide+kernel) U) U) ae))))) (kC (je (fG (cm fw ny U T.IQ PyProof.Rows.boot_isinstance (aa (bN (vd 1) ag) (aa (dc (d:=.ty "tuple") (gR (v:=.ty "tuple") U T.tuple (by decide+kernel) U) U) ae))))) (kW (ax HV Nc (fE T.len (aa (bN (vd 1) ag) ae)) ag (au _))))))
 (ah (aX vY))
 aD)
 (ah (bw (je (fG (cm (pz U) Nt U T.all PyProof.Rows.boot_all (aa (DN.de (nC ["_law_n"] [] (aE (bN (vd 1) ag)) (λ_ _ _ _=>(gM 0 ["_law_n"])) (λ_ _ _ _=>bD)
 (λ_ _ _ _=>(zO (cm fw ny U T.IQ PyProof.Rows.boot_isinstance (aa (vd 0) (aa (dc (d:=.ty "int") (gR (v:=.ty "int") U T.int (by decide+kernel) U) U) ae))) (CF (ME (cm fw ny U T.IQ PyProof.Rows.boot_isinstance (aa (vd 0) (aa (dc (d:=.ty "bool") (gR (v:=.ty "bool") U T.bool (by decide+kernel) U) U) ae))))))))) ae))))
 (ah (aX vY))
 aD))))
 (ah (aX vY)))),λds R h=>?_]
 .let(l,rfl,_):=h
  rfl
 .let(l,rfl,q):=h;right;show bJ oI (λ_ s=>∃ x:Sl,s=#[[.dat (.lst (l.map oI)),x],[]]) ?_ ?_ _ #[.no,U]
  .rintro s ⟨x,rfl⟩;right;exact q
  .rintro dn x td s E e ⟨y,rfl⟩ hN hE;let(r,i,t):=x;right;show#[[true,true],U,?_];right;exact hN _ #[_,U]
theorem uf:av ["_law_deal_here","_law_many","_law_number","_law_one","_law_other"] ["_law_deal_here","_law_many"] (ai qx):=fJ
theorem Ko(F:Own K mg a9)(T:Txt K mg):C4 P w K mg base aQ a9 1 cH.xu:=by
 show F.c λf fd F=>?_;show cH.Hm F uf λbT A outer s H E hu=>?_;exact cK (vQ PassesOwn.never (PW.pt (pw_and (iW aL (bP hu (pv 0) dA (λ_ _=>rfl)) bX (au _)) (pw_and1 (iW ku (ee c9 U T.len WY (cq (bP hu (pv 0) dA (λ_ _=>rfl)) d6)) bX (au _)))))
   (jW (iZ hu (pv 0) dA (En XN WI WJ uv (bP hu (pv 0) dA (λ_ _=>rfl))) U)))
  (cK (dQ (i:=2) uf.nd U (Or.inl U) (bP hu (pv 0) dA (λ_ _=>rfl)))
  (cK (HG (iW ku (pv 2) bX (au _)) (cK (iZ hu (pv 0) dA (cS cY (pv 2) (pv 1)) U) (jW (ni (cS gW (pv 2) (pv 1))))) zN)
  (cK (dQ (i:=3) uf.nd U (Or.inl U) (cS gW (cS b7 (cS kO (bP hu (pv 0) dA (λ_ _=>rfl)) bX) bX) bX))
  (cK (iZ hu (pv 0) dA (cS gW (cS b7 (cS kO (pv 3) bX) bX) bX) U)
  (cK (dQ (i:=4) uf.nd U (Or.inl U) (cS gW (cS kO (bP hu (pv 0) dA (λ_ _=>rfl)) (bP hu (pv 0) dA (λ_ _=>rfl))) bX))
  (jW (ni (cS gW (cS b7 (cS kO (cS gW (cS kO (pv 3) (pv 3)) bX) bX) (pv 4)) (pv 1)))))))))
theorem qK:av ["_law_script","_law_base","_law_some","_law_number","_law_one"] ["_law_script","_law_base"] (ai qU):=fJ
theorem Ss:(["_law_one"]:!Str).Nodup:=by decide+kernel
theorem Jt(F:Own K mg ix)(T:Txt K mg):C4 P w K mg base aQ ix 1 (cH.xH K):=by
 show F.c λf fd F=>?_;show cH.Hk F qK λbT A outer s H E=>?_;exact cK (yC (ts:=["_law_one"]) (us:=[]) (i:=2) qK.nd U U #[U,U,U,U,U,U] rfl (uK (ll Ap (pv 0) (uU (pv 1)) (uU bX))) (λ_ _ _ _=>fo (i:=0) Ss U (Or.inl U)) (λ_ _ _ _=>yT)
   (λ_ _ _ _=>ee (mK U) U T.max PyProof.Rows.boot_max (cq (pv 0) (cq (cS iP bX (pv 0)) d6))))
  (cK (dQ (i:=3) qK.nd U (Or.inl U) (cS b7 bX (pv 1)))
  (cK (D5 PassesOwn.never U (uK (pv 2)) (fo (i:=4) qK.nd U (Or.inl U)) (jW (dQ (i:=3) qK.nd U (Or.inl U) (cS gW (cS b7 (cS kO (pv 3) bX) (cS gW (pv 4) bX)) bX))))
  (jW (ni (zW (mB dA (pv 3) (mB dA bX (mB dA (xo U U T.list U T.rev
   (Aj (ts:=["_law_one"]) (us:=[]) #[U,U,U,U,U,U] rfl (uK (pv 2)) (λ_ _ _ _=>fo (i:=0) Ss U (Or.inl U)) (λ_ _ _ _=>zC (iW HB (pv 0) (cS JB bX bX) (au _))) (λ_ _ _ _=>pv 0))) yA))) U U (by simp) ())))))
theorem D0{ws:!Str}(hn:ws.length<=55)(h:∀ x∈ws,x.length<=190000):(Txt.join "\n" ws).length<=11000000:=by
 have h1:∀ {l:!Str},(∀ x∈l,x.length<=190000)->(l.map (·.length)).sum<=l.length * 190000:=λ{l} h=>by
  induction l with
  | nil=>exact VB _
  | cons a l ih =>
   have:=ih λx hx=>h x (Vy _ hx);have:=h a Vx;rw[VE,We,VD,Xr];cbv
 change (FM.Str.glued "\n" ws).length<=_;rw[StrLaws.glued_eq_join];show VF (StrLaws.join_length_le _ _) ?_;have h2:=h1 h;have e:("\n":Str).length=1:=rfl;rw[e];cbv
theorem Hn{t u:kI}{R:kG}{s:DS}(I:DS->Prop)(h1:∀ E:kG,(∀ s',I s'->E.nx s')->t E s)(h2:∀ s',I s'->u R s'):IM t u R s:=h1 _ h2
theorem JK(l:!D){n:Nat}(h:n<=l.length):cutD l none (some (n:Int))=l.take n:=by
 unfold cutD;rw[HT.qX,Xp,X7];have e:HT.b5 l.length l.length (some (n:Int))=n:=by
  unfold HT.b5;simp;rw[if_neg (by cbv)];cbv
 rw[e]
theorem Dj(l:!D){n:Nat}(h:n<=l.length):cutD l (some (n:Int)) none=l.drop n:=by
 unfold cutD;have e:HT.b5 l.length 0 (some (n:Int))=n:=by
  unfold HT.b5;simp;rw[if_neg (by cbv)];cbv
 rw[e,HT.qX,List.take_of_length_le (by simp)]
theorem Jx(eE:∀ d l,C4 P w K mg base aQ a9 1 (cg K (aW d l) (gE d)))(Vc:∀ d l,C4 P w K mg base aQ gB 4 (cg K (aW d l) (T4 d)))(Vh:∀ d l,C4 P w K mg base aQ fg 52 (cg K (aW d l) (Sy d 15)))(U6:∀ d l,C4 P w K mg base aQ fh 2 (cg K (aW d l) (TH d)))(U2:aa1 P w K mg base fV 3 Na)(Qq:aa1 P w K mg base cW 3 Na)(Uy:aa0 P w K mg base iN 1 Sm)(Va:aa0 P w K mg base fq 4 Sx)(UY:aa0 P w K mg base oG 7 SD)(Vk:aa0 P w K mg base j6 4 Tc)(GL:C4 P w K mg base aQ ix 1 (cH.xH K)){f:AT}{fd:Ix}(F:Bh K "law" "law" mz f fd)(T:Txt K mg):eV P w K mg base aQ 62 f fd ["_law_script"] (yo K):=by
 let(fL,fdL,GL,FL,mL,bL):=GL;show F.ok gY (λvs H Q E h=>?_) (λbT A outer s H vs Q E hr h=>?_)
 .let(a,ns,rfl,_):=h
  rfl
 .let(a,ns,rfl,hS,hlen,k):=h;have hrL:dE 1 _:=hr.mono ();show#[_,(cK (dQ (i:=1) gY.nd U (Or.inl U) (jV GL hrL U mL FL.kp bL .nil tF (cq (pv 0) (cq bX d6)))) (FW λd l M0 H0=>(af (sS 2 gY.nd (ak hr (Vc d l) (aa (vd 1) (aa ag (aa (jC ku nk (ak hr (eE d l) (aa (vd 1) (aa ag ae))) ag (au _)) ae)))))
 (af (sS 3 gY.nd (ak hr (U6 d l) (aa (vd 1) (aa (ak hr (Vh d l) (aa (vd 1) (aa (vd 2) (aa (lA (DN.de (az (aa ag (aa ag (aa ag ae))))) (ak hr (eE d l) (aa (vd 1) (aa ag ae)))) ae)))) ae))))
 (af (bw (ax aL bH (ak hr (eE d l) (aa (vd 1) (aa ag ae))) ag (au _))
 (af (sS 4 gY.nd (aK (aa (lA (DN.de (az (aa aj (aa aj ae)))) (ak hr (eE d l) (aa (vd 1) (aa ag ae)))) (aa (lA (ic (bP (dm hr) (DE.pe (vd 2)) (DE.pe aj) (λ_ _=>rfl))) ag) (aa (aK ae) (aa (aK ae) ae))))))
 (af (sS 5 gY.nd (ak hr (eE d l) (aa (vd 1) (aa (bc b7 fC (fE T.len (aa (vd 3) ae)) ag) ae))))
 (ah (sS 3 gY.nd (bc zT Fx (bc zT Fx (dC (vd 3) cx (bb (vd 5))) (aK (aa (vd 4) ae))) (dC (vd 3) (bb (vd 5)) cx))))))
 aD)
 (af (sS 6 gY.nd (DN.de (aG hr U2 (aa (vd 3) ae))))
 (af (sN 0 7 gY.nd (aG hr Qq (aa (vd 3) ae)))
 (af (bw (DW.dt (kC (je (fG (B9 hr Uy (pv 7)))) (kC (Cm (yg (nZ hr)) (pv 7) (vd 6) (au _)) (kW (je (fG (Cw hr Va (DN.de (FY (bB hr UY (aa (vd 3) ae)) (aa aj ae))) (pv 7))))))))
 (ah (aX vY))
 aD)
 (af (iA (zt PySem.F.slot_list_clear PySem.F.type_list_clear Fo GZ (pv 7)))
 (af (sS 8 gY.nd (bB hr Vk (aa (vd 3) ae)))
 (ah (aX (zO (cm fw ny U T.IQ PyProof.Rows.boot_isinstance (aa (vd 8) (aa (dc (d:=.ty "bool") (gR (v:=.ty "bool") U T.bool (by decide+kernel) U) U) ae))) (zO (jC aL bH (vd 8) (jC aL bH (fE T.len (aa (vd 6) ae)) ag (au _)) (au _)) (CF (jC (qu (nZ hr)) sU (DN.de (aG hr Qq (aa (vd 3) ae))) (vd 6) (au _))))))))))))))))),?_]
  show#[_,U,a,ns,0,U,hS,hlen,by decide,by decide,λd l H1 hd hl D1 s1=>?_];show KL (n:=7) (nos:=1) D1 U U ?_ k;have hsz:=aH;right;show#[#[by decide,by decide],λr r0 r1=>?_];right;show#[#[by decide,by decide],λws ks rj Iu hwm hks=>?_];have cb:=hks.cb (decide (0 < r)) rj Iu hwm;right;show#[#[by decide,by decide],λi i0 i1=>?_];obtain⟨v,hv,nv⟩:∃ v,(kr ws ks (decide (0 < r))).vars[0]?=some v/\Nm v:=by
   have h:0 < (ws.drop 30).length:=by rw[WU];cbv
   exact#[(ws.drop 30)[0],VO h,hwm _ (WA (Xh h))]
  obtain⟨rm,erm,rm0,rm1⟩:∃ rm:Int,jd [D.int 6,D.int 12,D.int 16] i=some (.int rm)/\0<=rm/\rm<=16:=by
   have:i=0\/i=1\/i=2:=by cbv
   rcases this with rfl | rfl | rfl
   .exact#[6,U,by decide,by decide]
   .exact#[12,U,by decide,by decide]
   .exact#[16,U,by decide,by decide]
  right;show#[erm,?_];right;show#[#[cb,rm0,by cbv,rm1],λps hps _=>?_];let(qs,eqs,(q4,ql,qr),qok,qt):=Uu hps hks;have qne:qs≠[]:=λe=>by
   rw[e] at ql;have:=congrArg List.length hps.kd;rw[Vv,<- ql] at this;let(ns,ML,AL,rh,e1,n1,n3,pM,pA,rl,I,hk):=hks.ex;have:ks.length=0:=this.symm;rcases hk with rfl | ⟨kd,rfl,_⟩
   .cbv
   .rw[Vw] at this;cbv
  rw[eqs];right;show#[#[qok,qt],λps2 l2 ok2 rw2=>?_];have ne2:ps2≠[]:=λe=>qne (XR.mp (by rw[<- l2,e];rfl));dsimp only;show Hn (λs=>∃ (gs:!Kp) (x4 x5:Sl),(x4.pl=true/\x5.pl=true)/\(eY gs/\gs≠[]/\ve gs<=75)/\s=#[[.no,.dat (.fO d),.dat (mE (kr ws ks (decide (0 < r)))),.dat (.tup (gs.map bW)),x4,x5,.no,.no,.no],[none]]) (λE hN=>?_) ?_
  .right;show#[#[by decide,by decide],λr2 r20 r21=>?_];right;show aN U (λ_=>?_) (λ_=>hN _ #[ps2,.no,.no,#[U,U],#[#[by cbv,ok2],ne2,by cbv],U]);right;show#[#[by decide,by decide],λb b0 b1=>?_];obtain⟨sb,esb⟩:∃ a:Bool,jd [D.str "made",D.str "asked"] b=some (.str (bM a)):=by
    have:b=0\/b=1:=by cbv
    rcases this with rfl | rfl
    .exact#[false,U]
    .exact#[true,U]
   right;show#[esb,?_];show#[_,U,?_];show sQ #[_,U,?_];show#[_,_,_,U,U,fk (j:=0) (by rw[V0,hv];rfl),?_];have g6:(List.map bW ps2).length=ps2.length:=Vv ..;right;show#[#[by rw[g6];cbv,by rw[g6];cbv],λat_ a0 a1=>?_];let(n,rfl):=Xl a0;have hn:n<=(List.map bW ps2).length:=by cbv
   have HU:n<=ps2.length:=by cbv
   have ec:((List.map bW ps2).take n++[D.tup [D.str (bM sb),D.str v,D.tup [],D.tup []]])++(List.map bW ps2).drop n=(ps2.take n++[(#[sb,v,[],[]]:Kp)]++ps2.drop n).map bW:=by
    rw[VA,VA,List.map_take,List.map_drop]
    rfl
   right;rw[JK _ hn];show#[by rw[Wy,WV];cbv,?_];right;rw[Dj _ hn];show#[by rw[Vw,Wy,WV,WU];cbv,?_];rw[ec];show hN _ #[_,.dat _,.dat _,#[U,U],#[#[?_,λk hk=>?_],?_,?_],U]
   .rw[Vw,Vw,Wy,WU,WV];cbv
   .rcases VM.mp hk with hk | hk
    .rcases VM.mp hk with hk | hk
     .exact ok2 k (Wc hk)
     .rw[VH.mp hk];exact#[nv,VT _,λ_ h=>(nomatch h),VT _,λ_ h=>(nomatch h)]
    .exact ok2 k (WA hk)
   .simp
   .have e:=congrArg ve (WX n ps2);have ea:∀ a b:!Kp,ve (a++b)=ve a+ve b:=λa b=>by simp[ve]
    rw[ea] at e;rw[ea,p8];change ve (ps2.take n)+0+ve (ps2.drop n)<=75;cbv
  .rintro s ⟨gs,x4,x5,hp,⟨gok,gne,grw⟩,rfl⟩;have hin:=MD gok grw;let(o1,o2):=NW gok;let(g1,g2):=qS gok;have hrow:rp gs≠[]:=λe=>by
    cases gs with
    | nil=>exact gne U
    | cons k gs=>cases e
   have hjl:(Txt.join "\n" (rp gs)).length+2<=Ev:=by
    have:=D0 g1 g2;cbv
   right;show#[gok,?_];right;show#[gok,?_];right;show#[#[U,(show noRef 0 3 [x4,x5,.dat _,.no,.no]=true by rw[bC hp.1,bC hp.2];rfl)],?_];right;show#[#[o1,o1,.inl o2],_,U,fe (by change (not (FC _ _))=false;rw[o9];rfl) ?_];right;show#[gok,?_];right;rw[Bo gok hrow];show#[hjl,by cbv,?_];right;show#[#[gok,hin],U,?_];right;show#[gok,?_];right;show ky (by
    rw[show decide (fv (D.int ((ko gs).map oI).length)=fv (D.int 0))=(ko gs).isEmpty by
     cases ko gs with
     | nil=>rfl
     | cons a b=>exact decide_eq_false λe=>by cases e]
    exact decide_eq_true U) ?_
   right;show#[gok,?_];right;show#[#[o1,o1,.inl o2],?_];change D.bl (FC _ _)=_;rw[o9]
end
theorem all_mk{l:PySem.W.OpenLaw}{w:FB}{K:Frag}{h:Db}{mg:Str->Option AC}{fa at_ Q8:AT}(X:K.In h)(G:h.Ns GM mg)(UC:mg "law"=some (.ref fa)){RK MI U0:Option AT}{Q7 QZ:Array (Option AC)}{RF Nx OC Oe Kr OG:AC}{Bk:Array AC}{nT:Nat}(Sf:Own K mg gD)(S8:Own K mg gP)(TR:Own K mg c7)(TZ:Own K mg cQ)(S4:Own K mg eG)(TY:Own K mg lS)(Tq:Own K mg iT)(Tp:Own K mg cW)(Tz:Own K mg j6)(TM:Own K mg dg)(Ta:Own K mg cR)(Ub:Own K mg gy)(Tu:Own K mg fD)(SK:Own K mg dB)(Sb:Own K mg d5)(Sa:Own K mg eu)(Ud:Own K mg et)(S9:Own K mg gA)(Te:Own K mg fU)(Uj:Own K mg ma)(T6:Own K mg jS)(Sh:Own K mg jM)(SE:Own K mg dZ)(SX:Own K mg gw)(To:Own K mg fS)(Td:Own K mg eh)(SG:Own K mg oG)(Tx:Own K mg ix)(TL:Own K mg a9)(SA:Own K mg gO)(TF:Own K mg gI)(Sk:Own K mg gG)(Sn:Own K mg c8)(Tr:Own K mg dR)(LV:Own K mg iu)(MP:Own K mg hV)(Nz:Own K mg jN)(Pu:Own K mg iy)(NJ:Own K mg jX)(LP:Own K mg dJ)(TX:Own K mg gB)(TV:Own K mg gS)(Sw:Own K mg fg)(Uh:Own K mg fh)(SU:Own K mg fY)(SW:Own K mg fP)(SO:Own K mg fV)(T3:Own K mg fR)(Tt:Own K mg fq)(SN:Own K mg iN)(RS:nsIn K GM "law"=some (some (.ref Q8)))(QD:K.lookup Q8=some #[RF,RK,.func (fnOf "law" "law" (gH mz) (bx mz) (ai mz) .none Nx OC Oe MI Kr OG),Q7])(QB:codeIn K Kr "law"=true)(QX:keepIn K (.ref Q8)=true)(Ef:nsIn K GM "all"=some none)(xv:nsIn K GM "bool"=some none)(jh:nsIn K GM "enumerate"=some none)(DR:nsIn K GM "int"=some none)(iI:nsIn K GM "isinstance"=some none)(Fh:nsIn K GM "len"=some none)(xn:nsIn K GM "list"=some none)(BV:nsIn K GM "max"=some none)(Ew:nsIn K GM "min"=some none)(uy:nsIn K GM "range"=some none)(kQ:nsIn K GM "reversed"=some none)(BU:nsIn K GM "set"=some none)(qF:nsIn K GM "sorted"=some none)(E7:nsIn K GM "str"=some none)(DZ:nsIn K GM "sum"=some none)(u3:nsIn K GM "tuple"=some none)(Fs:nsIn K GM "zip"=some none)(Rr:nsIn K GM "INNER_TABLES"=some (some (.ref at_)))(RJ:K.lookup at_=some #[.type "tuple",U0,.seq Bk nT,QZ])(PY:Vals [V.str "case",V.str "new"] Bk.toList) :
  ∃ fd:Ix,(∀ (s:Cl) (v:AC),BindsTo s fd #[[v],[]] [("_law_script",v)])/\∀ base:Db,K.In base->base.Ns GM mg->eV l.prog w K mg base aQ 62 fa fd ["_law_script"] (yo K):=by
 have e:=UC.symm.trans (PySem.W.mg_of X G RS);cases e;have hsz:Bk.size<=Ev:=by
  have q:=PY.length;have q2:Bk.toList.length=Bk.size:=by simp
  have q3:[V.str "case",V.str "new"].length=2:=rfl;have q4:(2:Nat)<=Ev:=by decide
  cbv
 have T:Txt K mg:=#[V7 X G Ef,V7 X G xv,V7 X G jh,V7 X G DR,V7 X G iI,V7 X G Fh,V7 X G xn,V7 X G BV,V7 X G Ew,V7 X G uy,V7 X G kQ,V7 X G BU,V7 X G qF,V7 X G E7,V7 X G DZ,V7 X G u3,V7 X G Fs];have J:Tv K mg at_:=#[PySem.W.mg_of X G Rr,λH=>.inr #[_,Bk,nT,RJ,U,U,hsz,PY]];have FLa:=xj (st:=mz) QD QB QX;show#[fnOf "law" "law" (gH mz) (bx mz) (ai mz) .none Nx OC Oe MI Kr OG,λs v=>.of_eq U,λbase _ _=>?_];have gPT:=PB (P:=l.prog) (w:=w) (base:=base) Ta T;have gPR:=Pr (P:=l.prog) (w:=w) (base:=base) TM T;have gPC:=NZ (P:=l.prog) (w:=w) (base:=base) gPT gPR Ub T;have gSH:=Nl (P:=l.prog) (w:=w) (base:=base) gPC Tu T;have gTW:=MJ (P:=l.prog) (w:=w) (base:=base) S4 T;have gPA:=Mq (P:=l.prog) (w:=w) (base:=base) TY T gTW;have gSF:=MK (P:=l.prog) (w:=w) (base:=base) SK T;have gSM:=NK (P:=l.prog) (w:=w) (base:=base) gSF Sb T;have gSA:=O5 (P:=l.prog) (w:=w) (base:=base) gSF Sa T;have gSC:=O8 (P:=l.prog) (w:=w) (base:=base) gSH Ud T;have gMR:=O4 (P:=l.prog) (w:=w) (base:=base) gSM gSA gSC S9 T;have gAQ:=NB (P:=l.prog) (w:=w) (base:=base) gSM gSA gSC Te T;have gRK:=PU (P:=l.prog) (w:=w) (base:=base) gMR gAQ Td T;have gUO:=OW (P:=l.prog) (w:=w) (base:=base) Uj T;have gUI:=Mz (P:=l.prog) (w:=w) (base:=base) gPA gUO T6 T;have gMI:=My (P:=l.prog) (w:=w) (base:=base) Sf T;have gAI:=Ot (P:=l.prog) (w:=w) (base:=base) S8 T;have gTD:=Mv (P:=l.prog) (w:=w) (base:=base) gMI gAI Sh T;have gUB:=Mn (P:=l.prog) (w:=w) (base:=base) gTD gUI SE T;have gCR:=Ox (P:=l.prog) (w:=w) (base:=base) gUB SX T;have gXR:=Pw (P:=l.prog) (w:=w) (base:=base) gCR To T;have gSW:=Ni (P:=l.prog) (w:=w) (base:=base) gXR gRK SG T;have gNK:=NH (P:=l.prog) (w:=w) (base:=base) TR T;have gNT:=Pg (P:=l.prog) (w:=w) (base:=base) gNK TZ T;have gIT:=OZ (P:=l.prog) (w:=w) (base:=base) Tq T J;have gIN:=Nj (P:=l.prog) (w:=w) (base:=base) gNT gPA gIT Tp T;have gIF:=Mh (P:=l.prog) (w:=w) (base:=base) gIN Tz T;have gLW:=OF (P:=l.prog) (w:=w) (base:=base) SU T;have gLT:=Ov (P:=l.prog) (w:=w) (base:=base) gLW SW T;have gLP:=Pt (P:=l.prog) (w:=w) (base:=base) gLT SO T;have gST:=Mo (P:=l.prog) (w:=w) (base:=base) T3 T;have gWR:=Px (P:=l.prog) (w:=w) (base:=base) gST gSH Tt T;have gWL:=Oz (P:=l.prog) (w:=w) (base:=base) SN T;have gTh:=PR (P:=l.prog) (w:=w) (base:=base) Sn T;have gDr:=λd l'=>(Ko (P:=l.prog) (w:=w) (base:=base) TL T).imp λ_ _=>GB (d:=d) (l:=l');have gWo:=λd l'=>Du (gDr d l') SA T;have gPa:=λd l'=>OR (gDr d l') TF T;have gHe:=λd l'=>MX (gDr d l') (gPa d l') Sk T;have gWd:=λd l'=>Pf (gWo d l') (gHe d l') TX T;have gBo:=λd l'=>NG (gDr d l') Tr T;have gLe:=λd l'=>Ic (gDr d l') LV T 2;have gTe:=λd l'=>HP (gDr d l') gTh (gBo d l') (gLe d l') MP Nz Pu NJ LP T 16;have gCs:=λd l'=>MM (gDr d l') (gTe d l') TV T ();have gPr:=λd l'=>MC (gDr d l') (gCs d l') Sw T ();have gDB:=λd l'=>Ml (gDr d l') Uh T;exact Jx gDr gWd gPr gDB gLP gIN gWL gWR gSW gIF (Jt (P:=l.prog) (w:=w) (base:=base) Tx T) FLa T
theorem walk{l:PySem.W.OpenLaw}{q:Fk}{loose:!Str}{XP:(Str->Option AC)->Db->Prop}{YP:FB->Db->Prop}{d:DefRec}{K:SZ->Frag}(hn:l.most=some 63)(OD:d.params.defaults=[])(hY:∀ (w:FB) (h:Db),YP w h->(K w.params).In h)(F:∀ (w:FB) (mg:Str->Option AC) (fa:AT) (h:Db),(K w.params).In h->h.Ns GM mg->mg d.name=some (.ref fa) ->
   ∃ fd:Ix,(∀ (s:Cl) (u:AC),BindsTo s fd #[[u],[]] [("_law_script",u)])/\∀ base:Db,(K w.params).In base->base.Ns GM mg->eV l.prog w (K w.params) mg base aQ 62 fa fd ["_law_script"] (yo (K w.params))) :
  PySem.W.WalkO q loose XP YP l.row.toRowW d [] (λf vs=>PySem.call f vs) :=
 L2.Gb (n:=63) (k:=62) (x:="_law_script") (CX:=λ_=>aQ) (sp:=λw=>yo (K w.params)) hn () OD #[U,by decide,by decide] hY F (λ_ _ a ns hl _ hS=>#[a,ns,U,hS,hl,λ_=>rfl]) λ_ _ _ _ _ z=>z
end P0
end
end
end
section
local macro_rules
 | `(#check [$n,*])=>do return Lean.mkNullNode (<-n.getElems.mapM fun x=>`(command|theorem $(Lean.mkIdent (.mkSimple s!"tw{x.raw.isNatLit?.get!}")):ident :True:=trivial))
namespace PySem.W.Fast
#check [712356455896119134,12557325999555903139,15347605475796884335,8288571259398334335,7873731761430280491,15001917630411443936,588695913185967736,6505263653772767189,10818606286628936665,943176987407819480,14818370284903109535,18406340308211583692,14871457754559935817,11719064520012653425,12574908375876478146,11297051220825364977,4428061762985010259,12492343572592989472,10547628984482878781,7835167975908996883,13774396512732122853,1066441375168795069,8533172011283291077,17508809914765674477,10004856721510690861,9529230815654542864,12860011607311257946,17525640414451917627,6754202336653825682,13474709180187899281,17169366620792730483,8325797054615793746,12929390563700984608,263780559358961940,11247839385297260181,5402827916619161923,12234687613966811353,9760783124833579578,10059183034655440690,16553263836828739290,2720758140865427443,6106370667335980318,6708984710321515241,12139697066183302273,15108603183999550346,13073645163940104767,4166188441166659949,12991183265048139,12096034416966286904,17455477654710307656,9566730772629639546,5108744970497176921,2344641138659208690,18102749511244151451,8382264651817295937,3753011681557353612,16711205075964208473,5605543994121873907,7854648054577612238,3168269243987781598,17667686571715730176,5667452556970800874,6473618913922090458,10214385074786891513,1350316648896264669,9841409946171491208,13087696728718090099,5841594863841009156,6700386982696622687,14705198337998050572,510587243733853458,3959911161681982606,8016417762099158035,9231701479925848746,15140746676069481483,5781849287303153256,3188858915417079412,8394328866051730186,9658731732365049617,10389267111102048434,7845372181665096085,11959887837978694734,14248109547739540160,13538445259538265081,17577444989965435339,6804928341928931095,14647061569829926128,4549728190650543360,3919588249653526401,12933614687389811854,7796096460822933725,9100512850231602671,1923927744527255722,14542529819381045557,13232409495088622534,5781371536881378951,3343121034808218041,7868754131508651103,15251726744457982686,2182940210712734946,12605187441123088855,6312750953976085130,13632590485086217173,17587124567887797920,17670452501948793483,11189645955653709154,4661903688684347976,9237361617281444964,12675512701856009971,10856452880049229554,597916222733206155,13376000237377442047,11877155363595002579,3594130314259223797,3681798175696618567,8502898182549281174,17479795895163479979,17350439865621516571,16898923452083089107,6065390961973115667,8095137713487332127,2998309221269011328,16736609612270794370,8495033148348218414,9384560448062983136,6264956991423553257,6260221135730920985,12201197130126275520,9895238255872651556,17196786045462363231,11567766396971732865,14894698104257595971,2887015978374224028,1215483461337194938,18345288349516612691,2768507513398614497,7785958463036101695,9488203021454948741,4520474106417253552,954508895832122019,3774654762838609056,8825873834506971616,5578667396702734725,3557614620977090925,1161025454903981971,12710995564517713608,1262360999350172454,730216625873933436,7609852869034004755,17780486074800755863,10487606972036642143,3376007122014906060,8798644462170576794,4679372278525518058,11677689651158237040,13762357757906638821,3147065253088536362,298216920179211525,14447080585530441561,17981774131919312991,15172265240468522942,16755275601343390171,9761014402163038963,9401999531589035729,9790358204443735236,6471090723575770565,1127728571112729228,10779745289209132258,6836859838101630430,16570816140596675735,1213580459629647718,7996554501555028004,9492335989228378701,11506494240403225156,9372650563606556186,1476782545690990554,4495377232074799105,3478249515390213403,2115138123068572119,14652240793600643953,11363160222683746378,14240574729192190274,15338339327760290415,4576291686403989920,12846184262992187297,6873517161514616016,5684513685505687978,984545608311781830,8432767651677999638,2526798436930907794,11472396211345543515,3964214369754033285,6117208160651440478,10065115025116279508,14029313061056786060,4737528185766946144,17463670281592892674,13625912108204001842,1767302425573675549,1808680642095666830,2988583014501933800,17964574802507975237,5433815365062737940,1052676338807863739,13268751190260388450,1172324262514516467,14561811170715629235,2682660745738996641,8711587220088218382,18189503668548987162,7240703779012306519,14218727471686138712,17368498851240571705,3182913778315542229,6974409016340097392,8739833472309999462,12532675445203316486,214487840177441012,3614767297527522018,3958325105397201404,8910794646527946142,3101861008886953188,5537793339407332754,15197070959667263826,2908108093192133474,1797614785674003345,6697663425315484501,16056119078272845538,4025863131701186757,13472269160908142051,14065809165228505496,16771120985890461618,16463180619289879153,2144350949897661121,1500176691584765285,17029559082244011590,14946430969023025736,8323829082344116620,10627907576788179695,4117295599658939387,10302145497636325381,3487022385746496800,15135395239426745093,11603195725846439660,3576714079701903150,16663174338113891814,13527662397046315260,16581360632786229995,18081328314655868785,16939863125119887254,2907059211817052424,6203637346205649723,5590723875920690011,12502284622966404449,10065991189000440907,15217163194252416613,13239695432791531341,9310448399963386019,16279839661631002540,16145088904989290707,5656272845759785745,9527142928292546366,14416315324190884165,7991420839926752622,10466367004776631853,5100777366071194982,3951523635355445672,17059062057850357231,2760997870456798301,10779395672956841933,8480708497833632686,2541845254643649802,5598199778904748274,10799505141096155702,3204823199804104682,4729606793957792926,14785917015220359643,9021414053915549738]
end PySem.W.Fast
end
open PySem PySem.W PyProof.Rows
set_option maxRecDepth 100000 in
set_option maxHeartbeats 0 in
theorem PySem.Challenge.cw_sideturn_k15_inner_tables_and_places_holds : PySem.Challenge.rw_sideturn_k15_inner_tables_and_places.Holds := by
 w_on;o_law;k_head;(case hw=>w_witness2)
 k_fill
 refine P0.walk (l:=PySem.Challenge.rw_sideturn_k15_inner_tables_and_places) U U (λw h Y=>PySem.W.kIn_of Y) ?F
 case F =>
  intro w mg fa h KX G hmg
  refine' P0.all_mk KX G hmg ?Sf ?S8 ?TR ?TZ ?S4 ?TY ?Tq ?Tp ?Tz ?TM ?Ta ?Ub ?Tu ?SK ?Sb ?Sa ?Ud ?S9 ?Te ?Uj ?T6 ?Sh ?SE ?SX ?To ?Td ?SG ?Tx ?TL ?SA ?TF ?Sk ?Sn ?Tr ?LV ?MP ?Nz ?Pu ?NJ ?LP ?TX ?TV ?Sw ?Uh ?SU ?SW ?SO ?T3 ?Tt ?SN ?RS ?QD ?QB ?QX ?Ef ?xv ?jh ?DR ?iI ?Fh ?xn ?BV ?Ew ?uy ?kQ ?BU ?qF ?E7 ?DZ ?u3 ?Fs ?Rr ?RJ ?PY
  all_goals try (refine' DL.K4 KX G ?a ?l ?c ?k ?b;(case a=>k_is);(case l=>k_is);(case c=>k_is);(case k=>k_is);(case b=>intro _ _ _ _ _ _ us hl;rcases us with _ | ⟨_,_ | ⟨_,_ | ⟨_,_ | ⟨_,_ | ⟨_,_ | ⟨_,_⟩⟩⟩⟩⟩⟩<;>first | rfl | cases hl))
  (case RS=>k_is)
  (case QD=>k_is)
  (case QB=>k_is)
  (case QX=>k_is)
  (case Ef=>k_is)
  (case xv=>k_is)
  (case jh=>k_is)
  (case DR=>k_is)
  (case iI=>k_is)
  (case Fh=>k_is)
  (case xn=>k_is)
  (case BV=>k_is)
  (case Ew=>k_is)
  (case uy=>k_is)
  (case kQ=>k_is)
  (case BU=>k_is)
  (case qF=>k_is)
  (case E7=>k_is)
  (case DZ=>k_is)
  (case u3=>k_is)
  (case Fs=>k_is)
  (case Rr=>k_is)
  (case RJ=>k_is)
  (case PY=>(repeat (first | exact .nil | refine .cons ⟨_,U⟩ ?_)))
