import PyProof.Rows.All
import Wide.All
import OpenK.AllK
import Wide.FinOn
import Lean
import PyProof.EqAt
import PyProof.EqKinds
import PyProof.TupleCall
import PyProof.ZipIter
import PyProof.NeData
import PyProof.Draws
import PyProof.EnumMake
import PyProof.IsiHeapPairs
import PyProof.IsiNone
import PyProof.ConsumeWalk
import PyProof.TupleOfStr
import PyProof.DictWalks
import KE.KDictSum
import KE.KDictOf
import PyProof.IsiH_list
import PySem.Challenge.RW_sideturn_k07_terms_amiss
set_option genSizeOf false
set_option genInjectivity false
set_option Elab.async false
set_option linter.all false
set_option maxRecDepth 100000
set_option maxHeartbeats 8000000
open Lean in
def cv:Nat->Term->MacroM (TSyntax `rcasesPat)
 |0,_=>Macro.throwUnsupported
 |n+1,t=>do match t with
  |`(($a,$b,*))=>let p<-(#[a]++b.getElems).mapM (cv n);`(rcasesPat|⟨$[$p:rcasesPat],*⟩)
  |`($x:ident)=>`(rcasesPat|$x:ident)
  |`(_)=>`(rcasesPat|_)
  |`(())=>`(rcasesPat|⟨⟩)
  |_=>Macro.throwUnsupported
section
local macro_rules
 | `(tactic|let ($a,$b,*):=$e)=>do `(tactic|obtain $(<-cv 9 (<-`(($a,$b,*)))):rcasesPat:=$e)
local macro_rules
 | `(#[$a,*])=>`(⟨$a,*⟩)
local macro_rules
 | `(#v[$a,*])=>`(List.toArray [$a,*])
local macro_rules
 | `(↑$s)=>`(($s).heap.objs.size)
local macro_rules
 | `(tactic|cbv)=>`(tactic|first|with_reducible assumption|with_reducible exact Nat.le_refl _|with_reducible exact Nat.lt_succ_self _|lia|omega)
local macro_rules
 | `(tactic|ac_nf)=>`(tactic|first|exact .inl rfl|exact .inr rfl|assumption)
local macro_rules
 | `(tactic|ac_rfl)=>`(tactic|first|decide|cbv)
local macro_rules
 | `(command|def $i:declId $s:optDeclSig $v:declVal)=>`(command|noncomputable def $i:declId $s:optDeclSig $v:declVal)
local macro_rules
 | `(command|abbrev $i:declId $s:optDeclSig $v:declVal)=>`(command|noncomputable abbrev $i:declId $s:optDeclSig $v:declVal)
local macro_rules
 | `(!$x)=>`(List $x)
local macro_rules
 | `(tactic|show $t)=>`(tactic|refine $t)
open PySem renaming Addr→AC,Value→AT,Shared→Ch,Expr→Da,wpAny_bind→Db,wpAny→EQ,Heap→Ev,sizeLine→FB,World→Fa,Stmt→Fk,Program→Fr,Around→GE,wpAny_pure→GM,Builtin→GT,PyData→Gc,starEach→Go,mainGlobals→IN,FuncData→IR,backTo→KB,NameKind→KF,wpAny_mono→KM,rawInt→NE,wpAny_field→Os,compareOp→PP,Keyword→Ps,binaryOp→P3,IsPair→Re,wpAny_holding→Rs,sysModules→SB,DictEntry→SL,backToKw→ST,keywordEach→SZ,wpAny_seqItems→Sc,wpAny_newObj_type→TD,wpAny_call_entry→TW,Params→Tk
local macro_rules
 | `(())=>`(by decide)
local macro_rules
 | `(-())=>`(by decide+kernel)
theorem Ty(h:True:=by rfl):True:=h
theorem UF(h:True:=by decide):True:=h
local macro_rules
 | `($x⁻¹)=>`(autoParam $x Ty._auto_1)
local macro_rules
 | `(~~~$x)=>`(autoParam $x UF._auto_1)
open PySem.W (Frag nsIn findIn keepIn typeIn kitOne fnOf kitAny codeIn InstAt Looks specialIn)
section
open PySem
def Zw:=@List.mem_cons_of_mem
def Zx:=@List.mem_cons_self
def Zy:=@List.length_map
def Zz:=@Ev.get?_push_of_some
def ZA:=@List.flatMap_cons
def ZC:=@Nat.le_refl
def ZD:=@List.mem_cons
def ZE:=@List.length_append
def ZF:=@List.getElem?_eq_some_iff
def ZG:=@List.map_cons
def ZH:=@Nat.le_trans
def ZI:=@List.mem_singleton
def ZJ:=@List.length_cons
def ZK:=@Ev.lt_size
def ZL:=@Nat.lt_of_lt_of_le
def ZM:=@List.append_nil
def ZN:=@Option.map_eq_some_iff
def ZO:=@List.map_append
def ZP:=@Bool.false_ne_true
def ZQ:=@List.mem_append_right
def ZR:=@List.mem_append
def ZS:=@Ev.get?_push_size
def ZT:=@Nat.ne_of_lt
def ZU:=@List.getElem?_set_ne
def ZV:=@List.size_toArray
def ZW:=@List.all_eq_true
def ZX:=@Bool.and_eq_true
def ZY:=@Ev.get?_update_other
def ZZ:=@PySem.W.mg_of
def Z0:=@List.flatMap_append
def Z1:=@Nat.zero_le
def Z2:=@List.mem_append_left
def Z3:=@List.length_drop
def Z4:=@List.append_assoc
def Z5:=@List.mem_map
def Z6:=@List.eq_nil_of_length_eq_zero
def Z7:=@Option.some.inj
def Z8:=@List.getElem?_map
def Z9:=@Array.getElem?_eq_some_iff
def aaa:=@PySem.W.mg_none_of
def aab:=@List.length_set
def aac:=@List.tail_cons
def aad:=@List.cons_append
def aae:=@List.getElem?_set_self
def aaf:=@PySem.boot_len
def aag:=@PySem.F.plainAttrs_list
def aah:=@Nat.ne_of_gt
def aai:=@Nat.succ_pos
def aaj:=@List.cons.inj
def aak:=@List.length_take
def aal:=@List.map_map
def aam:=@List.headD_cons
def aan:=@List.length_eq_zero_iff
def aao:=@List.mem_of_mem_drop
def aap:=@List.mem_of_mem_take
def aaq:=@PySem.F.plainAttrs_str
def aar:=@Bool.not_eq_true'
def aas:=@List.count_append
def aat:=@PySem.mem_of_lookup
def aau:=@Ev.get?_update_self
def aav:=@Array.getElem?_toList
def aaw:=@Nat.lt_of_le_of_lt
def aax:=@List.getElem?_eq_getElem
def aay:=@PySem.F.slot_list_append
def aaz:=@PySem.F.type_list_append
def aaA:=@List.mem_of_getElem?
def aaB:=@Ev.size_push
def aaC:=@Int.eq_ofNat_of_zero_le
def aaD:=@List.nodup_cons
def aaE:=@List.length_reverse
def aaF:=@List.take_of_length_le
def aaG:=@List.flatMap_map
def aaH:=@Bool.eq_iff_iff
def aaI:=@Option.isSome_iff_exists
def aaJ:=@List.nil_append
def aaK:=@Array.getElem?_setIfInBounds_self_of_lt
def aaL:=@List.sum_cons
def aaM:=@Nat.succ_le_succ
def aaN:=@Nat.le_add_right
def aaO:=@List.lookup_cons
def aaP:=@Option.bind_some
def aaQ:=@List.mem_flatMap
def aaR:=@PySem.F.slot_str_split
def aaS:=@List.drop_eq_nil_of_le
def aaT:=@Int.emod_lt_of_pos
def aaU:=@PySem.StrLaws.glued_eq_join
def aaV:=@Nat.isDigit_of_mem_toDigits
def aaW:=@Int.emod_nonneg
def aaX:=@List.count_cons_of_ne
def aaY:=@Nat.lt_irrefl
def aaZ:=@List.count_cons_self
def aa0:=@List.mem_range
def aa1:=@List.drop_zero
def aa2:=@List.map_nil
def aa3:=@List.drop_length
def aa4:=@PySem.F.slot_str_replace
def aa5:=@Array.length_toList
def aa6:=@Int.toNat_of_nonneg
def aa7:=@List.mem_map_of_mem
def aa8:=@List.map_congr_left
def aa9:=@List.append_cancel_left
def aba:=@List.reverse_cons
def abb:=@PySem.F.slot_list_pop
def abc:=@PySem.F.type_list_pop
def abd:=@PySem.W.looks_findIn
def abe:=@List.reverse_reverse
def abf:=@List.any_cons
def abg:=@List.getD_eq_getElem?_getD
def abh:=@PySem.F.excBase_ValueError
def abi:=@List.filterMap_cons
def abj:=@List.map_eq_nil_iff
def abk:=@List.length_pos_iff
def abl:=@Bool.or_eq_true
def abm:=@List.drop_eq_getElem_cons
def abn:=@List.sum_append
def abo:=@Nat.not_lt_zero
def abp:=@Nat.le_of_lt
def abq:=@PySem.W.callWith_K
def abr:=@PySem.F.args_tuple_add_2
def abt:=@List.eq_of_mem_replicate
def abu:=@PySem.F.args_str_split_2
def abv:=@List.all_map
def abw:=@PySem.F.entry_tuple_add
def abx:=@PySem.F.entry_str_split
def aby:=@List.take_add_one
def abz:=@PySem.F.slot_tuple_add
def abA:=@List.map_id
def abB:=@List.mem_reverse
def abC:=@List.length_tail
def abD:=@List.length_replicate
def abE:=@PySem.F.slot_dict_get
def abF:=@PySem.W.KIN.signs_num
def abG:=@List.take_append_drop
def abH:=@Array.mem_toList_iff
def abI:=@List.dropLast_concat
def abJ:=@Nat.min_eq_left
end
open PySem in
abbrev abK:=AT->Ch->Prop
open PySem in
abbrev abL:=!(AC×Obj)
open PySem in abbrev abN (N:Env)(e:Da)(r:!Da):Prop:=Go (e::r) N=(false,eval e N)::Go r N
open PySem in abbrev abO (N:Env)(p:Pos)(r:!Da):Prop:=(KB p (Go r N)).any (·.1)=false
open PySem in abbrev abP (x:Str):Prop:=(x == ("__debug__":Str))=false
theorem U.{u}{α:Sort u}{a:α}:a=a:=rfl
namespace L2
open PySem
theorem oq{M:Model}{Γ:Ctx}{p:Pos}{t:Sem Fin}{l:!Frame}{s s':Ch}{e:End}(h:Runs M Γ p t l s e s'):s.toks<=s'.toks:=by
 induction h with
 | done | raise | yield=>exact ZC _
 | again _ _ ih | rule _ ih | «at» _ ih | load _ _ ih | update _ _ ih | loadIfAlive _ ih | point _ ih | alloc _ ih | ask _ ih | choose _ _ ih | os _ ih | handled _ ih | genState _ _ ih | stack _ ih | thread _ ih | newGen _ ih | callSusp _ ih | resumeJustStarted _ _ _ ih | resumeThrowFresh _ _ ih | resumeRunning _ _ ih | resumeFinished _ _ ih=>exact ih
 | fresh _ ih=>exact Nat.le_of_succ_le ih
 | call _ _ i1 i2=>exact ZH i1 i2
 | resumeFresh _ _ _ _ i1 i2=>exact ZH i1 i2
 | resumeSuspended _ _ _ _ i1 i2=>exact ZH i1 i2
 | segRet _ _ i1 i2=>exact ZH i1 i2
 | segGen _ _ i1 i2=>exact ZH i1 i2
 | segSuspOut _ _ i1=>exact i1
 | segSuspGen _ _ _ _ i1 i2=>exact ZH i1 i2
theorem BG{M:Model}{Γ:Ctx}{p:Pos}{g:Nat}{r:Resume}{s s':Ch}{res:GenResult}(h:Wakes M Γ p g r s res s'):s.toks<=s'.toks:=by
 unfold Wakes at h;split at h
 .exact h.elim
 .split at h
  .let(e,s1,h1,_,_,rfl):=h;exact (show s.toks<=s1.toks from (oq h1:(s.setGen g GenState.running).toks<=s1.toks))
  .let(_,rfl):=h;exact ZC _
  .let(_,rfl):=h;exact ZC _
 .let(e,s1,h1,_,_,rfl):=h;exact (show s.toks<=s1.toks from (oq h1:(s.setGen g GenState.running).toks<=s1.toks))
 .let(_,rfl):=h;exact ZC _
 .let(_,rfl):=h;exact ZC _
theorem vh{α:Type}{M:Model}{Γ:Ctx}{t:Sem α}{Q:α->Pos->Ch->Prop}{E:AT->Pos->Ch->Prop}{p:Pos}{s:Ch}{n:Nat}(hn:n<=s.toks)(h:Sem.wp M Γ t (λa p' s'=>n<=s'.toks->Q a p' s') (λe p' s'=>n<=s'.toks->E e p' s') p s):Sem.wp M Γ t Q E p s:=by
 induction t generalizing p s with
 | pure x=>exact h hn
 | raise v=>exact h hn
 | unsupported | finish | yield | fork | await | register=>exact h
 | rule _ k ih | «at» _ k ih | alloc _ k ih | loadIfAlive _ k ih | point _ k ih | ask k ih | os _ _ k ih | handled _ k ih | newGen _ k ih | stack k ih | thread k ih=>exact ih _ hn h
 | fresh k ih=>exact ih _ (Nat.le_succ_of_le hn) h
 | load a _ k ih | genState a k ih=>exact let #[o,ho,h]:=h;#[o,ho,ih _ hn h]
 | update a _ f k ih | choose _ _ k ih=>exact let #[ha,h]:=h;#[ha,ih _ hn h]
 | call c hd g l k ih=>exact let #[r,s',hr,h]:=h;#[r,s',hr,ih r (ZH hn (oq hr)) h]
 | resume g r l k ih=>exact let #[res,s',hw,h]:=h;#[res,s',hw,ih _ (ZH hn (BG hw)) h]
theorem gB{α:Type}{M:Model}{A:GE}{t:Sem α}{Q:α->Ch->Prop}{E:abK}{s:Ch}(h:EQ M A t (λa s'=>s.toks<=s'.toks->Q a s') (λe s'=>s.toks<=s'.toks->E e s') s):EQ M A t Q E s :=
 λΓ p hp=>vh (ZC _) (h Γ p hp)
theorem sG{M:Model}{A:GE}{c:Code}{R:Result->Ch->Prop}{s:Ch}(h:codeAny M A c (λr s'=>s.toks<=s'.toks->R r s') s):codeAny M A c R s :=
 λΓ p hc hb=>let #[r,s',hr,q]:=h Γ p hc hb;#[r,s',hr,q (oq hr)]
section
variable{prog:Fr}{w:Fa}{A:GE}{E:abK}{s:Ch}{x y:Str}{t u:Tok}{Q:abK}
theorem BB(ht:t≠0)(hu:u≠0)(hs:0 < s.toks)(hz:x.length+y.length<=FB)(h:∀ (t':{ t:Tok // t≠0 }) tk,0 < tk->Q (.str (x++y) t'.1) { s with toks:=tk }):(if x.length == 0 then Made.val (.str y u) else if y.length == 0 then Made.val (.str x t) else Made.str (x++y)).post Q s:=by
 cases hx:x.length == 0
 .cases hy:y.length == 0
  .exact#[by rw[strLen_append];exact hz,h #[_,aah hs] _ (aai _)]
  .have e:x++y=x:=by
    have h0:y.cps=#v[]:=Array.eq_empty_of_size_eq_zero (by simpa [Str.length] using hy);change Str.append x y=x;cases x;simp[Str.append,h0]
   have:=h #[t,ht] s.toks hs;rw[e] at this;exact this
 .have e:x++y=y:=by
   have h0:x.cps=#v[]:=Array.eq_empty_of_size_eq_zero (by simpa [Str.length] using hx);change Str.append x y=y;cases y;simp[Str.append,h0]
  have:=h #[u,hu] s.toks hs;rw[e] at this;exact this
end
def fF{α:Type}(t:Sem α):Prop:=∀ (M:Model) (Γ:Ctx) (Q:α->Pos->Ch->Prop) (E:AT->Pos->Ch->Prop) (p:Pos) (s:Ch) (n:Nat),n<=s.toks->Sem.wp M Γ t (λa p' s'=>n < s'.toks->Q a p' s') E p s->Sem.wp M Γ t Q E p s
theorem fF.left{α β:Type}{m:Sem α}{f:α->Sem β}(h:fF m):fF (m >>= f):=λM Γ Q E p s n hn q=>by
 rw[Sem.wp_bind'] at q ⊢;show h M Γ _ E p s n hn (Sem.wp_mono M Γ m (λa p' s' z hl=>?_) (λ_ _ _ z=>z) p s q);exact vh (n:=n+1) hl (Sem.wp_mono (exc':=λe p' s'=>n+1<=s'.toks->E e p' s') M Γ (f a) (λ_ _ _ z=>z) (λ_ _ _ z _=>z) p' s' z)
theorem fF.right{α β:Type}{m:Sem α}{f:α->Sem β}(h:∀ a,fF (f a)):fF (m >>= f):=λM Γ Q E p s n hn q=>by
 rw[Sem.wp_bind'] at q ⊢;exact vh hn (Sem.wp_mono (exc':=λe p' s'=>n<=s'.toks->E e p' s') M Γ m (λa p' s' z hl=>h a M Γ Q E p' s' n hl z) (λ_ _ _ z _=>z) p s q)
theorem fF.fresh{α:Type}{k:Tok->Sem α}:fF (.fresh k):=λM Γ Q E p s n hn q=>by
 rw[Sem.wp_fresh] at q ⊢;exact vh (n:=n+1) (aaM hn) (Sem.wp_mono (exc':=λe p' s'=>n+1<=s'.toks->E e p' s') M Γ _ (λ_ _ _ z=>z) (λ_ _ _ z _=>z) p _ q)
theorem fF.any{α:Type}{M:Model}{A:GE}{t:Sem α}{Q:α->Ch->Prop}{E:abK}{s:Ch}(h:fF t)(q:EQ M A t (λa s'=>s.toks < s'.toks->Q a s') E s):EQ M A t Q E s :=
 λΓ p hp=>h M Γ _ _ p s s.toks (ZC _) (q Γ p hp)
theorem yo{a:AC}{x:Str}{v:AT}:fF (nsSet a x v):=by
 unfold nsSet;show fF.right λh=>fF.left ?_;unfold mkText;exact fF.left fF.fresh
theorem xu{env:Env}{x:Str}{v:AT}(hk:env.scope.kind=.function)(h:env.kindOf x=some .local):fF (storeName env x v):=by
 unfold storeName;rw[h];simp only[hk];exact yo
theorem pK{env:Env}(hk:env.scope.kind=.function):∀ {l:!(Str×AT)},(∃ y∈l,env.kindOf y.1=some .local)->fF (forIn l PUnit.unit (λ(x:Str×AT) (_:PUnit)=>(do storeName env x.1 x.2;pure (ForInStep.yield PUnit.unit):Sem (ForInStep PUnit))))
 | [],h=>by let(_,z,_):=h;cases z
 | x::l,h=>by
  rw[List.forIn_cons];by_cases hx:env.kindOf x.1=some .local
  .exact fF.left (fF.left (xu hk hx))
  .let(y,hy,hl):=h;have ih:=pK hk (l:=l) #[y,(ZD.mp hy).resolve_left (λe=>hx (e▸hl)),hl];intro M Γ Q E p s n hn q;rw[Sem.wp_bind',Sem.wp_bind'] at q ⊢;show vh hn (Sem.wp_mono (exc':=λe p' s'=>n<=s'.toks->E e p' s') M Γ _ (λa p' s' z hl=>?_) (λ_ _ _ z _=>z) p s q);rw[Sem.wp_pure'] at z ⊢;exact ih M Γ Q E p' s' n hl z
theorem B5{scope:Scope}{globals:AC}{l:!(Str×AT)}{qual:Str}{func:Option AC}{code:AT}{builtins:AC}(hk:scope.kind=.function)(h:∃ y∈l,scope.names.lookup y.1=some .local):fF (newFunctionEnv scope globals [] l qual func code none builtins):=by
 simp only[newFunctionEnv,Option.isSome_none,Bool.false_eq_true,if_false];show fF.right λa=>fF.right λcs=>fF.left ?_;exact pK hk h
def MT:Made->Prop
 | .val (.str _ t)=>t≠0
 | .either a b=>MT a/\MT b
 | _=>True
theorem gA{r:Str}{s:Ch}{Q:abK}(hs:0 < s.toks)(h:∀ (t':{ t:Tok // t≠0 }) k,0 < k->Q (.str r t'.1) { s with toks:=k }):∀ {m:Made},MT m->m.post (λv _=>∃ t',v=.str r t') s->m.post Q s
 | .val v,hm,q=>by
  let(t',e):=q;subst e;exact h #[t',hm] s.toks hs
 | .int i,_,q=>by
  let(t',e):=q;cases e
 | .str x,_,q=>by
  let(hf,t',e):=q;cases e;exact#[hf,h #[_,aah hs] _ (aai _)]
 | .float b,_,q=>by
  let(t',e):=q;cases e
 | .bytes b,_,q=>by
  let(_,t',e):=q;cases e
 | .either a b,hm,q=>#[gA hs h hm.1 q.1,gA hs h hm.2 q.2]
theorem MT.ite{c:Prop}[Decidable c]{a b:Made}(ha:MT a)(hb:MT b):MT (if c then a else b):=by
 split
 .exact ha
 .exact hb
theorem C5{sep:Str}:∀ {l:!(Str×Tok)},(∀ p∈l,p.2≠0)->MT (joinMade sep l)
 | [],_=>trivial
 | [p],h=>h p Zx
 | _::_::_,_=>trivial
section
variable{prog:Fr}{w:Fa}{A:GE}{E:abK}{s:Ch}{x:Str}{t u:Tok}{Q:abK}
theorem Uz{n:Int}(ht:t≠0)(hs:0 < s.toks)(aD:MulOk x n)(h:∀ (t':{ t:Tok // t≠0 }) k,0 < k->Q (.str (Txt.mul x n) t'.1) { s with toks:=k }):EQ (model prog w) A (P3 .Mult (.str x t) (.int n u)) Q E s:=by
 show P.mul_str aD.1 aD.2.1 aD.2.2 (gA hs h (MT.ite trivial (MT.ite ht trivial)) ?_);unfold Txt.mul;by_cases h1:n < 1
 .rw[if_pos h1,if_pos h1];exact#[by decide,_,U]
 .rw[if_neg h1,if_neg h1];exact post_val_or_made (λhc=>fits_reps (aD.2.2 h1 (by simpa using hc))) λt' k=>#[t',U]
theorem O1{D:AC}{l:!(Str×Tok)}(hs:0 < s.toks)(hp:∀ p∈l,p.2≠0)(hl:s.heap.IsList D (strValues l).toArray)(aD:JoinOk x (l.map (·.1))=true)(h:∀ (t':{ t:Tok // t≠0 }) k,0 < k->Q (.str (Txt.join x (l.map (·.1))) t'.1) { s with toks:=k }) :
  EQ (model prog w) A (call (.builtin "str.join") [.str x t,.ref D]) Q E s:=by
 unfold JoinOk at aD;rw[aar] at aD;exact call_meets F.slot_str_join (typeIs_str _ _ _) F.entry_str_join (F.args_str_join_2 _ _) (meets_str_join_list x t D l aD) #[hl,gA hs h (C5 hp) (post_join l #[joinFit_length aD,λt' k=>#[t',U]])]
end
end L2
namespace L2
open PySem PySem.Spec PyProof.Rows
abbrev Key:=Sum Int Str
def rE:Key->AT->Bool
 | .inl k,v=>AT.isInt k v
 | .inr x,v=>AT.isStrOf x v
def SO(w:Fa):Key->Int
 | .inl k=>hashInt k
 | .inr x=>hashStr w x
theorem b9:∀ {k:Key} {v:AT},rE k v=true->(∃ i t,k=Sum.inl i/\v=AT.int i t)\/(∃ x t,k=Sum.inr x/\v=AT.str x t)
 | .inl i,v,h=>by
  let(t,e):=AT.isInt_shape (k:=i) (v:=v) h;exact .inl #[i,t,U,e]
 | .inr x,v,h=>by
  let(t,e):=AT.isStrOf_shape (x:=x) (v:=v) h;exact .inr #[x,t,U,e]
theorem Bi(i:Int)(t:Tok):rE (.inl i) (.int i t)=true:=by simp[rE,AT.isInt]
theorem Bf(x:Str)(t:Tok):rE (.inr x) (.str x t)=true:=by simp[rE,AT.isStrOf]
theorem Lv(a b:Int):decide ((Sum.inl a:Key)=Sum.inl b)=(a == b):=by
 by_cases e:a=b
 .subst e;simp
 .have h:¬ (Sum.inl a:Key)=Sum.inl b:=λq=>e (Sum.inl.inj q);rw[decide_eq_false h];exact (beq_eq_false_iff_ne.mpr e).symm
theorem Li(a b:Str):decide ((Sum.inr a:Key)=Sum.inr b)=decide (a=b):=by
 by_cases e:a=b
 .subst e;simp
 .have h:¬ (Sum.inr a:Key)=Sum.inr b:=λq=>e (Sum.inr.inj q);rw[decide_eq_false h,decide_eq_false e]
theorem K8(a:Int)(b:Str):decide ((Sum.inl a:Key)=Sum.inr b)=false:=decide_eq_false (λq=>nomatch q)
theorem Kt(a:Str)(b:Int):decide ((Sum.inr a:Key)=Sum.inl b)=false:=decide_eq_false (λq=>nomatch q)
def bV(prog:Fr)(w:Fa):PySem.KeyKind prog w Key where
 is:=rE
 hash:=SO w
 inj:=λv a b ha hb=>by
  rcases b9 ha with ⟨i,t,rfl,rfl⟩ | ⟨x,t,rfl,rfl⟩
  .rcases b9 hb with ⟨j,u,rfl,e⟩ | ⟨y,u,rfl,e⟩
   .injection e with e1 _;rw[e1]
   .exact nomatch e
  .rcases b9 hb with ⟨j,u,rfl,e⟩ | ⟨y,u,rfl,e⟩
   .exact nomatch e
   .injection e with e1 _;rw[e1]
 byValue:=λk v h=>by
  rcases b9 h with ⟨i,t,rfl,rfl⟩ | ⟨x,t,rfl,rfl⟩<;>rfl
 pyHash:=λhv h=>by
  rcases b9 hv with ⟨i,t,rfl,rfl⟩ | ⟨x,t,rfl,rfl⟩
  .exact wpAny_pyHash_int h
  .exact wpAny_pyHash_str h
 eqBool:=λhu hv h=>by
  rcases b9 hu with ⟨i,t,rfl,rfl⟩ | ⟨x,t,rfl,rfl⟩
  .rcases b9 hv with ⟨j,u,rfl,rfl⟩ | ⟨y,u,rfl,rfl⟩
   .rw[Lv] at h;exact wpAny_eqBool_int h
   .rw[K8] at h;exact SeqAt.EqAt.int_str i t y u _ _ _ _ h
  .rcases b9 hv with ⟨j,u,rfl,rfl⟩ | ⟨y,u,rfl,rfl⟩
   .rw[Kt] at h;exact SeqAt.EqAt.str_int x t j u _ _ _ _ h
   .rw[Li] at h;exact wpAny_eqBool_str h
 «strs»:=λk x t v h=>by
  rcases b9 h with ⟨i,u,rfl,e⟩ | ⟨y,u,rfl,e⟩
  .exact nomatch e
  .injection e with e1 _;subst e1;cases v<;>rfl
theorem u6(prog:Fr)(w:Fa)(i:Int)(t:Tok):(bV prog w).is (.inl i) (.int i t)=true:=Bi i t
theorem vT(prog:Fr)(w:Fa)(x:Str)(t:Tok):(bV prog w).is (.inr x) (.str x t)=true:=Bf x t
set_option genInjectivity true in inductive V where
 | bX | bl (b:Bool) | int (i:Int) | str (x:Str) | wG (b:Array UInt8) | Mg (b:UInt64) | ref (a:AC) | ty (n:String)
 deriving DecidableEq
abbrev xg:={ t:Tok // t≠0 }
def RelV:V->AT->Prop
 | .bX,u=>u=AT.none
 | .bl b,u=>u=AT.bool b
 | .int i,u=>∃ t,u=AT.int i t
 | .str x,u=>∃ t:xg,u=AT.str x t.1
 | .wG b,u=>∃ t,u=AT.bytes b t
 | .Mg b,u=>∃ t,u=AT.float b t
 | .ref a,u=>u=AT.ref a
 | .ty n,u=>u=AT.type n
abbrev Vals:!V->!AT->Prop:=Paired RelV
theorem Vals.length{xs:!V}{us:!AT}(r:Vals xs us):xs.length=us.length:=Paired.length r
theorem Vals.get:∀ {xs:!V} {us:!AT} {i:Nat} {x:V},Vals xs us->xs[i]?=some x->∃ u,us[i]?=some u/\RelV x u
 | _,_,_,_,.nil,e=>by simp at e
 | _,_,0,_,.cons r _,e=>by simp at e;subst e;exact#[_,rfl,r]
 | _,_,i+1,x,.cons _ t,e=>by
  let(u,h1,h2):=Vals.get (i:=i) (x:=x) t (by simpa using e);exact#[u,by simpa using h1,h2]
theorem Vals.set{x:V}{u:AT}(r:RelV x u):∀ {xs:!V} {us:!AT} (i:Nat),Vals xs us->Vals (xs.set i x) (us.set i u)
 | _,_,_,.nil=>.nil
 | _,_,0,.cons _ t=>.cons r t
 | _,_,i+1,.cons q t=>.cons q (Vals.set r i t)
theorem Vals.append:∀ {xs ys:!V} {us ws:!AT},Vals xs us->Vals ys ws->Vals (xs++ys) (us++ws)
 | _,_,_,_,.nil,s=>s
 | _,_,_,_,.cons r t,s=>.cons r (Vals.append t s)
theorem Vals.take:∀ {xs:!V} {us:!AT} (n:Nat),Vals xs us->Vals (xs.take n) (us.take n)
 | _,_,0,_=>.nil
 | _,_,_+1,.nil=>.nil
 | _,_,n+1,.cons r t=>.cons r (Vals.take n t)
theorem Vals.drop:∀ {xs:!V} {us:!AT} (n:Nat),Vals xs us->Vals (xs.drop n) (us.drop n)
 | _,_,0,r=>r
 | _,_,_+1,.nil=>.nil
 | _,_,n+1,.cons _ t=>Vals.drop n t
def iH:Option V->Option AT->Prop
 | some v,some u=>RelV v u
 | none,none=>True
 | _,_=>False
def KV{κ:Type}:!(κ×V)->!(κ×AT)->Prop:=Paired λ(p:κ×V) (q:κ×AT)=>p.1=q.1/\RelV p.2 q.2
def kV:Key->V
 | .inl i=>.int i
 | .inr x=>.str x
inductive HO where
  | lst (xs:!V)
  | tup (xs:!V)
  | dK (az:!(Key×V)) | dT (az:!(!Key×V))
  | set (S:Int->Bool) (n:Nat)
  | ins (C dx:AC) (fs:!(Str×V))
  | own (x:AC)
  | xd (fs:!(Str×V))
  | met (f x:AC)
  | SE (lo hi:Int)
  | vi (o:Obj) (u:HO)
  | Ly (ps:Array AT)
  | ext (φ:Ev->Prop)
abbrev Hp:=AC->Option HO
def upd(H:Hp)(a:AC)(o:HO):Hp:=λb=>if b=a then some o else H b
theorem aj{H:Hp}{a:AC}{o:HO}:upd H a o a=some o:=by unfold upd;rw[if_pos U]
theorem ai{H:Hp}{a b:AC}{o:HO}(h:b≠a):upd H a o b=H b:=by unfold upd;rw[if_neg h]
theorem G8{H:Hp}{a:AC}{o u:HO}:upd (upd H a o) a u=upd H a u:=by
 funext b;unfold upd;split<;>rfl
theorem DY{H:Hp}{a b:AC}{o u:HO}(h:H a=some o)(h':H b=some u)(d:o≠u):a≠b:=by
 intro e;subst e;rw[h] at h';exact d (Z7 h')
theorem au{H:Hp}{a b:AC}{o:HO}(h:H a=some o)(h':H b=none):a≠b:=by
 intro e;subst e;rw[h] at h';cases h'
section
variable(P:Fr)(w:Fa)
def cy(H:Hp)(h:Ev)(a:AC):HO->Prop
 | .lst xs=>xs.length<=FB/\∃ (its:!AT) (n:Nat),Vals xs its/\h.get? a=some { cls:=.type "list",data:=.seq its.toArray n }
 | .tup xs=>xs.length<=FB/\∃ its:!AT,Vals xs its/\IsTup h a its.toArray
 | .dK az=>az.length<=FB/\(a == SB)=false/\∃ vs,KV az vs/\h.DictOf (bV P w) a vs
 | .dT az=>az.length<=FB/\(a == SB)=false/\∃ xs:!(!Key×AC×AT),
   Paired (λ(p:!Key×V) (q:!Key×AC×AT)=>p.1=q.1/\H q.2.1=some (.tup (p.1.map kV))/\RelV p.2 q.2.2) az xs /\
   ∃ o es ep,h.get? a=some o/\o.ExactDict/\o.data=.dict es ep/\es.toList=xs.map (entryOfKey (tupleKind (bV P w)))/\(xs.map (·.1)).Nodup
 | .set S n=>h.SetOf (intKind P w) a S n
 | .ins C dx fs=>H dx=some (.own a)/\fs.length<=1000/\dx≠a/\h.get? a=some (PySem.W.instObj C dx) /\
   ∃ mA,h.Ns1 dx mA/\(∀ f,iH (fs.lookup f) (mA f))/\PySem.Within mA (fs.map (·.1))
 | .own _=>∃ o,h.get? a=some o
 | .xd fs=>∃ mA,h.Ns1 a mA/\∀ f,iH (fs.lookup f) (mA f)
 | .SE lo hi=>∃ t u v,h.get? a=some { cls:=.type "range",data:=.fields #v[.int lo t,.int hi u,.int 1 v] }
 | .vi o u=>h.get? a=some o/\cy H h a u
 | .Ly ps=>h.get? a=some { cls:=.none,data:=.fields ps }
 | .met f x=>h.get? a=some (PySem.W.methodObj (.ref f) (.ref x))
 | .ext φ=>φ h/\(∃ o,h.get? a=some o)/\∀ h1 h2:Ev,φ h1->(∀ o,h1.get? a=some o->h2.get? a=some o)->φ h2
def jY(H:Hp)(h:Ev):Prop:=∀ a o,H a=some o->cy P w H h a o
end
section
variable{P:Fr}{w:Fa}{H H':Hp}{h h':Ev}{a:AC}{o:HO}
theorem cy.lt(x:cy P w H h a o):a < h.objs.size:=by
 cases o with
 | lst xs=>let(_,_,_,_,e):=x;exact ZK e
 | tup xs=>let(_,_,_,p):=x;exact p.lt
 | dK az=>let(_,_,_,_,o,_,_,e,_):=x;exact ZK e
 | dT az=>let(_,_,_,_,o,_,_,e,_):=x;exact ZK e
 | set S n=>let(o,_,_,_,e,_):=x;exact ZK e
 | ins C dx fs=>let(_,_,_,e,_):=x;exact ZK e
 | own y=>let(_,e):=x;exact ZK e
 | xd fs=>let(_,(_,_,_,e,_),_):=x;exact ZK e
 | SE lo hi=>let(_,_,_,e):=x;exact ZK e
 | vi ob u=>let(e,_):=x;exact ZK e
 | Ly ps=>exact ZK (show h.get? a=some _ from x)
 | met f y=>exact ZK (show h.get? a=some _ from x)
 | ext φ=>let(_,(_,e),_):=x;exact ZK e
theorem Paired.Hb{α β:Type}{F G:α->β->Prop}:∀ {l₁:!α} {l₂:!β},Paired F l₁ l₂->(∀ a b,F a b->G a b)->Paired G l₁ l₂
 | _,_,.nil,_=>.nil
 | _,_,.cons r t,f=>.cons (f _ _ r) (Paired.Hb t f)
theorem cy.sv(x:cy P w H h a o)(k:∀ b u,(b=a\/H b=some (.own a))->h.get? b=some u->h'.get? b=some u)(ho:∀ b,H b=some (.own a)->H' b=some (.own a))(ht:∀ b xs,H b=some (.tup xs)->H' b=some (.tup xs)):cy P w H' h' a o:=by
 induction o with
 | lst xs=>let(z,its,n,r,e):=x;exact#[z,its,n,r,k _ _ (.inl U) e]
 | tup xs=>let(z,its,r,ob,e,c):=x;exact#[z,its,r,ob,k _ _ (.inl U) e,c]
 | dK az=>let(z,y,vs,r,ob,es,ep,e,c):=x;exact#[z,y,vs,r,ob,es,ep,k _ _ (.inl U) e,c]
 | dT az =>
  let(z,y,xs,r,ob,es,ep,e,c):=x;exact#[z,y,xs,Paired.Hb r λp q z=>#[z.1,ht _ _ z.2.1,z.2.2],ob,es,ep,k _ _ (.inl U) e,c]
 | set S n=>let(ob,es,ep,t,e,c):=x;exact#[ob,es,ep,t,k _ _ (.inl U) e,c]
 | ins C dx fs =>
  let(d,z,ne,e,mA,(od,es,ep,e2,c),r):=x;exact#[ho _ d,z,ne,k _ _ (.inl U) e,mA,#[od,es,ep,k _ _ (.inr d) e2,c],r]
 | own y=>let(ob,e):=x;exact#[ob,k _ _ (.inl U) e]
 | xd fs=>let(mA,(od,es,ep,e,c),r):=x;exact#[mA,#[od,es,ep,k _ _ (.inl U) e,c],r]
 | SE lo hi=>let(t,u,v,e):=x;exact#[t,u,v,k _ _ (.inl U) e]
 | vi ob u ih=>let(e,q):=x;exact#[k _ _ (.inl U) e,ih q]
 | Ly ps =>
  have e:h.get? a=some { cls:=.none,data:=.fields ps }:=x;change h'.get? a=some { cls:=.none,data:=.fields ps };exact k a _ (.inl U) e
 | met f y =>
  have e:h.get? a=some (PySem.W.methodObj (.ref f) (.ref y)):=x;change h'.get? a=some (PySem.W.methodObj (.ref f) (.ref y));exact k a _ (.inl U) e
 | ext φ=>let(p,(o,e),st):=x;exact#[st _ _ p λo q=>k _ _ (.inl U) q,#[o,k _ _ (.inl U) e],st]
theorem jY.lt(x:jY P w H h)(e:H a=some o):a < h.objs.size:=(x a o e).lt
theorem jY.fresh(x:jY P w H h)(e:h.objs.size<=a):H a=none:=by
 cases q:H a with
 | none=>rfl
 | some u=>exact absurd (ZL (x.lt q) e) (aaY _)
theorem jY.kept(x:jY P w H h)(k:∀ b u,h.get? b=some u->h'.get? b=some u):jY P w H h':=λa o e =>
 (x a o e).sv (λb u _ q=>k b u q) (λ_ q=>q) λ_ _ q=>q
theorem jY.laid(x:jY P w H h)(k:∀ b u,h.get? b=some u->h'.get? b=some u)(hp:h.objs.size<=a)(new:cy P w (upd H a o) h' a o):jY P w (upd H a o) h':=λb u e=>by
 have hn:=x.fresh hp;by_cases hb:b=a
 .subst hb;rw[aj] at e;cases e;exact new
 .rw[ai hb] at e;exact (x b u e).sv (λc v _ q=>k c v q) (λc q=>by rw[ai (au q hn)];exact q) λc xs q=>by rw[ai (au q hn)];exact q
end
def Rd(H:Hp)(a:AC)(u:HO):Prop:=H a=some u\/∃ o,H a=some (.vi o u)
theorem Rd.ok{P:Fr}{w:Fa}{H:Hp}{h:Ev}{a:AC}{u:HO}(r:Rd H a u)(x:jY P w H h):cy P w H h a u:=by
 rcases r with r | ⟨o,r⟩
 .exact x a u r
 .let(_,q):=x a _ r;exact q
def KO:Option HO->Prop
 | some (.lst _)=>True
 | some (.dK _)=>True
 | some (.dT _)=>True
 | some (.set _ _)=>True
 | some (.ins _ _ _)=>True
 | some (.ext _)=>True
 | _=>False
section
variable{P:Fr}{w:Fa}{H:Hp}{h h':Ev}{x e:AC}{o':HO}
theorem jY.write(ok:jY P w H h)(mu:KO (H x))(he:e=x\/H e=some (.own x))(k:∀ b u,b≠e->h.get? b=some u->h'.get? b=some u)(LR:∃ u,h'.get? e=some u)(new:cy P w (upd H x o') h' x o'):jY P w (upd H x o') h':=λb u q=>by
 have nown:∀ c y,H c=some (.own y)->c≠x:=λc y r z=>by subst z;rw[r] at mu;exact mu
 have FZ:∀ c xs,H c=some (.tup xs)->c≠x:=λc xs r z=>by subst z;rw[r] at mu;exact mu
 by_cases hb:b=x
 .subst hb;rw[aj] at q;cases q;exact new
 .rw[ai hb] at q;by_cases hbe:b=e
  .have q':H b=some (.own x):=by
    rcases he with z | z
    .exact absurd (hbe.trans z) hb
    .rw[hbe];exact z
   rw[q] at q';cases q';let(v,hv):=LR;exact#[v,by rw[hbe];exact hv]
  .refine (ok b u q).sv (λc v hc r=>k c v ?_ r) (λc r=>by rw[ai (nown c b r)];exact r) λc xs r=>by rw[ai (FZ c xs r)];exact r
   rcases hc with rfl | hc
   .exact hbe
   .rintro rfl;rcases he with z | z
    .exact nown c b hc z
    .rw[hc] at z;cases z;exact hb U
end
structure Un(fs ex:!AC)(H H':Hp)(h h':Ev):Prop where
 keep:∀ b o,h.get? b=some o->H b=none->b∉fs->b∉ex->h'.get? b=some o
 slot:∀ b o,h.get? b=some o->H b=none->b∈fs->b∉ex->∃ sl,h'.get? b=some { o with slots:=sl }
 free:∀ b o,h.get? b=some o->H b=none->b∉ex->H' b=none
 there:∀ b o,h.get? b=some o->b∉ex->∃ o',h'.get? b=some o'
 t6:∀ b xs,H b=some (.tup xs)->H' b=some (.tup xs)
 qM:∀ b o u,H b=some (.vi o u)->H' b=some (.vi o u)
 tL:∀ b ps,H b=some (.Ly ps)->∃ more,H' b=some (.Ly (ps++more))
section
variable{fs jN ex Zt:!AC}{H H1 H2:Hp}{h h1 h2 h':Ev}{a x e:AC}{o:HO}
theorem Un.any(u:Un fs ex H H1 h h1){b:AC}{ob:Obj}(q:h.get? b=some ob)(n:H b=none)(hx:b∉ex):∃ sl,h1.get? b=some { ob with slots:=sl }:=by
 by_cases hb:b∈fs
 .exact u.slot b ob q n hb hx
 .exact#[ob.slots,u.keep b ob q n hb hx]
theorem Un.kept(k:∀ b u,h.get? b=some u->h'.get? b=some u):Un fs ex H H h h' :=
 #[λb ob q _ _ _=>k b ob q,λb ob q _ _ _=>#[ob.slots,k b ob q],λ_ _ _ n _=>n,λb ob q _=>#[ob,k b ob q],λ_ _ q=>q,λ_ _ _ q=>q,λ_ ps q=>#[#v[],by rw[q];simp]]
theorem Un.refl:Un fs ex H H h h:=Un.kept λ_ _ q=>q
theorem Un.laid(k:∀ b u,h.get? b=some u->h'.get? b=some u)(hp:h.objs.size<=a)(hn:H a=none):Un fs ex H (upd H a o) h h' where
 keep:=λb u q _ _ _=>k b u q
 slot:=λb u q _ _ _=>#[u.slots,k b u q]
 free:=λb u q n _=>by rw[ai (ZT (ZL (ZK q) hp))];exact n
 there:=λb u q _=>#[u,k b u q]
 t6:=λb xs q=>by rw[ai (au q hn)];exact q
 qM:=λb u xs q=>by rw[ai (au q hn)];exact q
 tL:=λb ps q=>#[#v[],by rw[ai (au q hn),q];simp]
theorem Un.write(mu:KO (H x))(he:e=x\/H e=some (.own x))(k:∀ b u,b≠e->h.get? b=some u->h'.get? b=some u)(LR:∃ u,h'.get? e=some u):Un fs ex H (upd H x o) h h':=by
 have hx:∀ b,H b=none->b≠x:=λb n z=>by subst z;rw[n] at mu;exact mu
 have hb:∀ b,H b=none->b≠e:=λb n z=>by
  subst z;rcases he with r | r
  .exact hx b n r
  .rw[n] at r;cases r
 have hm:∀ b u,H b=some u->¬ KO (some u)->b≠x:=λb u q nm z=>by subst z;rw[q] at mu;exact nm mu
 show#[λb u q n _ _=>k b u (hb b n) q,λb u q n _ _=>#[u.slots,k b u (hb b n) q],λb u q n _=>by rw[ai (hx b n)];exact n,λb u q _=>?_,
  λb xs q=>by rw[ai (hm b _ q λz=>z)];exact q,λb u xs q=>by rw[ai (hm b _ q λz=>z)];exact q,λb ps q=>#[#v[],by rw[ai (hm b _ q λz=>z),q];simp]]
 by_cases hbe:b=e
 .subst hbe;exact LR
 .exact#[u,k b u hbe q]
end
def QT(h:Ev)(H:Hp):!AC:=(List.range h.objs.size).filter λa=>(H a).isSome
def sZ(h:Ev)(H:Hp):Ev:=PySem.W.hideAll h (QT h H)
theorem AJ(h:Ev)(H:Hp):(sZ h H).objs.size=h.objs.size:=PySem.W.hideAll_size _ _
theorem B0{h:Ev}{H:Hp}{b:AC}{o:Obj}(e:h.get? b=some o)(n:H b=none):(sZ h H).get? b=some o :=
 PySem.W.hideAll_get _ e λhm=>by
  have q:(H b).isSome=true:=(List.mem_filter.mp hm).2;rw[n] at q;simp at q
theorem G5{h:Ev}{H:Hp}{b:AC}{o:Obj}(e:(sZ h H).get? b=some o):h.get? b=some o/\H b=none:=by
 have e':h.get? b=some o:=PySem.W.of_hideAll (QT h H) e;show#[e',?_];cases q:H b with
 | none=>rfl
 | some x =>
  have hm:b∈QT h H:=List.mem_filter.mpr #[List.mem_range.mpr (Ev.lt_size e'),by simp[q]];have z:(sZ h H).get? b=none:=PySem.W.hideAll_none (QT h H) hm;rw[z] at e;cases e
structure Mod(K:Frag)(mg:Str->Option AT)(base:Ev):Prop where
 Mb:K.In base
 glob:base.Ns IN mg
 blt:∃ mb,base.Ns builtinsNs mb/\∀ x:Str,x≠"__name__"->mb x=bootBuiltins x
 nolimit:base.NoLimit
structure Cx where
 prog:Fr
 w:Fa
 K:Frag
 mg:Str->Option AT
 base:Ev
 A:GE
 N:!Str
 s₀:Ch
 H₀:Hp
 env:Env
 outer:!Env
 stack:!Env
 ex:!AC
 fn:Str->Bool
 calm:Bool
 pn:abL
 xe:abK
def Bu(l:!Env):!AC:=l.filterMap (·.frame)
abbrev Cx.fs(X:Cx):!AC:=Bu X.outer
def LX(sc:Scope)(x:Str):Prop:=sc.names.lookup x=some .local\/sc.names.lookup x=some .cell\/sc.names.lookup x=some .free
def Loc(sc:Scope)(x:Str):Prop:=sc.names.lookup x=some .local\/sc.names.lookup x=some .cell
def Look(env:Env)(h:Ev)(m:Str->Option AT)(x:Str)(u:AT):Prop :=
 (env.kindOf x=some .local/\m x=some u)\/((env.kindOf x=some .cell\/env.kindOf x=some .free)/\∃ c,env.cells.lookup x=some c/\h.IsCell c (some u))
structure Cx.Ok(X:Cx):Prop where
 mod:Mod X.K X.mg X.base
 kind:X.env.scope.kind=.function
 glob:X.env.globals=IN
 blt:X.env.builtins=builtinsNs
 above:X.s₀.heap.objs.size<=X.env.locals
 inj:∀ x y c,X.env.cells.lookup x=some c->X.env.cells.lookup y=some c->x=y
 has:∀ x,(X.env.kindOf x=some .cell\/X.env.kindOf x=some .free)->∃ c,X.env.cells.lookup x=some c
 Ma:∀ x c,X.fn x=true->X.env.cells.lookup x=some c->X.s₀.heap.objs.size<=c
 hd:X.calm=true->X.A.handled=none
 frames:X.A.frames=some X.stack
 Nq:X.stack=X.outer\/(X.stack=X.env::X.outer/\X.env.frame=some X.env.locals)
 Kl:∀ b∈X.ex,b≠X.env.locals/\∀ x c,X.env.cells.lookup x=some c->c≠b
 bs:∀ b o,X.base.get? b=some o->X.s₀.heap.get? b=some o/\X.H₀ b=none
 EN:X.base.objs.size<=X.s₀.heap.objs.size
 AF:∀ b o,X.base.get? b=some o->b∉X.ex
 xK:∀ b∈X.ex,b∉X.fs
 lY:X.s₀.heap.FunFrames X.base X.outer
 Hy:∀ b∈X.fs,X.H₀ b=none
structure Inv(X:Cx)(Tl:abL)(O:!(Option V))(H:Hp)(s:Ch):Prop where
 ok:X.Ok
 os:s.os=X.s₀.os
 bare:AllBare s.gens
 base:Un X.fs X.ex X.H₀ H X.s₀.heap s.heap
 loc:∃ m,s.heap.Ns X.env.locals m/\∀ (i:Nat) (x:Str) (v:V),X.N[i]?=some x->O[i]?=some (some v)->LX X.env.scope x->∃ u,RelV v u/\Look X.env s.heap m x u
 cell:∀ x c,X.env.cells.lookup x=some c->∃ v,s.heap.IsCell c v
 free:H X.env.locals=none
 gq:∀ x c,X.env.cells.lookup x=some c->H c=none
 pin:∀ p∈X.pn++Tl,s.heap.get? p.1=some p.2/\H p.1=none/\p.1≠X.env.locals/\p.1∉X.fs/\∀ v,p.2.data≠.cell v
 aD:jY X.prog X.w H s.heap
 len:O.length=X.N.length
 tk:0 < s.toks
section
variable{X:Cx}{Tl:abL}{O:!(Option V)}{H H':Hp}{s:Ch}{h':Ev}
theorem Cx.Ok.UU(ok:X.Ok){b:AC}{o:Obj}(e:X.base.get? b=some o):b∉X.fs:=λhb=>by
 have:=(ok.lY.mem hb).1;rw[e] at this;cases this
theorem Inv.bs(I:Inv X Tl O H s):∀ b o,X.base.get? b=some o->s.heap.get? b=some o/\H b=none:=λb o e =>
 #[I.base.keep b o (I.ok.bs b o e).1 (I.ok.bs b o e).2 (I.ok.UU e) (I.ok.AF b o e),I.base.free b o (I.ok.bs b o e).1 (I.ok.bs b o e).2 (I.ok.AF b o e)]
theorem Inv.bk(I:Inv X Tl O H s):∀ b o,X.base.get? b=some o->s.heap.get? b=some o:=λb o e=>(I.bs b o e).1
theorem Inv.mod(I:Inv X Tl O H s):Mod X.K X.mg X.base:=I.ok.mod
theorem Inv.iW(I:Inv X Tl O H s):X.K.In s.heap:=I.ok.mod.Mb.keeps I.bk
theorem Inv.lt(I:Inv X Tl O H s):X.env.locals < ↑s:=let #[_,hn,_]:=I.loc;hn.lt
theorem Inv.sz(I:Inv X Tl O H s):X.s₀.heap.objs.size<=↑s:=ZH I.ok.above (abp I.lt)
theorem Inv.ML(I:Inv X Tl O H s){a:AC}(h:↑s<=a):a∉X.fs:=λhb=>by
 let(_,o,ho,_):=I.ok.lY.mem hb;exact absurd (ZL (ZK ho) (ZH I.sz h)) (aaY _)
theorem Inv.FV(I:Inv X Tl O H s):∀ x c,X.env.cells.lookup x=some c->c≠X.env.locals:=λx c e z=>by
 let(v,o,ho,hd):=I.cell x c e;let(m,(o',es,ep,yt,hd',_),_):=I.loc;rw[z,yt] at ho;cases ho;rw[hd'] at hd;cases hd
theorem Inv.lY(I:Inv X Tl O H s):s.heap.FunFrames X.base X.outer:=by
 have all:∀ (l:!Env),(∀ b∈Bu l,b∈X.fs)->X.s₀.heap.FunFrames X.base l->s.heap.FunFrames X.base l:=by
  intro l
  induction l with
  | nil=>intro _ _;trivial
  | cons env r ih =>
   intro hs hl;let(hk,(L,o,hf,hn,ho,hd),hr):=hl;have hL:L∈X.fs:=hs L (by unfold Bu;rw[List.filterMap_cons,hf];exact List.mem_cons_self);let(sl,e):=I.base.slot L o ho (I.ok.Hy L hL) hL λz=>I.ok.xK L z hL;exact#[hk,#[L,_,hf,hn,e,hd],ih (λb hb=>hs b (by unfold Bu;rw[List.filterMap_cons,hf];exact List.mem_cons_of_mem _ hb)) hr]
 exact all X.outer (λ_ hb=>hb) I.ok.lY
theorem Inv.stack(I:Inv X Tl O H s):s.heap.FunFrames X.base X.stack:=by
 rcases I.ok.Nq with e | ⟨e,hf⟩
 .rw[e];exact I.lY
 .rw[e];let(m,hn,_):=I.loc;show .cons (by rw[I.ok.kind];decide) hf hn ?_ I.lY;exact Ev.get?_none_of_le (ZH I.ok.EN I.ok.above)
theorem Inv.ym(I:Inv X Tl O H s):∀ b∈Bu X.stack,b∈X.env.locals::X.fs:=λb hb=>by
 rcases I.ok.Nq with e | ⟨e,hf⟩
 .rw[e] at hb;exact Zw _ hb
 .rw[e] at hb;unfold Bu at hb;rw[abi,hf] at hb;exact hb
theorem Inv.sX(I:Inv X Tl O H s):∀ b∈Bu X.stack,H b=none:=λb hb=>by
 rcases ZD.mp (I.ym b hb) with e | hb
 .rw[e];exact I.free
 .let(_,o,ho,_):=I.ok.lY.mem hb;exact I.base.free b o ho (I.ok.Hy b hb) λz=>I.ok.xK b z hb
theorem Inv.step{g':Array GenState}{t':Nat}{d':Drawn}{ch:!AC}(I:Inv X Tl O H s)(uI:∀ b∈ch,(b∈X.ex\/X.s₀.heap.objs.size<=b)/\b≠X.env.locals/\(∀ x c,X.env.cells.lookup x=some c->c≠b)/\∀ p∈X.pn++Tl,p.1≠b)(keep:∀ b o,b≠X.env.locals->b∉X.fs->b∉ch->s.heap.get? b=some o->H b=none->h'.get? b=some o)(slot:∀ b o,b≠X.env.locals->b∈X.fs->b∉ch->s.heap.get? b=some o->H b=none->∃ sl,h'.get? b=some { o with slots:=sl })(free:∀ b o,b∉ch->s.heap.get? b=some o->H b=none->H' b=none)(there:∀ b o,b∉ch->s.heap.get? b=some o->∃ o',h'.get? b=some o')(t6:∀ b xs,H b=some (.tup xs)->H' b=some (.tup xs))(qM:∀ b o u,H b=some (.vi o u)->H' b=some (.vi o u))(tL:∀ b ps,H b=some (.Ly ps)->∃ more,H' b=some (.Ly (ps++more)))(ns:∀ m,s.heap.Ns X.env.locals m->h'.Ns X.env.locals m)(aD:jY X.prog X.w H' h')(hg:AllBare g')(ht:0 < t') :
  Inv X Tl O H' { s with heap:=h',gens:=g',drawn:=d',toks:=t' }:=by
 have neL:∀ b o,X.s₀.heap.get? b=some o->b≠X.env.locals:=λb o e=>ZT (ZL (ZK e) I.ok.above);have neC:∀ b o,X.s₀.heap.get? b=some o->b∉X.ex->b∉ch:=λb o e hx hb=>by
  rcases (uI b hb).1 with z | z
  .exact hx z
  .exact absurd (ZL (ZK e) z) (aaY _)
 have cellK:∀ x c,X.env.cells.lookup x=some c->∀ v,s.heap.IsCell c v->h'.IsCell c v:=λx c e v z1r=>by
  let(o,ho,hd):=z1r;have nch:c∉ch:=λz=>(uI c z).2.2.1 x c e U;by_cases hc:c∈X.fs
  .let(sl,q):=slot c o (I.FV x c e) hc nch ho (I.gq x c e);exact#[_,q,hd]
  .exact#[o,keep c o (I.FV x c e) hc nch ho (I.gq x c e),hd]
 show#[I.ok,I.os,hg,#[λb o e n hb hx=>?_,λb o e n hb hx=>?_,λb o e n hx=>?_,λb o e hx=>?_,λb xs e=>t6 b xs (I.base.t6 b xs e),λb o xs e=>qM b o xs (I.base.qM b o xs e),λb ps e=>?_],?_,λx c e=>?_,?_,λx c e=>?_,λp hp=>?_,aD,I.len,ht]
 .exact keep b o (neL b o e) hb (neC b o e hx) (I.base.keep b o e n hb hx) (I.base.free b o e n hx)
 .let(sl,e1):=I.base.slot b o e n hb hx;let(sl',e2):=slot b _ (neL b o e) hb (neC b o e hx) e1 (I.base.free b o e n hx);exact#[sl',e2]
 .let(o',e1):=I.base.there b o e hx;exact free b o' (neC b o e hx) e1 (I.base.free b o e n hx)
 .let(o',e1):=I.base.there b o e hx;exact there b o' (neC b o e hx) e1
 .let(m1,e1):=I.base.tL b ps e;let(m2,e2):=tL b _ e1;exact#[m1++m2,by rw[e2,Array.append_assoc]]
 .let(m,hn,hl):=I.loc;show#[m,ns m hn,λi x v e1 e2 e3=>?_];let(u,r,l):=hl i x v e1 e2 e3;show#[u,r,?_];rcases l with l | ⟨k,c,e,z⟩
  .exact .inl l
  .exact .inr #[k,c,e,cellK x c e _ z]
 .let(v,z):=I.cell x c e;exact#[v,cellK x c e v z]
 .let(m,(o,_,_,ho,_),_):=I.loc;exact free _ o (λz=>(uI _ z).2.1 U) ho I.free
 .let(v,o,ho,hd):=I.cell x c e;exact free c o (λz=>(uI c z).2.2.1 x c e U) ho (I.gq x c e)
 .let(e,n,ne,nf,d):=I.pin p hp;have nch:p.1∉ch:=λz=>(uI p.1 z).2.2.2 p hp U;exact#[keep p.1 p.2 ne nf nch e n,free p.1 p.2 nch e n,ne,nf,d]
theorem Inv.un{t':Nat}(I:Inv X Tl O H s)(u:Un X.fs [] H H' s.heap h')(aD:jY X.prog X.w H' h')(ht:0 < t':=by first | exact aai _ | exact Inv.tk (by assumption) | assumption):Inv X Tl O H' { s with heap:=h',toks:=t' }:=by
 let(m,(o,es,ep,ho,r),_):=id I.loc;let(sl,hL):=u.any ho I.free (by simp);exact I.step (g':=s.gens) (d':=s.drawn) (ch:=[]) (λ_ z=>nomatch z) (λb o _ hb _ e n=>u.keep b o e n hb (by simp)) (λb o _ hb _ e n=>u.slot b o e n hb (by simp)) (λb o _ e n=>u.free b o e n (by simp)) (λb o _ e=>u.there b o e (by simp)) u.t6 u.qM u.tL (λm' hm=>by
  let(o',es',ep',yt,r'):=hm;rw[ho] at yt;cases yt;exact#[_,es',ep',hL,r']) aD I.bare ht
theorem Inv.call{g':Array GenState}{t':Nat}{d':Drawn}{ch:!AC}(I:Inv X Tl O H s)(u:Un (Bu X.stack) ch H H' s.heap h')(aD:jY X.prog X.w H' h')(hg:AllBare g')(uI:∀ b∈ch,(b∈X.ex\/X.s₀.heap.objs.size<=b)/\b≠X.env.locals/\(∀ x c,X.env.cells.lookup x=some c->c≠b)/\∀ p∈X.pn++Tl,p.1≠b)(ht:0 < t') :
  Inv X Tl O H' { s with heap:=h',gens:=g',drawn:=d',toks:=t' }:=by
 let(m,(o,es,ep,ho,r),_):=id I.loc;let(sl,hL):=u.any ho I.free λz=>(uI _ z).2.1 U;exact I.step (ch:=ch) uI (λb o hL hb hc e n=>u.keep b o e n (λz=>(ZD.mp (I.ym b z)).elim hL hb) hc) (λb o _ _ hc e n=>u.any e n hc) (λb o hc e n=>u.free b o e n hc) (λb o hc e=>u.there b o e hc) u.t6 u.qM u.tL (λm' hm=>by
  let(o',es',ep',yt,r'):=hm;rw[ho] at yt;cases yt;exact#[_,es',ep',hL,r']) aD hg ht
theorem Inv.turned{t':Nat}{it:AC}(I:Inv X Tl O H s)(k:∀ b o,b≠it->s.heap.get? b=some o->h'.get? b=some o)(hn:H it=none)(hL:it≠X.env.locals)(h1:it∈X.ex\/X.s₀.heap.objs.size<=it)(h2:∀ x c,X.env.cells.lookup x=some c->c≠it)(h3:∀ p∈X.pn++Tl,p.1≠it)(ht:0 < t':=by first | exact aai _ | exact Inv.tk (by assumption) | assumption):Inv X Tl O H { s with heap:=h',toks:=t' }:=by
 have nit:∀ b u,H b=some u->b≠it:=λb u e z=>by rw[z,hn] at e;cases e
 show I.step (g':=s.gens) (d':=s.drawn) (ch:=[it]) (λb hb=>?_) (λb o _ _ hc e _=>k b o (λz=>hc (by simp[z])) e) (λb o _ _ hc e _=>#[o.slots,k b o (λz=>hc (by simp[z])) e]) (λ_ _ _ _ n=>n)
  (λb o hc e=>#[o,k b o (λz=>hc (by simp[z])) e]) (λ_ _ e=>e) (λ_ _ _ e=>e) (λb ps e=>#[#v[],by rw[e];simp]) (λm hm=>?_) (λb u e=>?_) I.bare ht
 .have e:b=it:=by simpa using hb
  subst e;exact#[h1,hL,h2,h3]
 .let(o,es,ep,ho,r):=hm;exact#[o,es,ep,k _ o (Ne.symm hL) ho,r]
 .refine (I.aD b u e).sv (λc v hc q=>k c v ?_ q) (λ_ q=>q) λ_ _ q=>q;rcases hc with z | z
  .rw[z];exact nit b u e
  .exact nit c _ z
theorem Inv.tok(I:Inv X Tl O H s)(t:Nat)(ht:0 < t:=by first | exact aai _ | exact Inv.tk (by assumption) | assumption):Inv X Tl O H { s with toks:=t }:=I.un (h':=s.heap) (t':=t) Un.refl I.aD ht
theorem Inv.kept{t':Nat}(I:Inv X Tl O H s)(k:∀ b u,s.heap.get? b=some u->h'.get? b=some u)(ht:0 < t':=by first | exact aai _ | exact Inv.tk (by assumption) | assumption):Inv X Tl O H { s with heap:=h',toks:=t' }:=I.un (Un.kept k) (I.aD.kept k) ht
theorem Inv.laid{a:AC}{o:HO}{t':Nat}(I:Inv X Tl O H s)(k:∀ b u,s.heap.get? b=some u->h'.get? b=some u)(hp:↑s<=a)(new:cy X.prog X.w (upd H a o) h' a o)(ht:0 < t':=by first | exact aai _ | exact Inv.tk (by assumption) | assumption) :
  Inv X Tl O (upd H a o) { s with heap:=h',toks:=t' }:=I.un (Un.laid k hp (I.aD.fresh hp)) (I.aD.laid k hp new) ht
theorem Inv.write{x e:AC}{o:HO}{t':Nat}(I:Inv X Tl O H s)(mu:KO (H x))(he:e=x\/H e=some (.own x))(k:∀ b u,b≠e->s.heap.get? b=some u->h'.get? b=some u)(LR:∃ u,h'.get? e=some u)(new:cy X.prog X.w (upd H x o) h' x o)(ht:0 < t':=by first | exact aai _ | exact Inv.tk (by assumption) | assumption):Inv X Tl O (upd H x o) { s with heap:=h',toks:=t' }:=I.un (Un.write mu he k LR) (I.aD.write mu he k LR new) ht
theorem Inv.weak{O':!(Option V)}(I:Inv X Tl O H s)(hl:O'.length=O.length)(w:∀ (i:Nat) v,O'[i]?=some (some v)->O[i]?=some (some v)):Inv X Tl O' H s :=
 #[I.ok,I.os,I.bare,I.base,let #[m,hn,hl']:=I.loc;#[m,hn,λi x v e1 e2 e3=>hl' i x v e1 (w i v e2) e3],I.cell,I.free,I.gq,I.pin,I.aD,hl.trans I.len,I.tk]
theorem Inv.yV{kX:abL}(I:Inv X Tl O H s)(h:∀ p∈kX,s.heap.get? p.1=some p.2/\H p.1=none/\p.1≠X.env.locals/\p.1∉X.fs/\∀ v,p.2.data≠.cell v):Inv X kX O H s :=
 #[I.ok,I.os,I.bare,I.base,I.loc,I.cell,I.free,I.gq,λp hp=>(ZR.mp hp).elim (λz=>I.pin p (Z2 _ z)) (h p),I.aD,I.len,I.tk]
theorem qt{N:!Str}(hN:N.Nodup){i j:Nat}{x:Str}(a:N[i]?=some x)(b:N[j]?=some x):i=j:=by
 let(h1,e1):=ZF.mp a;let(h2,e2):=ZF.mp b;exact (List.getElem_inj hN).mp (e1.trans e2.symm)
abbrev abQ (X:Cx)(x:Str):Prop:=X.fn x=true\/X.env.scope.names.lookup x=some .local
theorem mV{M:Model}{A:GE}{E:abK}{i:Nat}{x:Str}{v:V}{u:AT}{Q:Unit->Ch->Prop}(I:Inv X Tl O H s)(hN:X.N.Nodup)(hi:X.N[i]?=some x)(hx:Loc X.env.scope x)(r:RelV v u)(h:∀ s',Inv X Tl (O.set i (some v)) H s'->(∃ a,Ev.SameBut a s.heap s'.heap/\(a=X.env.locals\/X.env.cells.lookup x=some a))->Q Unit.unit s')(hf:abQ X x:=by ac_nf):EQ M A (storeName X.env x u) Q E s:=by
 let(m,hn,hl):=id I.loc;have hcls:(X.env.scope.kind == .class||(X.env.scope.kind == .module&&X.env.locals != X.env.globals))=false:=by rw[I.ok.kind];rfl
 have hiO:i < O.length:=by rw[I.len];exact (ZF.mp hi).1
 have FV:=I.FV;have tracked:∀ {a:AC} {h':Ev},(∃ o,s.heap.get? a=some o/\H a=none)->Ev.SameBut a s.heap h'->jY X.prog X.w H h':=λ{a h'} ha hs b ob e=>by
  let(_,_,hfree):=ha;show (I.aD b ob e).sv (λc w' hc q=>(hs.2 c ?_).trans q) (λ_ q=>q) λ_ _ q=>q;rintro rfl;rcases hc with rfl | hc
  .rw[hfree] at e;cases e
  .rw[hfree] at hc;cases hc
 rcases hx with hk | hk
 .refine wpAny_storeName_local hk hn (λh' hn' hs=>?_) hcls;let(oL,_,_,hoL,_):=id hn;show h { s with heap:=h',toks:=s.toks+1 } #[I.ok,I.os,I.bare,#[λb o e n hb hx=>?_,λb o e n hb hx=>?_,I.base.free,λb o e hx=>?_,I.base.t6,I.base.qM,I.base.tL],#[_,hn',λj y v' e1 e2 e3=>?_],λy c e=>?_,I.free,I.gq,λp hp=>?_,tracked #[oL,hoL,I.free] hs,by simpa using I.len,Nat.succ_pos _] #[_,hs,.inl U]
  .exact (hs.2 b (ZT (ZL (ZK e) I.ok.above))).trans (I.base.keep b o e n hb hx)
  .let(sl,e1):=I.base.slot b o e n hb hx;exact#[sl,(hs.2 b (ZT (ZL (ZK e) I.ok.above))).trans e1]
  .let(o',e1):=I.base.there b o e hx;exact#[o',(hs.2 b (ZT (ZL (ZK e) I.ok.above))).trans e1]
  .by_cases hj:j=i
   .subst hj;rw[hi] at e1;cases e1;rw[aae hiO] at e2;cases e2;exact#[u,r,.inl #[hk,by simp]]
   .rw[ZU (Ne.symm hj)] at e2;let(u',r',q):=hl j y v' e1 e2 e3;show#[u',r',?_];rcases q with ⟨k,e⟩ | ⟨k,c,e,z⟩
    .refine .inl #[k,?_];have:y≠x:=λe=>hj (qt hN e1 (e▸hi));simp[this,e]
    .exact .inr #[k,c,e,z.sameBut hs (FV y c e)]
  .let(w',z):=I.cell y c e;exact#[w',z.sameBut hs (FV y c e)]
  .let(e,n,ne,nf,d):=I.pin p hp;exact#[(hs.2 p.1 ne).trans e,n,ne,nf,d]
 .have hfn:X.fn x=true:=by
   rcases hf with z | z
   .exact z
   .rw[z] at hk;cases hk
  let(c,hc):=I.ok.has x (.inl hk);let(w',z):=I.cell x c hc;show wpAny_storeName_cell I.ok.kind hk hc z (λh' hc' hs=>?_);let(oc,hoc,hocd):=id z;show h { s with heap:=h' } #[I.ok,I.os,I.bare,#[λb o e n hb hx=>?_,λb o e n hb hx=>?_,I.base.free,λb o e hx=>?_,I.base.t6,I.base.qM,I.base.tL],#[m,hn.sameBut hs (Ne.symm (FV x c hc)),λj y v' e1 e2 e3=>?_],λy c' e=>?_,I.free,I.gq,λp hp=>?_,tracked #[oc,hoc,I.gq x c hc] hs,by simpa using I.len,I.tk] #[c,hs,.inr hc]
  .exact (hs.2 b (ZT (ZL (ZK e) (I.ok.Ma x c hfn hc)))).trans (I.base.keep b o e n hb hx)
  .let(sl,e1):=I.base.slot b o e n hb hx;exact#[sl,(hs.2 b (ZT (ZL (ZK e) (I.ok.Ma x c hfn hc)))).trans e1]
  .let(o',e1):=I.base.there b o e hx;exact#[o',(hs.2 b (ZT (ZL (ZK e) (I.ok.Ma x c hfn hc)))).trans e1]
  .by_cases hj:j=i
   .subst hj;rw[hi] at e1;cases e1;rw[aae hiO] at e2;cases e2;exact#[u,r,.inr #[.inl hk,c,hc,hc']]
   .rw[ZU (Ne.symm hj)] at e2;let(u',r',q):=hl j y v' e1 e2 e3;show#[u',r',?_];rcases q with q | ⟨k,c',e,z'⟩
    .exact .inl q
    .refine .inr #[k,c',e,z'.sameBut hs ?_];rintro rfl;exact hj (qt hN e1 (I.ok.inj _ _ _ e hc▸hi))
  .by_cases hcc:c'=c
   .subst hcc;exact#[_,hc']
   .let(w2,z2):=I.cell y c' e;exact#[w2,z2.sameBut hs hcc]
  .let(e,n,ne,nf,d):=I.pin p hp;show#[(hs.2 p.1 ?_).trans e,n,ne,nf,d];intro q;rw[q,hoc] at e;have q':oc=p.2:=Z7 e;exact d w' (by rw[<- q'];exact hocd)
theorem pY{M:Model}{A:GE}{E:abK}{i:Nat}{x:Str}{v:V}{u:AT}{Q:Unit->Ch->Prop}(I:Inv X Tl O H s)(hN:X.N.Nodup)(hi:X.N[i]?=some x)(hx:Loc X.env.scope x)(r:RelV v u)(h:∀ s',Inv X Tl (O.set i (some v)) H s'->Q Unit.unit s')(hf:abQ X x:=by ac_nf):EQ M A (storeName X.env x u) Q E s :=
 mV I hN hi hx r (λs' I' _=>h s' I') hf
theorem Inv.yB{s':Ch}{ch:!AC}(I:Inv X Tl O H s)(ho:s'.os=s.os)(u:Un (Bu X.stack) ch H H' s.heap s'.heap)(aD:jY X.prog X.w H' s'.heap)(hg:AllBare s'.gens)(uI:∀ b∈ch,(b∈X.ex\/X.s₀.heap.objs.size<=b)/\b≠X.env.locals/\(∀ x c,X.env.cells.lookup x=some c->c≠b)/\∀ p∈X.pn++Tl,p.1≠b)(ht:0 < s'.toks:=by first | exact Inv.tk (by assumption) | assumption):Inv X Tl O H' s':=by
 let(h',g',d',t',o'):=s';have e:o'=s.os:=ho;subst e;exact I.call (g':=g') (t':=t') (d':=d') u aD hg uI ht
end
abbrev XK:=AT->Option AC->Hp->Prop
abbrev St:=!(Option V)
abbrev VK:=V->Hp->Prop
abbrev TE:=St->Hp->VK->Prop
abbrev TT:=St->Hp->(Bool->Hp->Prop)->Prop
abbrev TA:=St->Hp->(!V->Hp->Prop)->Prop
structure Ends where
 nx:St->Hp->Prop
 rt:VK
 bk:St->Hp->Prop:=λ_ _=>False
 ct:St->Hp->Prop:=λ_ _=>False
abbrev TS:=Ends->St->Hp->Prop
def EP(X:Cx)(Tl:abL)(O:St)(Q:VK)(u:AT)(s':Ch):Prop:=∃ v H',Inv X Tl O H' s'/\RelV v u/\Q v H'
def TP(X:Cx)(Tl:abL)(O:St)(Q:Bool->Hp->Prop)(b:Bool)(s':Ch):Prop:=∃ H',Inv X Tl O H' s'/\Q b H'
def AP(X:Cx)(Tl:abL)(O:St)(Q:!V->Hp->Prop)(us:!AT)(s':Ch):Prop:=∃ vs H',Inv X Tl O H' s'/\Vals vs us/\Q vs H'
def SP(X:Cx)(Tl:abL)(D:Ends)(f:Flow)(s':Ch):Prop :=
 match f with
 | .next=>∃ O' H',Inv X Tl O' H' s'/\D.nx O' H'
 | .brk=>∃ O' H',Inv X Tl O' H' s'/\D.bk O' H'
 | .cont=>∃ O' H',Inv X Tl O' H' s'/\D.ct O' H'
 | .ret u=>∃ v O' H',Inv X Tl O' H' s'/\RelV v u/\D.rt v H'
def PE(X:Cx)(e:Da)(t:TE):Prop :=
 ∀ (Tl:abL) (s:Ch) (O:St) (H:Hp) (Q:VK),Inv X Tl O H s->t O H Q->EQ (model X.prog X.w) X.A (eval e X.env) (EP X Tl O Q) X.xe s
def PT(X:Cx)(e:Da)(t:TT):Prop :=
 ∀ (Tl:abL) (s:Ch) (O:St) (H:Hp) (Q:Bool->Hp->Prop),Inv X Tl O H s->t O H Q->EQ (model X.prog X.w) X.A (isTrue e X.env (eval e X.env)) (TP X Tl O Q) X.xe s
def PW(X:Cx)(e:Da)(t:TT):Prop :=
 ∀ (whole:Sem AT) (Tl:abL) (s:Ch) (O:St) (H:Hp) (Q:Bool->Hp->Prop),Inv X Tl O H s->t O H Q->EQ (model X.prog X.w) X.A (isTrue e X.env whole) (TP X Tl O Q) X.xe s
theorem PW.pt{X:Cx}{e:Da}{t:TT}(h:PW X e t):PT X e t:=h _
def PA(X:Cx)(es:!Da)(t:TA):Prop :=
 ∀ (pos:Pos) (Tl:abL) (s:Ch) (O:St) (H:Hp) (Q:!V->Hp->Prop),Inv X Tl O H s->t O H Q->EQ (model X.prog X.w) X.A (spliced (KB pos (Go es X.env))) (AP X Tl O Q) X.xe s
def PS(X:Cx)(st:Fk)(t:TS):Prop :=
 ∀ (Tl:abL) (s:Ch) (O:St) (H:Hp) (D:Ends),Inv X Tl O H s->t D O H->EQ (model X.prog X.w) X.A (exec st X.env) (SP X Tl D) X.xe s
def nX(X:Cx)(st:!Fk)(t:TS):Prop :=
 ∀ (Tl:abL) (s:Ch) (O:St) (H:Hp) (D:Ends),Inv X Tl O H s->t D O H->EQ (model X.prog X.w) X.A (execs st X.env) (SP X Tl D) X.xe s
theorem bQ{α:Type}{t:Sem α}{Q Q':α->Ch->Prop}{M:Model}{A:GE}{E:abK}{s:Ch}(h:EQ M A t Q E s)(hQ:∀ a s,Q a s->Q' a s):EQ M A t Q' E s:=KM h hQ λ_ _ x=>x
theorem el2{α β:Type}{P Q R:α->β->Prop}{C:Prop}(h:∃ a b,P a b/\Q a b/\R a b)(k:∀ a b,P a b->Q a b->R a b->C):C:=h.elim λa h=>h.elim λb h=>k a b h.1 h.2.1 h.2.2
section
variable{X:Cx}
def bO(i:Nat):TE:=λO H Q=>∃ v,O[i]?=some (some v)/\Q v H
def tC(v:V):TE:=λ_ H Q=>Q v H
theorem xP{i:Nat}{x:Str}{pos:Pos}(hN:X.N[i]?=some x)(hv:LX X.env.scope x)(hd: ~~~(abP x))(rB: ~~~((x == ("__classdict__":Str))=false)):PE X (.Name x pos) (bO i):=by
 intro Tl s O H Q I h;let(v,e,h):=h;let(m,hn,hl):=I.loc;let(u,r,l):=hl i x v hN e hv;have fin:EP X Tl O Q u s:=#[v,H,I,r,h];rcases l with ⟨hk,hm⟩ | ⟨hk,c,hc,hcell⟩
 .exact wpAny_Name (wpAny_loadName_local I.ok.kind hk hn hm fin) hd
 .rcases hk with hk | hk
  .exact wpAny_Name (wpAny_loadName_cell I.ok.kind hk hc hcell fin) hd
  .exact wpAny_Name (wpAny_loadName_free I.ok.kind hk hc hcell fin rB) hd
theorem bg{i j pos}:PE X (.Constant (.int i) j pos) (tC (.int i)):=λ_ _ _ H _ I h=>wpAny_Constant_int #[.int i,H,I.tok _,#[_,U],h]
theorem Cn{b j pos}:PE X (.Constant (.bool b) j pos) (tC (.bl b)):=λ_ _ _ H _ I h=>Constant_bool #[.bl b,H,I,U,h]
theorem Jb{j pos}:PE X (.Constant .none j pos) (tC .bX):=λ_ _ _ H _ I h=>Constant_none #[.bX,H,I,U,h]
theorem bP{x j pos}:PE X (.Constant (.str x) j pos) (tC (.str x)):=λ_ _ _ H _ I h=>Calls.Constant_str #[.str x,H,I.tok _,#[#[_,aah I.tk],U],h]
def Gl(X:Cx)(x:Str):Prop:=X.env.kindOf x=some .globalImplicit
theorem jD{E:abK}{Tl:abL}{s:Ch}{O:St}{H:Hp}{x:Str}{u:AT}{pos:Pos}{Q:abK}(I:Inv X Tl O H s)(hg:Gl X x)(hm:X.mg x=some u)(h:Q u s)(hd: ~~~(abP x)):EQ (model X.prog X.w) X.A (eval (.Name x pos) X.env) Q E s :=
 Calls.Name_function_global I.ok.kind hg (Calls.loadGlobal_global (by rw[I.ok.glob];exact I.mod.glob.keeps I.bk) hm h) hd
theorem kf{E:abK}{Tl:abL}{s:Ch}{O:St}{H:Hp}{x:Str}{u:AT}{pos:Pos}{Q:abK}(I:Inv X Tl O H s)(hg:Gl X x)(hm:X.mg x=none)(hv:bootBuiltins x=some u)(h:Q u s)(hn: ~~~(x≠"__name__"))(hd: ~~~(abP x)):EQ (model X.prog X.w) X.A (eval (.Name x pos) X.env) Q E s:=by
 let(mb,h1,h2):=I.mod.blt;exact Calls.Name_function_global I.ok.kind hg (Calls.loadGlobal_builtin (by rw[I.ok.glob];exact I.mod.glob.keeps I.bk) hm (by rw[I.ok.blt];exact h1.keeps I.bk) ((h2 x hn).trans hv) h) hd
theorem dA{x:Str}{v:V}{u:AT}{pos:Pos}(hg:Gl X x)(hm:X.mg x=some u)(r:RelV v u)(hd: ~~~(abP x)):PE X (.Name x pos) (tC v) :=
 λ_ _ _ H _ I h=>jD I hg hm #[v,H,I,r,h] hd
theorem cm{x:Str}{v:V}{u:AT}{pos:Pos}(hg:Gl X x)(hm:X.mg x=none)(hv:bootBuiltins x=some u)(r:RelV v u)(hn: ~~~(x≠"__name__"))(hd: ~~~(abP x)):PE X (.Name x pos) (tC v) :=
 λ_ _ _ H _ I h=>kf I hg hm hv #[v,H,I,r,h] hn hd
variable{a b:Da}{ta tb:TE}{pos:Pos}
def tB(t:TE):TT:=λO H Q=>t O H λx H1=>∃ c,x=.bl c/\Q c H1
theorem ED{e:Da}{t:TE}(h:PE X e t)(he:∀ whole,isTrue e X.env whole=(do let v <- whole;standAt e.pos;holding [v] (truthy v)):=by intro _;rfl):PT X e (tB t):=by
 intro Tl s O H Q I hw;show isTrue_plain (bQ (h Tl s O H _ I hw) λv s1 zz=>el2 zz λx H1 I1 r1 q1=>?_) (he _);let(d,rfl,q):=q1;cases r1;exact wpAny_truthy_bool #[H1,I1,q]
variable{tA QI:TT}{rest:!Da}
def MM(t u:TT):TT:=λO H Q=>t O H λc H1=>if c=true then u O H1 Q else Q false H1
def Zl(t u:TT):TT:=λO H Q=>t O H λc H1=>if c=true then Q true H1 else u O H1 Q
def Sb(t:TT):TT:=λO H Q=>t O H λc H1=>Q (not c) H1
theorem pw_and1(ha:PT X a tA):PW X (.BoolOp .And [a] pos) tA:=by
 intro wh Tl s O H Q I h;show isTrue_and (bQ (ha Tl s O H Q I h) λc s1 e=>?_);cases c with
 | true=>exact isTrue_and_nil e
 | false=>exact e
theorem pw_or1(ha:PT X a tA):PW X (.BoolOp .Or [a] pos) tA:=by
 intro wh Tl s O H Q I h;show isTrue_or (bQ (ha Tl s O H Q I h) λc s1 e=>?_);cases c with
 | false=>exact isTrue_or_nil e
 | true=>exact e
theorem pw_and(ha:PT X a tA)(hb:PW X (.BoolOp .And (b::rest) pos) QI):PW X (.BoolOp .And (a::b::rest) pos) (MM tA QI):=by
 intro wh Tl s O H Q I h;show isTrue_and (bQ (ha Tl s O H _ I h) λc s1 #[H1,I1,q1]=>?_);cases c with
 | true=>exact hb wh Tl s1 O H1 Q I1 q1
 | false=>exact#[H1,I1,q1]
theorem pw_or(ha:PT X a tA)(hb:PW X (.BoolOp .Or (b::rest) pos) QI):PW X (.BoolOp .Or (a::b::rest) pos) (Zl tA QI):=by
 intro wh Tl s O H Q I h;show isTrue_or (bQ (ha Tl s O H _ I h) λc s1 #[H1,I1,q1]=>?_);cases c with
 | true=>exact#[H1,I1,q1]
 | false=>exact hb wh Tl s1 O H1 Q I1 q1
theorem xO(ha:PT X a tA):PT X (.UnaryOp .Not a pos) (Sb tA):=by
 intro Tl s O H Q I h;exact isTrue_not (ha Tl s O H (λc H1=>Q (not c) H1) I h)
def OQ(ta tb:TE):TE:=λO H Q=>ta O H λx H1=>∃ c,x=.bl c/\if c=true then tb O H1 Q else Q (.bl false) H1
def TC(ta tb:TE):TE:=λO H Q=>ta O H λx H1=>∃ c,x=.bl c/\if c=true then Q (.bl true) H1 else tb O H1 Q
def Mt(ta:TE):TE:=λO H Q=>ta O H λx H1=>∃ c,x=.bl c/\Q (.bl (not c)) H1
theorem ur{op}{t:TE}(h:PE X a t):PE X (.BoolOp op [a] pos) t:=λTl s O H Q I hw=>BoolOp_one (h Tl s O H Q I hw)
theorem xT(ha:PE X a ta)(hb:PE X (.BoolOp .And (b::rest) pos) tb):PE X (.BoolOp .And (a::b::rest) pos) (OQ ta tb):=by
 intro Tl s O H Q I h;show BoolOp_and (bQ (ha Tl s O H _ I h) λv s1 zz=>el2 zz λx H1 I1 r1 q1=>?_);let(c,rfl,q1):=q1;cases r1;show wpAny_truthy_bool ?_;cases c with
 | true=>exact hb Tl s1 O H1 Q I1 q1
 | false=>exact#[.bl false,H1,I1,U,q1]
theorem IC(ha:PE X a ta)(hb:PE X (.BoolOp .Or (b::rest) pos) tb):PE X (.BoolOp .Or (a::b::rest) pos) (TC ta tb):=by
 intro Tl s O H Q I h;show BoolOp_or (bQ (ha Tl s O H _ I h) λv s1 z0q=>?_);let(x,H1,I1,r1,q1):=z0q;let(c,rfl,q1):=q1;cases r1;show wpAny_truthy_bool ?_;cases c with
 | false=>exact hb Tl s1 O H1 Q I1 q1
 | true=>exact#[.bl true,H1,I1,U,q1]
theorem Lg(ha:PE X a ta):PE X (.UnaryOp .Not a pos) (Mt ta):=by
 intro Tl s O H Q I h;show UnaryOp_ (bQ (ha Tl s O H _ I h) λv s1 zz=>el2 zz λx H1 I1 r1 q1=>?_);let(c,rfl,q1):=q1;cases r1;exact not_of (wpAny_truthy_bool #[.bl (not c),H1,I1,U,q1])
end
def dM(K:Frag)(H:Hp)(a:AC)(xs:!V):Prop :=
 Rd H a (.lst xs) \/
  ∃ (o:Obj) (its:Array AT) (n:Nat),K.lookup a=some o/\o.cls=.type "list"/\o.dict=none/\o.data=.seq its n/\its.size<=FB/\Vals xs its.toList
def ja(K:Frag)(H:Hp)(a:AC)(xs:!V):Prop :=
 Rd H a (.tup xs) \/
  ∃ (o:Obj) (its:Array AT) (n:Nat),K.lookup a=some o/\o.cls=.type "tuple"/\o.data=.seq its n/\its.size<=FB/\Vals xs its.toList
def RV:AT->Option V
 | .none=>some .bX
 | .bool b=>some (.bl b)
 | .int i _=>some (.int i)
 | .str x _=>some (.str x)
 | .bytes b _=>some (.wG b)
 | .float b _=>some (.Mg b)
 | .ref a=>some (.ref a)
 | .type n=>some (.ty n)
 | _=>none
theorem RelV.abs{x:V}{u:AT}(r:RelV x u):RV u=some x:=by
 cases x with
 | bX=>cases r;rfl
 | bl _=>cases r;rfl
 | int _=>let(t,rfl):=r;rfl
 | str _=>let(t,rfl):=r;rfl
 | wG _=>let(t,rfl):=r;rfl
 | Mg _=>let(t,rfl):=r;rfl
 | ref _=>cases r;rfl
 | ty _=>cases r;rfl
theorem RelV.inj{x y:V}{u:AT}(r:RelV x u)(q:RelV y u):x=y:=Z7 (r.abs.symm.trans q.abs)
theorem Vals.inj:∀ {xs ys:!V} {us:!AT},Vals xs us->Vals ys us->xs=ys
 | _,_,_,.nil,.nil=>rfl
 | _,_,_,.cons r t,.cons r' t'=>by rw[r.inj r',Vals.inj t t']
section
variable{X:Cx}{Tl:abL}{O:St}{H:Hp}{s:Ch}{a:AC}{xs ys:!V}
theorem dM.of{K:Frag}(h:H a=some (.lst xs)):dM K H a xs:=.inl (.inl h)
theorem ja.of{K:Frag}(h:H a=some (.tup xs)):ja K H a xs:=.inl (.inl h)
theorem Inv.list(I:Inv X Tl O H s)(h:dM X.K H a xs):∃ its:!AT,Vals xs its/\PlainL s.heap a its.toArray/\xs.length<=FB:=by
 rcases h with h | ⟨o,its,n,hk,hc,hd,hs,hz,r⟩
 .let(z,its,n,r,e):=h.ok I.aD;exact#[its,r,#[_,n,e,U,U,U],z]
 .refine#[its.toList,r,#[o,n,I.iW a o hk,hc,hd,by simpa using hs],?_];have e:=r.length;simp only[Array.length_toList] at e;cbv
theorem Inv.tuple(I:Inv X Tl O H s)(h:ja X.K H a xs):∃ its:!AT,Vals xs its/\IsTup s.heap a its.toArray/\xs.length<=FB:=by
 rcases h with h | ⟨o,its,n,hk,hc,hs,hz,r⟩
 .let(z,its,r,p):=h.ok I.aD;exact#[its,r,p,z]
 .refine#[its.toList,r,#[o,I.iW a o hk,hc,n,by simpa using hs],?_];have e:=r.length;simp only[Array.length_toList] at e;cbv
theorem Inv.wu(I:Inv X Tl O H s)(h:dM X.K H a xs)(h':dM X.K H a ys):xs=ys:=by
 let(its,r,(o,n,e,_,_,d),_):=I.list h;let(its',r',(o',n',e',_,_,d'),_):=I.list h';rw[e] at e';cases e';rw[d] at d';injection d' with d1 _;have:its=its':=by simpa using congrArg Array.toList d1
 subst this;exact r.inj r'
theorem Inv.rn(I:Inv X Tl O H s)(h:ja X.K H a xs)(h':ja X.K H a ys):xs=ys:=by
 let(its,r,(o,e,_,n,d),_):=I.tuple h;let(its',r',(o',e',_,n',d'),_):=I.tuple h';rw[e] at e';cases e';rw[d] at d';injection d' with d1 _;have:its=its':=by simpa using congrArg Array.toList d1
 subst this;exact r.inj r'
end
abbrev Cx.kF(X:Cx)(E:abK):Cx:={ X with xe:=E }
abbrev Cx.wD(X:Cx):Cx:=X.kF λ_ _=>False
theorem Cx.Ok.kF{X:Cx}(ok:X.Ok)(E:abK):(X.kF E).Ok :=
 #[ok.mod,ok.kind,ok.glob,ok.blt,ok.above,ok.inj,ok.has,ok.Ma,ok.hd,ok.frames,ok.Nq,ok.Kl,ok.bs,ok.EN,ok.AF,ok.xK,ok.lY,ok.Hy]
theorem Cx.Ok.e9{X:Cx}{E:abK}(ok:(X.kF E).Ok):X.Ok :=
 #[ok.mod,ok.kind,ok.glob,ok.blt,ok.above,ok.inj,ok.has,ok.Ma,ok.hd,ok.frames,ok.Nq,ok.Kl,ok.bs,ok.EN,ok.AF,ok.xK,ok.lY,ok.Hy]
section
variable{X:Cx}{Tl:abL}{O:St}{H:Hp}{s:Ch}{E:abK}
theorem Inv.kF(I:Inv X Tl O H s)(E:abK):Inv (X.kF E) Tl O H s:=#[I.ok.kF E,I.os,I.bare,I.base,I.loc,I.cell,I.free,I.gq,I.pin,I.aD,I.len,I.tk]
theorem Inv.e9(I:Inv (X.kF E) Tl O H s):Inv X Tl O H s:=#[I.ok.e9,I.os,I.bare,I.base,I.loc,I.cell,I.free,I.gq,I.pin,I.aD,I.len,I.tk]
theorem SP.e9{D:Ends}{f:Flow}{s':Ch}(h:SP (X.kF E) Tl D f s'):SP X Tl D f s':=by
 cases f with
 | next=>let(O',H',I,q):=h;exact#[O',H',I.e9,q]
 | brk=>let(O',H',I,q):=h;exact#[O',H',I.e9,q]
 | cont=>let(O',H',I,q):=h;exact#[O',H',I.e9,q]
 | ret u=>let(v,O',H',I,r,q):=h;exact#[v,O',H',I.e9,r,q]
theorem nX.wD{st:!Fk}{t:TS}(h:nX X.wD st t):nX X st t:=λTl s O H D I hw =>
 KM (h Tl s O H D (I.kF _) hw) (λ_ _ q=>q.e9) λ_ _ z=>False.elim z
end
section
variable{X:Cx}{st:Fk}{rest:!Fk}{t u:TS}{e:Da}{te:TE}{pos:Pos}
def Iy:TS:=λD O H=>D.nx O H
def oR(t u:TS):TS:=λD O H=>t { D with nx:=u D } O H
theorem kQ:nX X [] Iy:=λ_ _ O H _ I h=>wpAny_execs_nil #[O,H,I,h]
theorem aI(h1:PS X st t)(h2:nX X rest u):nX X (st::rest) (oR t u):=by
 intro Tl s O H D I h;show wpAny_execs_cons (bQ (h1 Tl s O H { D with nx:=u D } I h) λf s1 q=>?_);cases f with
 | next =>
  let(O',H',I',q):=q;exact h2 Tl s1 O' H' D I' q
 | ret v=>exact q
 | brk=>exact q
 | cont=>exact q
theorem bI(h1:PS X st t):nX X [st] t:=by
 intro Tl s O H D I h;show wpAny_execs_cons (bQ (h1 Tl s O H D I h) λf s1 q=>?_);cases f with
 | next=>exact wpAny_execs_nil q
 | ret v=>exact q
 | brk=>exact q
 | cont=>exact q
def NJ:TS:=λD O H=>D.ct O H
theorem wc:PS X (.Continue pos) NJ:=λ_ _ O H _ I h=>wpAny_Continue #[O,H,I,h]
theorem Inv.quiet{Tl:abL}{O:St}{H:Hp}{s:Ch}(I:Inv X Tl O H s):interactive X.env=false:=by simp[interactive,I.ok.kind]
def O8(te:TE):TS:=λD O H=>te O H λ_ H1=>D.nx O H1
theorem ff(he:PE X e te)(hs:(swapsWith e none pos.line X.env=pure false)⁻¹):PS X (.Expr e pos) (O8 te):=by
 intro Tl s O H D I h;exact wpAny_Expr_any (bQ (he Tl s O H _ I h) λv s1 zz=>el2 zz λx H1 I1 r1 q1=>#[O,H1,I1,q1]) I.quiet hs
def E9(te:TE):TS:=λD O H=>te O H D.rt
theorem eI(he:PE X e te):PS X (.Return (some e) pos) (E9 te):=by
 intro Tl s O H D I h;exact wpAny_Return_some (bQ (he Tl s O H _ I h) λv s1 zz=>el2 zz λx H1 I1 r1 q1=>#[x,O,H1,I1,r1,q1])
def PM(c:TT)(t u:TS):TS:=λD O H=>c O H λb H1=>if b=true then t D O H1 else u D O H1
theorem r8{c:Da}{a b:!Fk}{tc:TT}(hc:PT X c tc)(ha:nX X a t)(hb:nX X b u):PS X (.If c a b pos) (PM tc t u):=by
 intro Tl s O H D I h;show wpAny_If (bQ (hc Tl s O H _ I h) λd s1 #[H1,I1,q1]=>?_);cases d with
 | true=>exact ha Tl s1 O H1 D I1 q1
 | false=>exact hb Tl s1 O H1 D I1 q1
end
abbrev TG:=V->St->Hp->(St->Hp->Prop)->Prop
abbrev Fc:=!V->St->Hp->(St->Hp->Prop)->Prop
def PG(X:Cx)(target:Da)(t:TG):Prop :=
 ∀ (Tl:abL) (s:Ch) (O:St) (H:Hp) (v:V) (u:AT) (Q:St->Hp->Prop),Inv X Tl O H s->RelV v u->t v O H Q ->
  EQ (model X.prog X.w) X.A (assign target X.env u) (λ_ s'=>∃ O' H',Inv X Tl O' H' s'/\Q O' H') X.xe s
def Iu(X:Cx)(ts:!Da)(t:Fc):Prop :=
 ∀ (Tl:abL) (s:Ch) (O:St) (H:Hp) (vs:!V) (us:!AT) (Q:St->Hp->Prop),Inv X Tl O H s->Vals vs us->t vs O H Q ->
  EQ (model X.prog X.w) X.A (assignInOrder ((assignEach ts X.env).map (·.2)) us) (λ_ s'=>∃ O' H',Inv X Tl O' H' s'/\Q O' H') X.xe s
abbrev JA:=V->V->V->Hp->(Hp->Prop)->Prop
def OV(X:Cx)(t:JA):Prop :=
 ∀ (Tl:abL) (s:Ch) (O:St) (H:Hp) (o i v:V) (ov iv u:AT) (Q:Hp->Prop),Inv X Tl O H s->RelV o ov->RelV i iv->RelV v u->t o i v H Q ->
  EQ (model X.prog X.w) X.A (setItem ov iv u) (λ_ s'=>∃ H',Inv X Tl O H' s'/\Q H') X.xe s
section
variable{X:Cx}{pos:Pos}
def dJ(i:Nat):TG:=λv O H Q=>Q (O.set i (some v)) H
theorem fP{i:Nat}{x:Str}(hN:X.N.Nodup)(hi:X.N[i]?=some x)(hx:Loc X.env.scope x)(hf:abQ X x:=by ac_nf):PG X (.Name x pos) (dJ i):=by
 intro Tl s O H v u Q I r h;exact wpAny_assign_Name (pY I hN hi hx r (λs' I'=>#[_,H,I',h]) hf)
def UC:Fc:=λvs O H Q=>vs=[]/\Q O H
def NL(t:TG)(u:Fc):Fc:=λvs O H Q=>∃ v r,vs=v::r/\t v O H λO' H'=>u r O' H' Q
theorem E8:Iu X [] UC:=by
 intro Tl s O H vs us Q I r h;let(e,h):=h;subst e;cases r;exact assignInOrder_nil #[O,H,I,h]
theorem EK{e:Da}{es:!Da}{t:TG}{u:Fc}(h1:PG X e t)(h2:Iu X es u)(hs:((assignEach (e::es) X.env).map (·.2)=assign e X.env::(assignEach es X.env).map (·.2))⁻¹):Iu X (e::es) (NL t u):=by
 intro Tl s O H vs us Q I r h;let(v,vr,e1,h):=h;subst e1;cases r with
 | cons r rr =>
  rw[hs];show assignInOrder_cons (bQ (h1 Tl s O H _ _ _ I r h) λ_ s1 #[O1,H1,I1,q1]=>?_);exact h2 Tl s1 O1 H1 _ _ Q I1 rr q1
def Su(K:Frag)(n:Nat)(t:Fc):TG:=λv O H Q=>∃ a xs,v=.ref a/\ja K H a xs/\xs.length=n/\t xs O H Q
theorem KD{es:!Da}{k:Nat}{t:Fc}{n:Nat}(hc:X.calm=true)(h:Iu X es t)(hn:((assignEach es X.env).length=n)⁻¹)(jQ:((assignEach es X.env).findIdx? (·.1)=none)⁻¹):PG X (.Tuple es k pos) (Su X.K n t):=by
 intro Tl s O H v u Q I r hw;let(a,xs,e1,hq,hl,hw):=hw;subst e1;cases r;let(its,rv,ht,hz):=I.tuple hq;show assign_Tuple_tuple (I.ok.hd hc) ht (by simp[hn,<- hl,rv.length]) jQ λh' hx=>?_;have I1:Inv X Tl O H { s with heap:=h' }:=I.kept (t':=s.toks) λb o e=>hx b o (ZT (ZK e)) e;exact h Tl _ O H xs _ Q I1 (by simpa using rv) hw
def MV(to ti:TE)(t:JA):TG:=λv O H Q=>to O H λo H1=>ti O H1 λi H2=>t o i v H2 λH3=>Q O H3
theorem CD{o i:Da}{to ti:TE}{t:JA}(ho:PE X o to)(hi:PE X i ti)(hs:OV X t)(ha:∀ v,assign (.Subscript o i pos) X.env v=(do
   let ov <- holding [v] (eval o X.env);let iv <- holding [v,ov] (eval i X.env)
   standAt pos
   holding [v,ov,iv] (setItem ov iv v)
   release [v,ov,iv] []):=by intro _;rfl):PG X (.Subscript o i pos) (MV to ti t):=by
 intro Tl s O H v u Q I r h;rw[ha];show Db (Rs (bQ (ho Tl s O H _ I h) λov s1 z1q=>?_));let(x,H1,I1,r1,q1):=z1q;show Db (Rs (bQ (hi Tl s1 O H1 _ I1 q1) λiv s2 z2q=>?_));let(y,H2,I2,r2,q2):=z2q;show Db (wpAny_standAt (Db (Rs (bQ (hs Tl s2 O H2 x y v ov iv u _ I2 r1 r2 r q2) λ_ s3 z3q=>?_))));let(H3,I3,q3):=z3q;exact wpAny_release #[O,H3,I3,q3]
def jh(te:TE)(g:TG):TS:=λD O H=>te O H λx H1=>g x O H1 D.nx
theorem xY{tg e:Da}{te:TE}{g:TG}(he:PE X e te)(hg:PG X tg g)(hs:(swapsWithSole [tg] e pos.line X.env=pure false)⁻¹)(hw:(swappedStores [tg] e X.env=pure none)⁻¹)(h1:((assignEach [tg] X.env).map (·.2)=[assign tg X.env])⁻¹):PS X (.Assign [tg] e pos) (jh te g):=by
 intro Tl s O H D I h;show wpAny_Assign_stores (bQ (he Tl s O H _ I h) λv s1 zz=>el2 zz λx H1 I1 r1 q1=>?_) hs hw;rw[h1];exact bQ (hg Tl s1 O H1 x v _ I1 r1 q1) λ_ s2 q=>q
theorem eT{i:Nat}{x:Str}{e:Da}{te:TE}{pos':Pos}(hN:X.N.Nodup)(hi:X.N[i]?=some x)(hx:Loc X.env.scope x)(he:PE X e te)(hs:(swapsWith e (some (.Name x pos')) pos.line X.env=pure false)⁻¹)(hf:abQ X x:=by ac_nf) :
  PS X (.Assign [.Name x pos'] e pos) (jh te (dJ i)):=by
 intro Tl s O H D I h;show wpAny_Assign_Name (bQ (he Tl s O H _ I h) λv s1 zz=>el2 zz λy H1 I1 r1 q1=>?_) hs;exact pY I1 hN hi hx r1 (λs2 I2=>#[_,H1,I2,q1]) hf
def Ej(c:TT)(tb:TS):TS:=λD O H=>∃ W:Nat->St->Hp->Prop,(∃ m,W m O H)/\∀ m O H,W m O H ->
 c O H λb H1=>if b=true then ∃ N:St->Hp->Prop,(∀ O' H',N O' H'->∃ m',m' < m/\W m' O' H')/\tb { D with nx:=N,ct:=N,bk:=D.nx } O H1 else D.nx O H1
theorem uP{c:Da}{body:!Fk}{tc:TT}{tb:TS}(hp:PassesOwn (model X.prog X.w) X.A X.env X.xe)(hc:PT X c tc)(hb:nX X body tb):PS X (.While c body [] pos) (Ej tc tb):=by
 intro Tl s O H D I h;let(W,(m0,w0),turn):=h;show wpAny_While (codeAny_whileLoop (λn s'=>∃ O' H',Inv X Tl O' H' s'/\W n O' H') ?_ m0 #[O,H,I,w0]);rintro n s1 ⟨O1,H1,I1,w1⟩;show wpAny_passesOwn hp (bQ (hc Tl s1 O1 H1 _ I1 (turn n O1 H1 w1)) λb s2 z4q=>?_);let(H2,I2,q2):=z4q;cases b with
 | true =>
  let(N,hN,q2):=q2;rw[if_pos U];show wpAny_passesOwn hp (bQ (hb Tl s2 O1 H2 _ I2 q2) λf s3 q3=>?_);cases f with
  | next =>
   let(O3,H3,I3,n3):=q3;let(m',hm,w3):=hN O3 H3 n3;exact#[m',hm,O3,H3,I3,w3]
  | cont =>
   let(O3,H3,I3,n3):=q3;let(m',hm,w3):=hN O3 H3 n3;exact#[m',hm,O3,H3,I3,w3]
  | brk=>exact q3
  | ret v=>exact q3
 | false =>
  rw[if_neg ZP];exact wpAny_execs_nil #[O1,H2,I2,q2]
end
structure It where
 go:Nat->Hp->Prop
 LU:Nat->Hp->V->Hp->Prop
 stop:Nat->Hp->Prop
def fE(X:Cx)(Tl:abL)(H:Hp)(b:AC):Prop :=
 H b=none/\b≠X.env.locals/\b∉X.fs/\(b∈X.ex\/X.s₀.heap.objs.size<=b)/\(∀ x c,X.env.cells.lookup x=some c->c≠b)/\∀ p∈X.pn++Tl,p.1≠b
theorem Inv.ud{X:Cx}{Tl:abL}{O:St}{H H':Hp}{s:Ch}{b:AC}(I:Inv X Tl O H s)(hb:↑s<=b)(hn:H' b=none):fE X Tl H' b:=by
 show#[hn,aah (ZL I.lt hb),I.ML hb,.inr (ZH I.sz hb),λx c e z=>?_,λp hp z=>?_]
 .let(v,q):=I.cell x c e;exact absurd (ZL q.lt (by rw[z];exact hb)) (aaY _)
 .exact absurd (ZL (ZK (I.pin p hp).1) (by rw[z];exact hb)) (aaY _)
structure Turn(P:Fr)(w:Fa)(K:Frag)(tg:Da)(J:It)(fp:!AC)(it:AC)(tn:Nat->Ev->Prop):Prop where
 mem:it∈fp
 obj:∀ i h,tn i h->∀ b∈fp,∃ o,h.get? b=some o/\∀ v,o.data≠.cell v
 keep:∀ i h h',tn i h->(∀ b∈fp,∀ o,h.get? b=some o->h'.get? b=some o)->tn i h'
 item:∀ (X:Cx),X.prog=P->X.w=w->X.K=K->X.calm=true->∀ (i:Nat) (Tl:abL) (s:Ch) (O:St) (H:Hp) (E:abK),Inv X Tl O H s->(∀ b∈fp,fE X Tl H b)->tn i s.heap->J.go i H ->
  EQ (model P w) X.A (pyNext (.ref it)) (λr s1=>∃ u,r=some u /\
   EQ (model P w) X.A (letOwnedTupleGo tg (.ref it) u) (λ_ s2=>∃ x H',Inv X Tl O H' s2/\RelV x u/\J.LU i H x H'/\tn (i+1) s2.heap/\∀ b∈fp,H' b=none) E s1) E s
 done:∀ (X:Cx),X.prog=P->X.w=w->X.K=K->X.calm=true->∀ (i:Nat) (Tl:abL) (s:Ch) (O:St) (H:Hp) (E:abK),Inv X Tl O H s->(∀ b∈fp,fE X Tl H b)->tn i s.heap->J.stop i H ->
  EQ (model P w) X.A (pyNext (.ref it)) (λr s1=>r=none/\Inv X Tl O H s1) E s
 self:∀ (A:GE) (i:Nat) (s:Ch) (Q:abK) (E:abK),tn i s.heap->Q (.ref it) s->EQ (model P w) A (pyIter (.ref it)) Q E s
abbrev TI:=St->Hp->(It->Hp->Prop)->Prop
def VH(X:Cx)(Tl:abL)(O:St)(tg:Da)(R:It->Hp->Prop)(Mk:AT)(s2:Ch):Prop :=
 ∃ (it:AC) (fp:!AC) (tn:Nat->Ev->Prop) (J:It) (H':Hp),Mk=.ref it/\Inv X Tl O H' s2/\Turn X.prog X.w X.K tg J fp it tn/\tn 0 s2.heap/\(∀ b∈fp,fE X Tl H' b)/\R J H'
def PI(X:Cx)(tg iter:Da)(wi:TI):Prop :=
 ∀ (Tl:abL) (s:Ch) (O:St) (H:Hp) (R:It->Hp->Prop),Inv X Tl O H s->wi O H R ->
  EQ (model X.prog X.w) X.A (eval iter X.env) (λv s1=>EQ (model X.prog X.w) X.A (pyIter v) (VH X Tl O tg R) X.xe s1) X.xe s
theorem zF{M:Model}{A:GE}{E:abK}{s:Ch}{tg:Da}{it:AC}{u:AT}{o:Obj}{n:String}{vs:Array AT}{Q:Unit->Ch->Prop}(ho:s.heap.get? it=some o)(hc:o.cls=.type n)(hd:o.data=.fields vs)(hn:["enumerate","zip","dict_itemiterator","dict_reverseitemiterator","odict_iterator","itertools.zip_longest","itertools.pairwise"].contains n=false)(hQ:Q Unit.unit s):EQ M A (letOwnedTupleGo tg (.ref it) u) Q E s:=by
 unfold letOwnedTupleGo;cases tg<;>first
  | exact GM hQ
  | (cases u<;>first
    | exact GM hQ
    | (show Db (wpAny_load ho ?_)
       rw[hc,hd];change EQ M A (if (["enumerate","zip","dict_itemiterator","dict_reverseitemiterator","odict_iterator","itertools.zip_longest","itertools.pairwise"].contains n&&vs[0]? == some (NE _))=true then _ else _) Q E s;rw[if_neg (by intro h;rw[hn,Bool.false_and] at h;cases h)];exact GM hQ))
def Jn(K:Frag)(a:AC):It :=
 #[λi H=>∃ xs x,dM K H a xs/\xs[i]?=some x,λi H x H'=>H'=H/\∀ xs,dM K H a xs->xs[i]?=some x,λi H=>∃ xs,dM K H a xs/\xs.length<=i]
def WG(K:Frag)(a:AC):It :=
 #[λi H=>∃ xs x,ja K H a xs/\xs[i]?=some x,λi H x H'=>H'=H/\∀ xs,ja K H a xs->xs[i]?=some x,λi H=>∃ xs,ja K H a xs/\xs.length<=i]
def JO(lo:Int)(n:Nat):It:=#[λi _=>i < n,λi H x H'=>H'=H/\x=.int (lo+i),λi _=>n<=i]
theorem rT{P:Fr}{w:Fa}{K:Frag}{tg:Da}(a it:AC):Turn P w K tg (Jn K a) [it] it (λi h=>h.IsListIter it a i) where
 mem:=by simp
 obj:=λi h st b hb=>by
  have e:b=it:=by simpa using hb
  subst e;let(o,e,c,d):=st;exact#[o,e,λv z=>by rw[d] at z;cases z]
 keep:=λi h h' st k=>st.at λo e=>k it (by simp) o e
 item:=by
  intro X hP hw hK hc i Tl s O H E I hf st hg;subst hP hw hK;let(xs,x,hq,hx):=hg;let(its,rv,p,hz):=I.list hq;let(u,hu,ru):=rv.get hx;let(f0,f1,f2,f3,f4,f5):=hf it (by simp);show wpAny_pyNext_list_item st p.isList (x:=u) (by simpa using hu) λh' st' sb=>?_;have I1:Inv X Tl O H { s with heap:=h' }:=I.turned (t':=s.toks) (λb o hb e=>(sb.2 b hb).trans e) f0 f1 f3 f4 f5;let(o,e,c,d):=id st';exact#[u,U,zF (s:={ s with heap:=h' }) e c d () #[x,H,I1,ru,#[U,λys hy=>by rw[I.wu hy hq];exact hx],st',λb hb=>(hf b hb).1]]
 done:=by
  intro X hP hw hK hc i Tl s O H E I hf st hg;subst hP hw hK;let(xs,hq,hx):=hg;let(its,rv,p,hz):=I.list hq;let(f0,f1,f2,f3,f4,f5):=hf it (by simp);have hl:=rv.length;exact wpAny_pyNext_list_end (I.ok.hd hc) st p.isList (by simp;cbv) λh' eb=>#[U,I.turned (t':=s.toks) (λb o hb e=>eb b o hb e) f0 f1 f3 f4 f5]
 self:=λ_ _ _ _ _ st h=>wpAny_pyIter_listiter st h
theorem yf{P:Fr}{w:Fa}{K:Frag}{tg:Da}(a it:AC):Turn P w K tg (WG K a) [it] it (λi h=>h.IsTupleIter it a i) where
 mem:=by simp
 obj:=λi h st b hb=>by
  have e:b=it:=by simpa using hb
  subst e;let(o,e,c,d):=st;exact#[o,e,λv z=>by rw[d] at z;cases z]
 keep:=λi h h' st k=>st.at λo e=>k it (by simp) o e
 item:=by
  intro X hP hw hK hc i Tl s O H E I hf st hg;subst hP hw hK;let(xs,x,hq,hx):=hg;let(its,rv,p,hz):=I.tuple hq;let(u,hu,ru):=rv.get hx;let(f0,f1,f2,f3,f4,f5):=hf it (by simp);show wpAny_pyNext_tuple_item st (show s.heap.IsTuple a its.toArray from p) (x:=u) (by simpa using hu) λh' st' sb=>?_;have I1:Inv X Tl O H { s with heap:=h' }:=I.turned (t':=s.toks) (λb o hb e=>(sb.2 b hb).trans e) f0 f1 f3 f4 f5;let(o,e,c,d):=id st';exact#[u,U,zF (s:={ s with heap:=h' }) e c d () #[x,H,I1,ru,#[U,λys hy=>by rw[I.rn hy hq];exact hx],st',λb hb=>(hf b hb).1]]
 done:=by
  intro X hP hw hK hc i Tl s O H E I hf st hg;subst hP hw hK;let(xs,hq,hx):=hg;let(its,rv,p,hz):=I.tuple hq;let(f0,f1,f2,f3,f4,f5):=hf it (by simp);have hl:=rv.length;exact wpAny_pyNext_tuple_end (I.ok.hd hc) st (show s.heap.IsTuple a its.toArray from p) (by simp;cbv) λh' eb=>#[U,I.turned (t':=s.toks) (λb o hb e=>eb b o hb e) f0 f1 f3 f4 f5]
 self:=λ_ _ _ _ _ st h=>wpAny_pyIter_tupleiter st h
theorem xc{P:Fr}{w:Fa}{K:Frag}{tg:Da}(it:AC)(lo:Int)(n:Nat):Turn P w K tg (JO lo n) [it] it (λi h=>IsRangeIter h it (lo+(i:Nat) * 1) ((n:Int) - (i:Nat)) 1) where
 mem:=by simp
 obj:=λi h st b hb=>by
  have e:b=it:=by simpa using hb
  subst e;exact#[_,st,λv z=>by
   have z':Data.fields _=Data.cell v:=z;cases z']
 keep:=λi h h' st k=>k it (by simp) _ st
 item:=by
  intro X hP hw hK hc i Tl s O H E I hf st hg;subst hP hw hK;let(f0,f1,f2,f3,f4,f5):=hf it (by simp);have W:=Walks.range (prog:=X.prog) (w:=X.w) (I.ok.hd hc) it lo 1 n;show gB (W.item i s _ _ hg st λv h' tk hv st' kk tl=>?_);let(t,rfl):=hv;have I1:Inv X Tl O H { s with heap:=h',toks:=tk }:=I.turned (λb o hb e=>kk b o (by simpa using hb) e) f0 f1 f3 f4 f5 (Nat.lt_of_lt_of_le I.tk tl);show#[_,U,zF (s:={ s with heap:=h',toks:=tk }) (n:="range_iterator") st' U U () #[.int (lo+i),H,I1,#[t,?_],#[U,U],st',λb hb=>(hf b hb).1]];rw[Int.mul_one]
 done:=by
  intro X hP hw hK hc i Tl s O H E I hf st hg;subst hP hw hK;let(f0,f1,f2,f3,f4,f5):=hf it (by simp);exact wpAny_pyNext_range_end (I.ok.hd hc) st (by have:n<=i:=hg;cbv) λh' eb=>#[U,I.turned (t':=s.toks) (λb o hb e=>eb b o hb e) f0 f1 f3 f4 f5]
 self:=λ_ _ _ _ _ st h=>wpAny_pyIter_rangeiter st h
section
variable{X:Cx}{tg:Da}
def zM(K:Frag)(tl:TE):TI:=λO H R=>tl O H λx H1=>∃ a,x=.ref a/\(∃ xs,dM K H1 a xs)/\R (Jn K a) H1
theorem kB{l:Da}{tl:TE}(hl:PE X l tl):PI X tg l (zM X.K tl):=by
 intro Tl s O H R I h;show bQ (hl Tl s O H _ I h) λv s1 z5q=>?_;let(x,H1,I1,r1,q1):=z5q;let(a,e,(xs,hq),q):=q1;subst e;cases r1;let(its,rv,p,hz):=I1.list hq;show wpAny_pyIter_list p.isList ?_;show#[↑s1,[↑s1],_,_,H1,U,I1.kept (t':=s1.toks) λb o e=>Zz _ e,rT a _,#[_,ZS _ U,U,U],λb hb=>?_,q];have e:b=↑s1:=by simpa using hb
 subst e;exact I1.ud (ZC _) (I1.aD.fresh (ZC _))
theorem Ep{Tl:abL}{O:St}{H:Hp}{s:Ch}{R:It->Hp->Prop}{E:abK}{lo hi:Int}{t u v:Tok}{tk:Nat}(I:Inv X Tl O H s)(HH:0 < tk)(h1:-(2 ^ 62)<=lo)(h2:lo < 2 ^ 62)(h3:-(2 ^ 62)<=hi)(h4:hi < 2 ^ 62)(q:R (JO lo (hi - lo).toNat) H):EQ (model X.prog X.w) X.A (pyIter (.ref ↑s)) (VH X Tl O tg R) E { s with heap:=s.heap.push { cls:=.type "range",data:=.fields #v[.int lo t,.int hi u,.int 1 v] },toks:=tk }:=by
 show wpAny_pyIter_range (IsRange.new ..) (small_one h1 h2 h3 h4) ?_;have I1:Inv X Tl O H { s with heap:=s.heap.push { cls:=.type "range",data:=.fields #v[.int lo t,.int hi u,.int 1 v] },toks:=tk }:=I.kept (λb o e=>Zz _ e) HH;show#[(s.heap.push { cls:=.type "range",data:=.fields #v[.int lo t,.int hi u,.int 1 v] }).objs.size,[(s.heap.push { cls:=.type "range",data:=.fields #v[.int lo t,.int hi u,.int 1 v] }).objs.size],_,_,H,U,
  I1.kept (t':=tk) λb o e=>Zz _ e,xc _ lo (hi - lo).toNat,?_,λb hb=>?_,q]
 .have e1:lo+((0:Nat):Int) * 1=lo:=by simp
  have e2:(((hi - lo).toNat:Nat):Int) - ((0:Nat):Int)=GT.Range.rangeSize lo hi 1:=by rw[rangeSize_one];split<;>cbv
  change IsRangeIter _ _ (lo+((0:Nat):Int) * 1) ((((hi - lo).toNat:Nat):Int) - ((0:Nat):Int)) 1;rw[e1,e2];exact ZS _ U
 .have e:b=(s.heap.push { cls:=.type "range",data:=.fields #v[.int lo t,.int hi u,.int 1 v] }).objs.size:=by simpa using hb
  subst e;exact I1.ud (ZC _) (I1.aD.fresh (ZC _))
def Oe(ta:TA):TI:=λO H R=>ta O H λvs H1=>∃ j:Int,vs=[.int j]/\-(2 ^ 62)<=j/\j < 2 ^ 62/\R (JO 0 j.toNat) H1
theorem qW{a:Da}{ta:TA}{p pos:Pos}(hg:Gl X "range")(hm:X.mg "range"=none)(ha:PA X [a] ta)(hs:(Go [a] X.env=[(false,eval a X.env)])⁻¹):PI X tg (.Call (.Name "range" p) [a] [] pos) (Oe ta):=by
 intro Tl s O H R I h;show Call_ (kf I hg hm boot_range (PyProof.Rows.callWith_type1 (bQ (ha pos Tl s O H _ I h) λus s1 zz=>el2 zz λvs H1 I1 r1 q1=>?_) hs U));let(j,e,q1,q2,q):=q1;subst e;cases r1 with
 | cons r rr =>
  cases rr;let(t,rfl):=r;exact call_range_1 (Ep I1 (Nat.succ_pos _) (by cbv) (by cbv) q1 q2 (by simpa using q))
def MC(wi:TI)(g:TG)(tb:TS):TS:=λD O H=>wi O H λJ H1=>∃ W:Nat->Nat->St->Hp->Prop,(∃ m,W 0 m O H1)/\∀ i m O H,W i m O H ->
 (J.stop i H/\D.nx O H)\/(J.go i H/\∃ N:St->Hp->Prop,(∀ O' H',N O' H'->∃ m',m' < m/\W (i+1) m' O' H')/\∀ x H',J.LU i H x H'->g x O H' λO2 H2=>tb { D with nx:=N,ct:=N,bk:=D.nx } O2 H2)
def iz(fp:!AC)(h:Ev):abL:=fp.filterMap λb=>(h.get? b).map λo=>(b,o)
theorem d8{fp:!AC}{h:Ev}{b:AC}{o:Obj}(hb:b∈fp)(e:h.get? b=some o):(b,o)∈iz fp h:=List.mem_filterMap.mpr #[b,hb,by rw[e];rfl]
theorem qY{fp:!AC}{h:Ev}{p:AC×Obj}(hp:p∈iz fp h):p.1∈fp/\h.get? p.1=some p.2:=by
 let(b,hb,e):=List.mem_filterMap.mp hp;cases q:h.get? b with
 | none=>rw[q] at e;cases e
 | some o =>
  rw[q] at e;have e':(b,o)=p:=Z7 e;subst e';exact#[hb,q]
theorem Inv.pinned{Tl:abL}{O:St}{H:Hp}{s:Ch}{fp:!AC}(I:Inv X Tl O H s)(hf:∀ b∈fp,fE X Tl H b)(ho:∀ b∈fp,∃ o,s.heap.get? b=some o/\∀ v,o.data≠.cell v):Inv X (Tl++iz fp s.heap) O H s :=
 I.yV λp hp=>(ZR.mp hp).elim (λz=>I.pin p (ZQ _ z)) λz=>by
  let(hb,e):=qY z;let(f0,f1,f2,_):=hf p.1 hb;let(o,e',d):=ho p.1 hb;rw[e] at e';cases e';exact#[e,f0,f1,f2,d]
theorem Inv.gE{Tl pl:abL}{O:St}{H:Hp}{s:Ch}(I:Inv X (Tl++pl) O H s):Inv X Tl O H s:=I.yV λp hp=>I.pin p (ZQ _ (Z2 _ hp))
abbrev abR (i:Da)(N:Env):Prop:=∀ x,foldedSetIterable i N x=pure x
theorem oQ{iter:Da}{body:!Fk}{wi:TI}{g:TG}{tb:TS}{pos:Pos}(hp:PassesOwn (model X.prog X.w) X.A X.env X.xe)(hc:X.calm=true)(hi:PI X tg iter wi)(hg:PG X tg g)(hb:nX X body tb)(hs:abR iter X.env:=by intro _;rfl):PS X (.For tg iter body [] pos) (MC wi g tb):=by
 intro Tl s O H D I h;show wpAny_For (bQ (hi Tl s O H _ I h) λv s1 h1=>bQ h1 λMk s2 h2=>?_) hs;let(it,fp,tn,J,H2,e,I2,T,Dk,f2,W,(m0,w0),turn):=h2;subst e
 -- what stays true of the iterator's objects through the loop
 have stat:∀ {H':Hp},(∀ b∈fp,H' b=none)->∀ b∈fp,fE X Tl H' b:=λhn b hb=>#[hn b hb,(f2 b hb).2];show codeAny_forLoop_any (λn s'=>∃ i O' H',Inv X Tl O' H' s'/\tn i s'.heap/\(∀ b∈fp,H' b=none)/\W i n O' H') ?_ m0 #[0,O,H2,I2,Dk,λb hb=>(f2 b hb).1,w0];rintro n s3 ⟨i,O3,H3,I3,st3,fr3,w3⟩;rcases turn i n O3 H3 w3 with ⟨stop,qn⟩ | ⟨go,N,hN,step⟩
 .refine wpAny_passesOwn hp (bQ (T.done X U U U hc i Tl s3 O3 H3 X.xe I3 (stat fr3) st3 stop) λr s4 z6q=>?_);let(hr,I4):=z6q;subst hr;exact wpAny_execs_nil #[O3,H3,I4,qn]
 .refine wpAny_passesOwn hp (bQ (T.item X U U U hc i Tl s3 O3 H3 X.xe I3 (stat fr3) st3 go) λr s4 z7q=>?_);let(u,hr,h4):=z7q;subst hr;show wpAny_passesOwn hp (bQ h4 λ_ s5 z8q=>?_);let(x,H5,I5,r5,y5,st5,fr5):=z8q;have I5':=I5.pinned (stat fr5) (T.obj _ _ st5);show wpAny_passesOwn hp (bQ (hg _ s5 O3 H5 x u _ I5' r5 (step x H5 y5)) λ_ s6 z9q=>?_);let(O6,H6,I6,q6):=z9q;show wpAny_passesOwn hp (bQ (hb _ s6 O6 H6 _ I6 q6) λf s7 q7=>?_);have again:∀ {O7:St} {H7:Hp},Inv X (Tl++iz fp s5.heap) O7 H7 s7->N O7 H7->∃ m,m < n/\∃ i O' H',Inv X Tl O' H' s7/\tn i s7.heap/\(∀ b∈fp,H' b=none)/\W i m O' H':=λ{O7 H7} I7 n7=>by
   let(m',hm,w7):=hN O7 H7 n7;show#[m',hm,i+1,O7,H7,I7.gE,T.keep _ _ _ st5 λb hb o e=>(I7.pin (b,o) (ZQ _ (ZQ _ (d8 hb e)))).1,λb hb=>?_,w7];let(o,e,d):=T.obj _ _ st5 b hb;exact (I7.pin (b,o) (ZQ _ (ZQ _ (d8 hb e)))).2.1
  cases f with
  | next=>let(O7,H7,I7,n7):=q7;exact again I7 n7
  | cont=>let(O7,H7,I7,n7):=q7;exact again I7 n7
  | brk=>let(O7,H7,I7,q7):=q7;exact#[O7,H7,I7.gE,q7]
  | ret v=>let(x7,O7,H7,I7,r7,q7):=q7;exact#[x7,O7,H7,I7.gE,r7,q7]
end
theorem pd{K:Frag}{a:AC}{xs:!V}{g:TG}{tb:TS}{D:Ends}{O:St}{H:Hp}(Pv:Nat->St->Hp->Prop)(h0:Pv 0 O H)(hl:∀ i O H,i<=xs.length->Pv i O H->dM K H a xs)(hs:∀ i x O H,xs[i]?=some x->Pv i O H->g x O H λO2 H2=>tb { D with nx:=Pv (i+1),ct:=Pv (i+1),bk:=D.nx } O2 H2)(hd:∀ O H,Pv xs.length O H->D.nx O H) :
  ∃ W:Nat->Nat->St->Hp->Prop,(∃ m,W 0 m O H)/\∀ i m O H,W i m O H ->
   ((Jn K a).stop i H/\D.nx O H)\/((Jn K a).go i H/\∃ N:St->Hp->Prop,(∀ O' H',N O' H'->∃ m',m' < m/\W (i+1) m' O' H')/\∀ x H',(Jn K a).LU i H x H'->g x O H' λO2 H2=>tb { D with nx:=N,ct:=N,bk:=D.nx } O2 H2):=by
 show#[λi m O H=>m=xs.length - i/\i<=xs.length/\Pv i O H,#[xs.length,by simp,Nat.zero_le _,h0],?_];rintro i m O H ⟨rfl,hi,p⟩;have q:=hl i O H hi p;by_cases lK:i < xs.length
 .refine .inr #[#[xs,xs[i],q,by simp[lK]],Pv (i+1),λO' H' p'=>#[xs.length - (i+1),by cbv,U,lK,p'],λx H' y=>?_];let(e,y):=y;subst e;exact hs i x O _ (y xs q) p
 .have e:i=xs.length:=by cbv
  subst e;exact .inl #[#[xs,q,ZC _],hd O H p]
theorem Ah{lo:Int}{n:Nat}{g:TG}{tb:TS}{D:Ends}{O:St}{H:Hp}(Pv:Nat->St->Hp->Prop)(h0:Pv 0 O H)(hs:∀ i O H,i < n->Pv i O H->g (.int (lo+i)) O H λO2 H2=>tb { D with nx:=Pv (i+1),ct:=Pv (i+1),bk:=D.nx } O2 H2)(hd:∀ O H,Pv n O H->D.nx O H) :
  ∃ W:Nat->Nat->St->Hp->Prop,(∃ m,W 0 m O H)/\∀ i m O H,W i m O H ->
   ((JO lo n).stop i H/\D.nx O H)\/((JO lo n).go i H/\∃ N:St->Hp->Prop,(∀ O' H',N O' H'->∃ m',m' < m/\W (i+1) m' O' H')/\∀ x H',(JO lo n).LU i H x H'->g x O H' λO2 H2=>tb { D with nx:=N,ct:=N,bk:=D.nx } O2 H2):=by
 show#[λi m O H=>m=n - i/\i<=n/\Pv i O H,#[n,by simp,Nat.zero_le _,h0],?_];rintro i m O H ⟨rfl,hi,p⟩;by_cases lK:i < n
 .refine .inr #[lK,Pv (i+1),λO' H' p'=>#[n - (i+1),by cbv,U,lK,p'],λx H' y=>?_];let(e,y):=y;subst e y;exact hs i O _ lK p
 .have e:i=n:=by cbv
  subst e;exact .inl #[ZC _,hd O H p]
abbrev R2:=V->V->Hp->VK->Prop
def iA(X:Cx)(f:AT->AT->Sem AT)(r:R2):Prop :=
 ∀ (Tl:abL) (s:Ch) (O:St) (H:Hp) (x y:V) (v u:AT) (Q:VK),Inv X Tl O H s->RelV x v->RelV y u->r x y H Q ->
  EQ (model X.prog X.w) X.A (f v u) (EP X Tl O Q) X.xe s
def UY(X:Cx)(f:AT->Sem AT)(r:V->Hp->VK->Prop):Prop :=
 ∀ (Tl:abL) (s:Ch) (O:St) (H:Hp) (x:V) (v:AT) (Q:VK),Inv X Tl O H s->RelV x v->r x H Q ->
  EQ (model X.prog X.w) X.A (f v) (EP X Tl O Q) X.xe s
def eE(X:Cx)(f:AT)(r:!V->Hp->VK->Prop):Prop :=
 ∀ (Tl:abL) (s:Ch) (O:St) (H:Hp) (xs:!V) (us:!AT) (Q:VK),Inv X Tl O H s->Vals xs us->r xs H Q ->
  EQ (model X.prog X.w) X.A (call f us) (EP X Tl O Q) X.xe s
def TQ(X:Cx)(r:V->Hp->(Bool->Hp->Prop)->Prop):Prop :=
 ∀ (Tl:abL) (s:Ch) (O:St) (H:Hp) (x:V) (v:AT) (Q:Bool->Hp->Prop),Inv X Tl O H s->RelV x v->r x H Q ->
  EQ (model X.prog X.w) X.A (truthy v) (TP X Tl O Q) X.xe s
def jw(r:R2)(ta tb:TE):TE:=λO H Q=>ta O H λx H1=>tb O H1 λy H2=>r x y H2 Q
def YR(r:V->Hp->VK->Prop)(ta:TE):TE:=λO H Q=>ta O H λx H1=>r x H1 Q
def rI(C:Int->Int->Prop)(g:Int->Int->V):R2:=λx y H Q=>∃ i j,x=.int i/\y=.int j/\C i j/\Q (g i j) H
def tD(g:Int->Int->V):R2:=λx y H Q=>∃ i j,x=.int i/\y=.int j/\Q (g i j) H
def rU(g:Int->V):V->Hp->VK->Prop:=λx H Q=>∃ i,x=.int i/\Q (g i) H
section
variable{X:Cx}{a b c:Da}{ta tb tc:TE}{pos:Pos}
theorem KN(ha:PE X a ta)(hb:PE X b tb){Tl:abL}{s:Ch}{O:St}{H:Hp}{R:V->V->Hp->Prop}(I:Inv X Tl O H s)(h:ta O H λx H1=>tb O H1 λy H2=>R x y H2){Q:abK}{f:AT->AT->Sem AT}(hf:∀ v u s2 x y H2,Inv X Tl O H2 s2->RelV x v->RelV y u->R x y H2->EQ (model X.prog X.w) X.A (f v u) Q X.xe s2) :
  EQ (model X.prog X.w) X.A (eval a X.env) (λv s₁=>EQ (model X.prog X.w) X.A (eval b X.env) (λu s₂=>EQ (model X.prog X.w) X.A (f v u) Q X.xe s₂) X.xe s₁) X.xe s:=by
 show bQ (ha Tl s O H _ I h) λv s1 zz=>el2 zz λx H1 I1 r1 q1=>?_;show bQ (hb Tl s1 O H1 _ I1 q1) λu s2 zz=>el2 zz λy H2 I2 r2 q2=>?_;exact hf v u s2 x y H2 I2 r1 r2 q2
theorem cH{op:Operator}{r:R2}(ho:iA X (P3 op) r)(ha:PE X a ta)(hb:PE X b tb):PE X (.BinOp a op b pos) (jw r ta tb):=by
 intro Tl s O H Q I h;exact wpAny_BinOp (KN ha hb I h λv u s2 x y H2 I2 rx ry q=>ho Tl s2 O H2 x y v u Q I2 rx ry q)
theorem Iq{op:UnaryOp}{r:V->Hp->VK->Prop}(ho:UY X (unaryOp op) r)(ha:PE X a ta):PE X (.UnaryOp op a pos) (YR r ta):=by
 intro Tl s O H Q I h;exact UnaryOp_ (bQ (ha Tl s O H _ I h) λv s1 zz=>el2 zz λx H1 I1 r1 q1=>ho Tl s1 O H1 x v Q I1 r1 q1)
theorem Qv{f:AT->AT->Sem AT}{C:Int->Int->Prop}{g:Int->Int->Int}(rule:∀ (i j:Int) (t u:Tok) (s:Ch) (Q:abK) (E:abK),C i j->Q (.int (g i j) s.toks) { s with toks:=s.toks+1 }->EQ (model X.prog X.w) X.A (f (.int i t) (.int j u)) Q E s) :
  iA X f (rI C λi j=>.int (g i j)):=by
 intro Tl s O H x y v u Q I rx ry h;let(i,j,rfl,rfl,hc,q):=h;let(t,rfl):=rx;let(t',rfl):=ry;exact rule i j t t' s _ _ hc #[.int (g i j),H,I.tok _,#[_,U],q]
theorem Qf{f:AT->AT->Sem AT}{g:Int->Int->Int}(rule:∀ (i j:Int) (t u:Tok) (s:Ch) (Q:abK) (E:abK),Q (.int (g i j) s.toks) { s with toks:=s.toks+1 }->EQ (model X.prog X.w) X.A (f (.int i t) (.int j u)) Q E s) :
  iA X f (tD λi j=>.int (g i j)):=by
 intro Tl s O H x y v u Q I rx ry h;let(i,j,rfl,rfl,q):=h;let(t,rfl):=rx;let(t',rfl):=ry;exact rule i j t t' s _ _ #[.int (g i j),H,I.tok _,#[_,U],q]
theorem Ft{f:AT->AT->Sem AT}{g:Int->Int->Bool}(rule:∀ (i j:Int) (t u:Tok) (s:Ch) (Q:abK) (E:abK),Q (.bool (g i j)) s->EQ (model X.prog X.w) X.A (f (.int i t) (.int j u)) Q E s) :
  iA X f (tD λi j=>.bl (g i j)):=by
 intro Tl s O H x y v u Q I rx ry h;let(i,j,rfl,rfl,q):=h;let(t,rfl):=rx;let(t',rfl):=ry;exact rule i j t t' s _ _ #[.bl (g i j),H,I,U,q]
def Mz(i j:Int):Prop:=0<=j/\j<=1000000/\i.natAbs < 2 ^ 64
def tj(i j:Int):Prop:=(-(2 ^ 64) < i/\i < 2 ^ 64)\/(-(2 ^ 64) < j/\j < 2 ^ 64)
theorem tj.ok{i j:Int}(h:tj i j):IntMulOk i j:=by
 rcases h with ⟨h1,h2⟩ | ⟨h1,h2⟩
 .exact .of_left (intBits_le_64 h1 h2)
 .exact .of_right (intBits_le_64 h1 h2)
theorem bD:iA X (P3 .Add) (tD λi j=>.int (i+j)):=Qf λ_ _ _ _ _ _ _ q=>add_int q
theorem xl:iA X (P3 .Sub) (tD λi j=>.int (i - j)):=Qf λ_ _ _ _ _ _ _ q=>sub_int q
theorem j7:iA X (P3 .Mult) (rI tj λi j=>.int (i * j)):=Qv λ_ _ _ _ _ _ _ hc q=>mul_int q hc.ok
theorem gz:iA X (P3 .Mod) (rI (λ_ j=>0 < j) λi j=>.int (i % j)):=Qv λi j _ _ _ _ _ hc q=>by
 have h1:(0:Int) < j:=hc;exact mod_int' (by cbv) (by rw[Int.fmod_eq_emod_of_nonneg i (by cbv)];exact q)
theorem KP:iA X (P3 .Pow) (rI Mz λi j=>.int (i ^ j.toNat)):=Qv λ_ _ _ _ _ _ _ hc q=>pow_int_small hc.1 hc.2.1 hc.2.2 q
theorem XO{f:AT->Sem AT}{g:Int->Int}(rule:∀ (i:Int) (t:Tok) (s:Ch) (Q:abK) (E:abK),Q (.int (g i) s.toks) { s with toks:=s.toks+1 }->EQ (model X.prog X.w) X.A (f (.int i t)) Q E s) :
  UY X f (rU λi=>.int (g i)):=by
 intro Tl s O H x v Q I rx h;let(i,rfl,q):=h;let(t,rfl):=rx;exact rule i t s _ _ #[.int (g i),H,I.tok _,#[_,U],q]
theorem Eu:UY X (unaryOp .USub) (rU λi=>.int (-i)):=XO λ_ _ _ _ _ q=>neg_int q
end
def Gu:V->V->Bool
 | .bX,.bX=>true | .bX,.int _=>true | .int _,.bX=>true | .bX,.bl _=>true | .bl _,.bX=>true | .bX,.str _=>true | .str _,.bX=>true
 | .int _,.int _=>true | .bl _,.bl _=>true | .str _,.str _=>true | .wG _,.wG _=>true
 | .int _,.str _=>true | .str _,.int _=>true | .bl _,.str _=>true | .str _,.bl _=>true
 | _,_=>false
def RZ:R2:=λx y H Q=>Gu x y=true/\Q (.bl (decide (x=y))) H
def WS:R2:=λx y H Q=>Gu x y=true/\Q (.bl (not (decide (x=y)))) H
theorem zY{i j:Int}:decide (V.int i=V.int j)=(i == j):=by
 rw[aaH];simp
theorem BY{i j:Bool}:decide (V.bl i=V.bl j)=(i == j):=by
 rw[aaH];simp
theorem y8{i j:Str}:decide (V.str i=V.str j)=(i == j):=by
 rw[aaH];simp
theorem zo{i j:Array UInt8}:decide (V.wG i=V.wG j)=(i.toList == j.toList):=by
 rw[aaH];cases i;cases j;simp
section
variable{X:Cx}{a b c:Da}{ta tb tc:TE}{pos:Pos}
theorem bc{Tl:abL}{O:St}{H:Hp}{s:Ch}{Q:VK}{k k':Bool}(I:Inv X Tl O H s)(q:Q (.bl k) H)(e:k=k'):EP X Tl O Q (.bool k') s:=by
 subst e;exact#[.bl k,H,I,U,q]
theorem bu:iA X (PP .Eq) RZ:=by
 intro Tl s O H x y v u Q I rx ry h;let(hs,q):=h;cases x with
 | bX =>
  cases rx;cases y with
  | bX=>cases ry;exact PySem.EqNone.eq_none_none (bc I q (by simp))
  | bl j=>cases ry;exact PySem.EqNone.eq_none_bool (bc I q (by simp))
  | int j=>let(t',rfl):=ry;exact PySem.EqNone.eq_none_int (bc I q (by simp))
  | str j=>let(t',rfl):=ry;exact PySem.EqNone.eq_none_str (bc I q (by simp))
  | _=>exact absurd (show false=true from hs) ZP
 | bl i =>
  cases rx;cases y with
  | bX=>cases ry;exact PySem.EqNone.eq_bool_none (bc I q (by simp))
  | bl j=>cases ry;exact eq_bool (bc I q BY)
  | str j=>let(t',rfl):=ry;exact PySem.EqMixed.eq_bool_str (bc I q (by simp))
  | _=>exact absurd (show false=true from hs) ZP
 | int i =>
  let(t,rfl):=rx;cases y with
  | bX=>cases ry;exact PySem.EqNone.eq_int_none (bc I q (by simp))
  | int j=>let(t',rfl):=ry;exact eq_int (bc I q zY)
  | str j=>let(t',rfl):=ry;exact PySem.EqMixed.eq_int_str (bc I q (by simp))
  | _=>exact absurd (show false=true from hs) ZP
 | str i =>
  let(t,rfl):=rx;cases y with
  | bX=>cases ry;exact PySem.EqNone.eq_str_none (bc I q (by simp))
  | bl j=>cases ry;exact PySem.EqMixed.eq_str_bool (bc I q (by simp))
  | int j=>let(t',rfl):=ry;exact PySem.EqMixed.eq_str_int (bc I q (by simp))
  | str j=>let(t',rfl):=ry;exact eq_str (bc I q y8)
  | _=>exact absurd (show false=true from hs) ZP
 | wG i =>
  let(t,rfl):=rx;cases y with
  | wG j=>let(t',rfl):=ry;exact PySem.W.eq_bytes (bc I q zo)
  | _=>exact absurd (show false=true from hs) ZP
 | _=>cases y<;>exact absurd (show false=true from hs) ZP
theorem za:iA X (PP .NotEq) WS:=by
 intro Tl s O H x y v u Q I rx ry h;let(hs,q):=h;cases x with
 | bX =>
  cases rx;cases y with
  | bX=>cases ry;exact PySem.EqNone.ne_none_none (bc I q (by simp))
  | bl j=>cases ry;exact PySem.EqNone.ne_none_bool (bc I q (by simp))
  | int j=>let(t',rfl):=ry;exact PySem.EqNone.ne_none_int (bc I q (by simp))
  | str j=>let(t',rfl):=ry;exact PySem.EqNone.ne_none_str (bc I q (by simp))
  | _=>exact absurd (show false=true from hs) ZP
 | bl i =>
  cases rx;cases y with
  | bX=>cases ry;exact PySem.EqNone.ne_bool_none (bc I q (by simp))
  | bl j=>cases ry;exact ne_bool (bc I q (congrArg not BY))
  | str j=>let(t',rfl):=ry;exact PySem.EqMixed.ne_bool_str (bc I q (by simp))
  | _=>exact absurd (show false=true from hs) ZP
 | int i =>
  let(t,rfl):=rx;cases y with
  | bX=>cases ry;exact PySem.EqNone.ne_int_none (bc I q (by simp))
  | int j=>let(t',rfl):=ry;exact ne_int (bc I q (congrArg not zY))
  | str j=>let(t',rfl):=ry;exact PySem.EqMixed.ne_int_str (bc I q (by simp))
  | _=>exact absurd (show false=true from hs) ZP
 | str i =>
  let(t,rfl):=rx;cases y with
  | bX=>cases ry;exact PySem.EqNone.ne_str_none (bc I q (by simp))
  | bl j=>cases ry;exact PySem.EqMixed.ne_str_bool (bc I q (by simp))
  | int j=>let(t',rfl):=ry;exact PySem.EqMixed.ne_str_int (bc I q (by simp))
  | str j=>let(t',rfl):=ry;exact ne_str (bc I q (congrArg not y8))
  | _=>exact absurd (show false=true from hs) ZP
 | wG i =>
  let(t,rfl):=rx;cases y with
  | wG j=>let(t',rfl):=ry;exact PySem.W.ne_bytes (bc I q (congrArg not zo))
  | _=>exact absurd (show false=true from hs) ZP
 | _=>cases y<;>exact absurd (show false=true from hs) ZP
theorem IF:iA X (PP .Lt) (tD λi j=>.bl (decide (i < j))):=Ft λ_ _ _ _ _ _ _ q=>lt_int q
theorem y6:iA X (PP .LtE) (tD λi j=>.bl (decide (i<=j))):=Ft λ_ _ _ _ _ _ _ q=>le_int q
theorem pG:iA X (PP .Gt) (tD λi j=>.bl (decide (j < i))):=Ft λ_ _ _ _ _ _ _ q=>gt_int q
theorem yM:iA X (PP .GtE) (tD λi j=>.bl (decide (j<=i))):=Ft λ_ _ _ _ _ _ _ q=>ge_int q
theorem mq:iA X (PP .In) (λx y H Q=>∃ i j,x=.str i/\y=.str j/\Q (.bl (not ((GT.Str.occurrences j i 0 j.length 1).isEmpty))) H):=by
 intro Tl s O H x y v u Q I rx ry h;let(i,j,rfl,rfl,q):=h;let(t,rfl):=rx;let(t',rfl):=ry;exact in_str (bc I q U)
theorem mB:iA X (PP .Is) (λx y H Q=>y=.bX/\Q (.bl (decide (x=.bX))) H):=by
 intro Tl s O H x y v u Q I rx ry h;let(rfl,q):=h;cases ry;show is_none_gen (bc I q ?_);cases x<;>first
  | (cases rx;rfl)
  | (let(t,rfl):=rx;rfl)
theorem ay(b:Da){op:CmpOp}(h: ~~~(op≠.In))(h2: ~~~(op≠.NotIn)):behindInMarks op b=false:=by
 have e1:(op == CmpOp.In)=false:=by cases op<;>first | rfl | exact absurd U h
 have e2:(op == CmpOp.NotIn)=false:=by cases op<;>first | rfl | exact absurd U h2
 cases b<;>simp[behindInMarks,e1,e2]
theorem jy{op:CmpOp}{r:R2}(ho:iA X (PP op) r)(ha:PE X a ta)(hb:PE X b tb)(hm:behindInMarks op b=false):PE X (.Compare a [op] [b] pos) (jw r ta tb):=by
 intro Tl s O H Q I h;exact wpAny_Compare1 (KN ha hb I h λv u s2 x y H2 I2 rx ry q=>ho Tl s2 O H2 x y v u Q I2 rx ry q) hm
def o5(t:TE):TT:=λO H Q=>t O H λx H'=>∃ k,x=.bl k/\Q k H'
theorem hU{op:CmpOp}{r:R2}(ho:iA X (PP op) r)(ha:PE X a ta)(hb:PE X b tb)(hm:behindInMarks op b=false):PT X (.Compare a [op] [b] pos) (o5 (jw r ta tb)):=by
 intro Tl s O H Q I h;show wpAny_isTrue_Compare1 (bQ (ha Tl s O H _ I h) λv s1 zz=>el2 zz λx H1 I1 r1 q1=>bQ (hb Tl s1 O H1 _ I1 q1) λu s2 zz=>el2 zz λy H2 I2 r2 q2 =>
  bQ (ho Tl s2 O H2 x y v u _ I2 r1 r2 q2) λc s3 #[z,H3,I3,r3,k,e,q3]=>?_) hm
 subst e;cases r3;exact wpAny_truthy_bool #[H3,I3,q3]
def D8(r r':R2)(ta tb tc:TE):TE:=λO H Q=>ta O H λx H1=>tb O H1 λy H2=>r x y H2 λz H3=>∃ k,z=.bl k /\
 (if k=true then tc O H3 λw' H4=>r' y w' H4 Q else Q (.bl false) H3)
theorem Eg{op JF:CmpOp}{r r':R2}(ho:iA X (PP op) r)(yt:iA X (PP JF) r')(ha:PE X a ta)(hb:PE X b tb)(hc:PE X c tc)(hm:lastMarks [op,JF] [b,c]=false:=by with_unfolding_all rfl):PE X (.Compare a [op,JF] [b,c] pos) (D8 r r' ta tb tc):=by
 intro Tl s O H Q I h;show Compare_chain (bQ (ha Tl s O H _ I h) λv s1 zz=>el2 zz λx H1 I1 r1 q1=>chain_link (bQ (hb Tl s1 O H1 _ I1 q1) λu s2 zz=>el2 zz λy H2 I2 r2 q2 =>
  bQ (ho Tl s2 O H2 x y v u _ I2 r1 r2 q2) λd s3 #[z,H3,I3,r3,k,e,q3]=>?_)) hm
 subst e;cases r3;show wpAny_truthy_bool ?_;cases k with
 | false=>exact ite_ff #[.bl false,H3,I3,U,q3]
 | true=>exact ite_tt (chain_last (bQ (hc Tl s3 O H3 _ I3 q3) λw' s4 zz=>el2 zz λz' H4 I4 r4 q4=>yt Tl s4 O H4 y z' u w' Q I4 r2 r4 q4))
theorem uT{op JF:CmpOp}{r r':R2}(ho:iA X (PP op) r)(yt:iA X (PP JF) r')(ha:PE X a ta)(hb:PE X b tb)(hc:PE X c tc)(hm:lastMarks [op,JF] [b,c]=false:=by with_unfolding_all rfl):PT X (.Compare a [op,JF] [b,c] pos) (o5 (D8 r r' ta tb tc)):=by
 intro Tl s O H Q I h;show isTrue_chain (bQ (ha Tl s O H _ I h) λv s1 zz=>el2 zz λx H1 I1 r1 q1=>test_link (bQ (hb Tl s1 O H1 _ I1 q1) λu s2 zz=>el2 zz λy H2 I2 r2 q2 =>
  bQ (ho Tl s2 O H2 x y v u _ I2 r1 r2 q2) λd s3 #[z,H3,I3,r3,k,e,q3]=>?_)) hm
 subst e;cases r3;show wpAny_truthy_bool ?_;cases k with
 | false =>
  let(k',e',q'):=q3;cases e';exact ite_ff #[H3,I3,q']
 | true =>
  show ite_tt (test_last (bQ (hc Tl s3 O H3 _ I3 q3) λw' s4 zz=>el2 zz λz' H4 I4 r4 q4=>bQ (yt Tl s4 O H4 y z' u w' _ I4 r2 r4 q4) λd' s5 #[z2,H5,I5,r5,k2,e2,q5]=>?_));subst e2;cases r5;exact wpAny_truthy_bool #[H5,I5,q5]
def MA(K:Frag)(x:V)(H:Hp)(k:Bool):Prop :=
 match x with
 | .bX=>k=false
 | .bl b=>k=b
 | .int i=>k=(i != 0)
 | .str y=>y.length<=FB/\k=((y.length:Int) != 0)
 | .wG y=>y.size<=FB/\k=((y.size:Int) != 0)
 | .ref p=>(∃ xs,dM K H p xs/\k=(not xs.isEmpty))\/(∃ xs,ja K H p xs/\k=(not xs.isEmpty))\/∃ az,H p=some (.dK az)/\k=(not az.isEmpty)
 | _=>False
theorem xN{κ:Type}{az:!(κ×V)}{vs:!(κ×AT)}(r:KV az vs):(not vs.isEmpty)=(not az.isEmpty):=by
 cases r<;>rfl
theorem oU{xs:!V}{its:!AT}(r:Vals xs its):(not its.toArray.isEmpty)=(not xs.isEmpty):=by
 cases r<;>simp
theorem j5:(FB:Nat) < 2 ^ 63:=by rw[sizeLine_eq];decide
theorem IQ:TQ X (λx H Q=>∃ k,MA X.K x H k/\Q k H):=by
 intro Tl s O H x v Q I rx h;let(k,e,q):=h;have hl:=j5;have hs:FB=16777216:=sizeLine_eq;cases x with
 | bX =>
  cases rx;have e':k=false:=e;subst e';exact truthy_none #[H,I,q]
 | bl b =>
  cases rx;have e':k=b:=e;subst e';exact wpAny_truthy_bool #[H,I,q]
 | int i =>
  let(t,rfl):=rx;have e':k=(i != 0):=e;subst e';exact PySem.P.truthy_int #[H,I,q]
 | str y =>
  let(t,rfl):=rx;obtain⟨hy,e'⟩:y.length<=FB/\k=((y.length:Int) != 0):=e;subst e';exact PySem.P.truthy_str (by cbv) #[H,I.tok _,q]
 | wG y =>
  let(t,rfl):=rx;obtain⟨hy,e'⟩:y.size<=FB/\k=((y.size:Int) != 0):=e;subst e';exact PySem.W.truthy_bytes (by cbv) #[H,I.tok _,q]
 | ref p =>
  cases rx;have e':(∃ xs,dM X.K H p xs/\k=(not xs.isEmpty))\/(∃ xs,ja X.K H p xs/\k=(not xs.isEmpty))\/∃ az,H p=some (.dK az)/\k=(not az.isEmpty):=e;rcases e' with ⟨xs,hx,e'⟩ | ⟨xs,hx,e'⟩ | ⟨az,hx,e'⟩
  .subst e';let(its,r,pl,hz):=I.list hx;have hlen:=r.length;exact wpAny_truthy_list pl.isList (by simp only[List.size_toArray];cbv) #[H,I.tok _,by rw[oU r];exact q]
  .subst e';let(its,r,pl,hz):=I.tuple hx;have hlen:=r.length;exact truthy_tuple pl (by simp only[List.size_toArray];cbv) #[H,I.tok _,by rw[oU r];exact q]
  .subst e';obtain⟨hz,hS,vs,r,m⟩:az.length<=FB/\(p == SB)=false/\∃ vs,KV az vs/\s.heap.DictOf (bV X.prog X.w) p vs:=I.aD p _ hx;have hlen:az.length=vs.length:=Paired.length r;exact wpAny_truthy_dict hS m (by cbv) #[H,I.tok _,by rw[xN r];exact q]
 | _=>exact (show False from e).elim
theorem Bz(ha:PE X a ta)(he:∀ whole,isTrue a X.env whole=(do let v <- whole;standAt a.pos;holding [v] (truthy v))) :
  PT X a (λO H Q=>ta O H λx H'=>∃ k,MA X.K x H' k/\Q k H'):=by
 intro Tl s O H Q I h;exact isTrue_plain (bQ (ha Tl s O H _ I h) λv s1 zz=>el2 zz λx H1 I1 r1 q1=>IQ Tl s1 O H1 x v Q I1 r1 q1) (he _)
theorem aJ:iA X (P3 .Add) (λx y H Q=>∃ i j,x=.str i/\y=.str j/\i.length+j.length<=FB/\Q (.str (i++j)) H):=by
 intro Tl s O H x y v u Q I rx ry h;let(i,j,rfl,rfl,hz,q):=h;let(t,rfl):=rx;let(t',rfl):=ry;exact PySem.P.add_str (BB t.2 t'.2 I.tk hz λt' tk hk=>#[.str (i++j),H,I.tok _ hk,#[t',U],q])
theorem vals1{x:V}{us:!AT}(r:Vals [x] us):∃ u,us=[u]/\RelV x u:=by
 cases r with
 | cons r1 r2=>cases r2;exact#[_,U,r1]
theorem vals2{x y:V}{us:!AT}(r:Vals [x,y] us):∃ u w',us=[u,w']/\RelV x u/\RelV y w':=by
 cases r with
 | cons r1 r2 =>
  cases r2 with
  | cons r3 r4=>cases r4;exact#[_,_,U,r1,r3]
theorem A9(hc:X.calm=true):eE X (.builtin "max") (λxs H Q=>∃ i j,xs=[.int i,.int j]/\Q (.int (if j > i then j else i)) H):=by
 intro Tl s O H xs us Q I r h;let(i,j,rfl,q):=h;let(u,w',rfl,(t,rfl),(t',rfl)):=vals2 r;show gB (max_two_ints (I.ok.hd hc) λh' tk k tl=>#[_,H,I.kept k (ZL I.tk tl),?_,q]);by_cases hj:j > i
 .rw[if_pos hj,if_pos hj];exact#[_,U]
 .rw[if_neg hj,if_neg hj];exact#[_,U]
theorem mR:eE X (.type "int") (λxs H Q=>(∃ i,xs=[.int i]/\Q (.int i) H)\/∃ k,xs=[.bl k]/\Q (.int (if k then 1 else 0)) H):=by
 intro Tl s O H xs us Q I r h;rcases h with ⟨i,rfl,q⟩ | ⟨k,rfl,q⟩
 .let(u,rfl,t,rfl):=vals1 r;exact call_int_int #[.int i,H,I,#[_,U],q]
 .let(u,rfl,r1):=vals1 r;cases r1;exact call_int_bool #[.int (if k then 1 else 0),H,I.tok _,#[_,U],q]
theorem ux:eE X (.type "str") (λxs H Q=>∃ i,xs=[.int i]/\i.natAbs.log2 < 1920/\Q (.str (toString i)) H):=by
 intro Tl s O H xs us Q I r h;let(i,rfl,hz,q):=h;let(u,rfl,t,rfl):=vals1 r;exact PySem.P.str_of_int hz #[.str _,H,I.tok _,#[#[_,aah I.tk],U],q]
end
theorem qV{h:Ev}{dx:AC}{mA:Str->Option AT}(n:h.Ns1 dx mA):∃ od,h.get? dx=some od/\∀ name,PySem.W.lookIn name od=some (mA name):=by
 let(o,es,ep,ho,hd,hk,_,hm):=n;show#[o,ho,λname=>?_];have e:=hm name;unfold nsFind findBy at e;rw[<- Array.find?_toList] at e;unfold PySem.W.lookIn;rw[hd];dsimp only;split
 .rename_i y q
  rw[q] at e;exact congrArg some e
 .rename_i q
  rw[q] at e;have a:es.toList.any (·.refKey)=false:=by
   rw[List.any_eq_false];intro y hy;let(z,t,hkey):=hk y (abH.mp hy);simp[SL.refKey,hkey]
  have a':¬ es.toList.any (·.refKey)=true:=by rw[a];exact ZP
  rw[if_neg a'];exact congrArg some e
section
variable{prog:Fr}{w:Fa}{A:GE}{E:abK}{s:Ch}{K:Frag}{x dx C f:AC}{mA:Str->Option AT}{name:Str}{v:AT}
end
def jR(f:Str)(v:V):!(Str×V)->!(Str×V)
 | []=>[(f,v)]
 | (g,x)::r=>if g=f then (g,v)::r else (g,x)::jR f v r
theorem nq(f g:Str)(v:V):∀ fs:!(Str×V),(jR f v fs).lookup g=if g=f then some v else fs.lookup g
 | []=>by
  change List.lookup g [(f,v)]=_;by_cases h:g=f
  .have hb:(g == f)=true:=beq_iff_eq.mpr h;simp only[List.lookup,hb,if_pos h]
  .have hb:(g == f)=false:=beq_eq_false_iff_ne.mpr h;simp only[List.lookup,hb,if_neg h]
 | (k,x)::r=>by
  have ih:=nq f g v r;rw[show jR f v ((k,x)::r)=(if k=f then (k,v)::r else (k,x)::jR f v r) from U];by_cases hk:k=f
  .rw[if_pos hk];by_cases h:g=k
   .have hb:(g == k)=true:=beq_iff_eq.mpr h;simp only[List.lookup,hb,if_pos (h.trans hk)]
   .have hb:(g == k)=false:=beq_eq_false_iff_ne.mpr h;simp only[List.lookup,hb,if_neg (λe:g=f=>h (e.trans hk.symm))]
  .rw[if_neg hk];by_cases h:g=k
   .have hb:(g == k)=true:=beq_iff_eq.mpr h;simp only[List.lookup,hb,if_neg (λe:g=f=>hk (h.symm.trans e))]
   .have hb:(g == k)=false:=beq_eq_false_iff_ne.mpr h;simp only[List.lookup,hb];exact ih
theorem mi(f:Str)(v:V):∀ fs:!(Str×V),f∈(jR f v fs).map (·.1)/\∀ g,g∈fs.map (·.1)->g∈(jR f v fs).map (·.1)
 | []=>#[by simp[jR],λg h=>by simp at h]
 | (k,x)::r=>by
  let(i1,i2):=mi f v r;rw[show jR f v ((k,x)::r)=(if k=f then (k,v)::r else (k,x)::jR f v r) from U];by_cases hk:k=f
  .rw[if_pos hk];subst hk;exact#[by simp,λg h=>by simpa using h]
  .rw[if_neg hk];show#[?_,λg h=>?_]
   .rw[ZG];exact Zw _ i1
   .rw[ZG] at h ⊢;rcases ZD.mp h with e | e
    .exact ZD.mpr (.inl e)
    .exact Zw _ (i2 g e)
theorem nI(f:Str)(v:V):∀ fs:!(Str×V),(jR f v fs).length<=fs.length+1
 | []=>by simp[jR]
 | (k,x)::r=>by
  have ih:=nI f v r;rw[show jR f v ((k,x)::r)=(if k=f then (k,v)::r else (k,x)::jR f v r) from U];by_cases hk:k=f
  .rw[if_pos hk,ZJ,ZJ];cbv
  .rw[if_neg hk,ZJ,ZJ];cbv
theorem iH.some_of{v:V}{o:Option AT}(r:iH (some v) o):∃ u,o=some u/\RelV v u:=by
 cases o with
 | none=>exact (show False from r).elim
 | some u=>exact#[u,U,r]
theorem Au{v:V}{u:AT}(r:RelV v u):PySem.W.handedIn u=true:=by
 cases v with
 | bX=>cases (show u=AT.none from r);rfl
 | bl b=>cases (show u=AT.bool b from r);rfl
 | int i=>let(t,e):=(show ∃ t,u=AT.int i t from r);cases e;rfl
 | str x=>let(t,e):=(show ∃ t:xg,u=AT.str x t.1 from r);cases e;rfl
 | wG b=>let(t,e):=(show ∃ t,u=AT.bytes b t from r);cases e;rfl
 | Mg b=>let(t,e):=(show ∃ t,u=AT.float b t from r);cases e;rfl
 | ref a=>cases (show u=AT.ref a from r);rfl
 | ty n=>cases (show u=AT.type n from r);rfl
section
variable{P:Fr}{w:Fa}{H H':Hp}{h h':Ev}{a C dx:AC}{fs jN:!(Str×V)}
end
section
variable{X:Cx}{Tl:abL}{O:St}{H:Hp}{s:Ch}{a C dx:AC}{fs:!(Str×V)}{f:Str}{v:V}{A:GE}{E:abK}
theorem Gs{prog:Fr}{w:Fa}{env:Env}{e:Da}{f:Str}{pos:Pos}{s:Ch}{Q:abK}(hb:attributeBase e f env (eval e env)=eval e env)(h:EQ (model prog w) A (eval e env) (λo s₁=>EQ (model prog w) A (getAttr o f true) Q E s₁) E s):EQ (model prog w) A (eval (.Attribute e f pos) env) Q E s :=
 Attribute_any_ h (by rw[arm_eval_Attribute,hb])
end
section
variable{X:Cx}{o e value:Da}{f:Str}{pos pos' xV:Pos}{ta tv:TE}
end
section
variable{X:Cx}{Tl:abL}{O:St}{H:Hp}{s:Ch}{A:GE}{E:abK}{Q:abK}{c:AT}{b:Bool}
end
structure bF(k:Nat)(A:GE):Prop where
 hd:A.handled=none
 dp:A.depth+3 * k+5 < recursionLimit
 un:A.units+16 * k+200 < cLine
theorem bF.mono{j k:Nat}{A:GE}(r:bF k A)(h:j<=k):bF j A:=#[r.hd,by have:=r.dp;cbv,by have:=r.un;cbv]
theorem bF.deeper{k:Nat}{A:GE}(r:bF (k+1) A)(env:Env):bF k (A.deeper env) :=
 #[r.hd,by have:=r.dp;change A.depth+1+3 * k+5 < _;cbv,by have:=r.un;change A.units+3+16 * k+200 < _;cbv]
theorem wQ{A:GE}{C:AC}{us:!AT}{kw:!(Str×AT)}:(A.under (.builtin "type.__call__" #[.ref C::us,kw])).depth=A.depth+1:=by
 first | rfl | simp[GE.under,Code.weight,Code.isCreation,Code.isGuard,Code.isCaller,Code.frames,Code.isFrame,guardIds]
theorem w8{A:GE}{C:AC}{us:!AT}{kw:!(Str×AT)}:(A.under (.builtin "type.__call__" #[.ref C::us,kw])).units=A.units+1:=by
 first | rfl | simp[GE.under,Code.cUnits,Code.frames,Code.isFrame]
theorem bF.make{k:Nat}{A:GE}(r:bF (k+1) A)(C:AC)(us:!AT)(kw:!(Str×AT)):bF k (A.under (.builtin "type.__call__" #[.ref C::us,kw])) :=
 #[r.hd,by have:=r.dp;rw[wQ];cbv,by have:=r.un;rw[w8];cbv]
theorem bF.depth{k:Nat}{A:GE}(r:bF k A):A.depth < recursionLimit:=by have:=r.dp;cbv
theorem bF.units{k:Nat}{A:GE}(r:bF k A):A.units+64 < cLine:=by have:=r.un;cbv
def Ay:TA:=λ_ H Q=>Q [] H
def lD(ta:TE)(tr:TA):TA:=λO H Q=>ta O H λx H1=>tr O H1 λxs H2=>Q (x::xs) H2
section
variable{X:Cx}{e:Da}{es:!Da}{te:TE}{t:TA}{pos:Pos}
theorem aM:PA X [] Ay:=λ_ _ _ _ H Q I h=>Calls.spliced_nil #[[],H,I,.nil,h]
theorem ax(ha:PE X e te)(hr:PA X es t)(hs:(abN X.env e es)⁻¹):PA X (e::es) (lD te t):=by
 intro pos Tl s O H Q I h;rw[hs];change EQ _ _ (spliced ((false,eval e X.env)::KB pos (Go es X.env))) _ _ s;show Calls.spliced_cons (bQ (ha Tl s O H _ I h) λu s1 zz=>el2 zz λx H1 I1 r1 q1=>?_);exact bQ (hr pos Tl s1 O H1 _ I1 q1) λus s2 zz=>el2 zz λxs H2 I2 r2 q2=>#[x::xs,H2,I2,.cons r1 r2,q2]
def Pq(t:TA):TE:=λO H Q=>t O H λxs H1=>xs.length<=FB/\∀ p,H1 p=none->Q (.ref p) (upd H1 p (.tup xs))
def T9(t:TA):TE:=λO H Q=>t O H λxs H1=>xs.length<=FB/\∀ p,H1 p=none->Q (.ref p) (upd H1 p (.lst xs))
theorem Ex{x1}(h:PA X es t):PE X (.Tuple es x1 pos) (Pq t):=by
 intro Tl s O H Q I hq;show wpAny_Tuple_spliced (bQ (h pos Tl s O H _ I hq) λus s1 #[xs,H1,I1,r,z,q]=>#[by rw[<- r.length];exact z,?_]);have hf:H1 ↑s1=none:=I1.aD.fresh (ZC _);show#[.ref ↑s1,upd H1 ↑s1 (.tup xs),I1.laid (t':=s1.toks) (λb u e=>Zz _ e) (ZC _) ?_,U,q _ hf];exact#[z,us,r,#[_,ZS _ U,U,_,U]]
theorem j8(h:PA X es t):PE X (.List es pos) (T9 t):=by
 intro Tl s O H Q I hq;show wpAny_List_spliced (bQ (h pos Tl s O H _ I hq) λus s1 #[xs,H1,I1,r,z,q]=>#[by rw[<- r.length];exact z,?_]);have hf:H1 ↑s1=none:=I1.aD.fresh (ZC _);show#[.ref ↑s1,upd H1 ↑s1 (.lst xs),I1.laid (t':=s1.toks) (λb u e=>Zz _ e) (ZC _) ?_,U,q _ hf];exact#[z,us,0,r,ZS _ U]
end
abbrev Sp:=!V->Hp->VK->XK->Prop
abbrev u4:=!Env->Hp->Ch->XK->abK
structure wK(P:Fr)(w:Fa)(K:Frag)(mg:Str->Option AT)(base:Ev)(A:GE)(outer:!Env)(s:Ch)(H:Hp):Prop where
 frames:A.frames=some outer
 mod:Mod K mg base
 bs:∀ b o,base.get? b=some o->s.heap.get? b=some o/\H b=none
 EN:base.objs.size<=↑s
 lY:s.heap.FunFrames base outer
 Hy:∀ b∈Bu outer,H b=none
 aD:jY P w H s.heap
 bare:AllBare s.gens
def CE(outer:!Env)(P:Fr)(w:Fa)(H:Hp)(s:Ch)(Q:VK)(u:AT)(s':Ch):Prop :=
 ∃ v H',s'.os=s.os/\AllBare s'.gens/\Un (Bu outer) [] H H' s.heap s'.heap/\jY P w H' s'.heap/\RelV v u/\Q v H'
def CR(CX:u4)(outer:!Env)(P:Fr)(w:Fa)(H:Hp)(s:Ch)(Q:VK)(E:XK)(r:Result)(s':Ch):Prop :=
 match r with
 | .ok (.ret u)=>CE outer P w H s Q u s'
 | .ok _=>False
 | .error e=>CX outer H s E e s'
structure br(P:Fr)(w:Fa)(K:Frag)(mg:Str->Option AT)(base:Ev)(CX:u4)(k:Nat)(f:AC)(fd:IR)(ps:!Str)(sp:Sp):Prop where
 len:∀ vs H Q E,sp vs H Q E->vs.length=ps.length
 run:∀ (A:GE) (outer:!Env) (s:Ch) (H:Hp) (args:Args) (us:!AT) (vs:!V) (Q:VK) (E:XK),bF k A->wK P w K mg base A outer s H->BindsTo s fd args (ps.zip us)->Vals vs us->sp vs H Q E ->
  codeAny (model P w) A (.call (.ref f) args) (CR CX outer P w H s Q E) s
theorem br.mono{P:Fr}{w:Fa}{K:Frag}{mg:Str->Option AT}{base:Ev}{CX:u4}{j k:Nat}{f:AC}{fd:IR}{ps:!Str}{sp:Sp}(F:br P w K mg base CX j f fd ps sp)(h:j<=k) :
  br P w K mg base CX k f fd ps sp:=#[F.len,λA outer s H args us vs Q E hr=>F.run A outer s H args us vs Q E (hr.mono h)]
theorem br.imp{P:Fr}{w:Fa}{K:Frag}{mg:Str->Option AT}{base:Ev}{CX:u4}{k:Nat}{f:AC}{fd:IR}{ps:!Str}{sp Nk:Sp}(F:br P w K mg base CX k f fd ps sp)(h:∀ vs H Q E,Nk vs H Q E->sp vs H Q E):br P w K mg base CX k f fd ps Nk :=
 #[λvs H Q E q=>F.len vs H Q E (h _ _ _ _ q),λA outer s H args us vs Q E hr he hb hv hs=>F.run A outer s H args us vs Q E hr he hb hv (h _ _ _ _ hs)]
theorem wK.make{P:Fr}{w:Fa}{K:Frag}{mg:Str->Option AT}{base:Ev}{A:GE}{outer:!Env}{s:Ch}{H:Hp}(e:wK P w K mg base A outer s H)(C:AC)(us:!AT)(kw:!(Str×AT)) :
  wK P w K mg base (A.under (.builtin "type.__call__" #[.ref C::us,kw])) outer s H:=#[by first | exact e.frames | (simpa [GE.under,Code.envs,Code.isFrame,pushEnvs] using e.frames),e.mod,e.bs,e.EN,e.lY,e.Hy,e.aD,e.bare]
section
variable{X:Cx}{Tl:abL}{O:St}{H:Hp}{s s':Ch}
theorem Inv.KC(I:Inv X Tl O H s):wK X.prog X.w X.K X.mg X.base X.A X.stack s H :=
 #[I.ok.frames,I.ok.mod,I.bs,ZH I.ok.EN I.sz,I.stack,I.sX,I.aD,I.bare]
theorem Inv.after{Q:VK}{u:AT}(I:Inv X Tl O H s)(h:CE X.stack X.prog X.w H s Q u s')(ht:s.toks<=s'.toks):EP X Tl O Q u s':=by
 let(v,H',os,bare,un,aD,r,q):=h;let(hh,g,d,t,os'):=s';obtain rfl:os'=s.os:=os;exact#[v,H',I.call (h':=hh) (g':=g) (d':=d) (t':=t) (ch:=[]) un aD bare (λb z=>absurd z (by simp)) (Nat.lt_of_lt_of_le I.tk ht),r,q]
end
def vm(sp:Sp)(IA:!V)(E:XK)(t:TA):TE:=λO H Q=>t O H λvs H1=>sp (vs++IA) H1 Q E
def Binds(K:Frag)(fd:IR)(ps:!Str)(ds:!AT):Prop :=
 ∀ (s:Ch) (us:!AT),K.In s.heap->(us++ds).length=ps.length->BindsTo s fd #[us,[]] (ps.zip (us++ds))
theorem Binds.all{K:Frag}{fd:IR}{ps:!Str}(h:∀ us:!AT,us.length=ps.length->bindArgs fd #[us,[]]=pure (ps.zip us)):Binds K fd ps []:=λs us _ hl=>by
 rw[ZM] at hl ⊢;exact .of_eq (h us hl)
def Passes(CX:u4)(X:Cx)(E:XK):Prop:=∀ (Tl:abL) (O:St) (H:Hp) (s:Ch) (e:AT) (s':Ch),Inv X Tl O H s->s.toks<=s'.toks->CX X.stack H s E e s'->X.xe e s'
section
variable{X:Cx}{CX:u4}{k:Nat}{f C:AC}{fd:IR}{ps:!Str}{sp:Sp}{IA:!V}{ds:!AT}{E:XK}{x m:Str}{p pos apos:Pos}{e o:Da}{es:!Da}{ta:TE}{t:TA}
theorem BU{Tl:abL}{O:St}{H:Hp}{s:Ch}{Q:VK}{us:!AT}{vs:!V}(F:br X.prog X.w X.K X.mg X.base CX k f fd ps sp)(hr:bF k X.A)(hb:Binds X.K fd ps ds)(hd:Vals IA ds)(hx:Passes CX X E)(I:Inv X Tl O H s)(r:Vals vs us)(h:sp (vs++IA) H Q E):EQ (model X.prog X.w) X.A (call (.ref f) us) (EP X Tl O Q) X.xe s:=by
 have r2:Vals (vs++IA) (us++ds):=r.append hd;have hl:(us++ds).length=ps.length:=by rw[<- r2.length];exact F.len _ _ _ _ h
 show wpAny_call (sG <| codeAny_mono (F.run X.A X.stack s H #[us,[]] (us++ds) (vs++IA) Q E hr I.KC (hb s us I.iW hl) r2 h) λr s' hq tl=>?_);cases r with
 | error e=>exact hx Tl O H s e s' I tl hq
 | ok fl =>
  cases fl with
  | ret u=>exact I.after hq tl
  | next=>exact False.elim hq
  | brk=>exact False.elim hq
  | cont=>exact False.elim hq
theorem cU(F:br X.prog X.w X.K X.mg X.base CX k f fd ps sp)(hr:bF k X.A)(hg:Gl X x)(hm:X.mg x=some (.ref f))(hk:keepIn X.K (.ref f)=true)(hb:Binds X.K fd ps ds)(hd:Vals IA ds)(hx:Passes CX X E)(ha:PA X (e::es) t)(fM: ~~~(abP x))(he:(abN X.env e es)⁻¹)(dI:(abO X.env pos es)⁻¹) :
  PE X (.Call (.Name x p) (e::es) [] pos) (vm sp IA E t):=by
 intro Tl s O H Q I h;show wpAny_Call_Name_kw (jD I hg hm ?_ fM);show abq (h₀:=X.base) I.ok.mod.Mb hk (bQ (ha pos Tl s O H _ I h) λus s1 zz=>el2 zz λvs H1 I1 r q=>#[I1.iW,?_]) he dI;exact BU F hr hb hd hx I1 r q
end
section
variable{X:Cx}{CX:u4}{k:Nat}{f C:AC}{fd:IR}{ps ks:!Str}{sp:Sp}{E:XK}{x m:Str}{p pos apos Y1:Pos}{e o:Da}{es:!Da}{Zs:!Ps}{te ta:TE}{t tk:TA}{nm:Option Str}
variable{g:!AT->!AT->!AT}{gV:!V->!V->!V}
end
structure ar(N P:!Str)(sc:Scope):Prop where
 kind:sc.kind=.function
 co:sc.isCoroutine=false
 gen:sc.isGenerator=false
 nd:N.Nodup
 pre:N.take P.length=P
 par:∀ x∈P,sc.names.lookup x=some .local\/sc.names.lookup x=some .cell
 Jz:∀ y∈sc.names,y.2≠.free
 fst:∃ n∈P,sc.names.lookup n=some .local
theorem rV{kindOf:Str->Option KF}{x:Str}:∀ {binds:!(Str×AT)} {m:Str->Option AT},(∀ v,(x,v)∉binds)->bindL kindOf binds m x=m x
 | [],_,_=>rfl
 | (n,v)::r,m,h=>by
  unfold bindL;rw[rV λw hw=>h w (Zw _ hw)];split
  .have:x≠n:=by rintro rfl;exact h v Zx
   simp[this]
  .rfl
theorem rm{kindOf:Str->Option KF}{x:Str}:∀ {binds:!(Str×AT)} {m:Str->Option AT},(∀ v,(x,v)∉binds)->bindC kindOf binds m x=m x
 | [],_,_=>rfl
 | (n,v)::r,m,h=>by
  unfold bindC;rw[rm λw hw=>h w (Zw _ hw)];split
  .rfl
  .have:x≠n:=by rintro rfl;exact h v Zx
   simp[this]
theorem rg{kindOf:Str->Option KF}{x:Str}{v:AT}:∀ {P:!Str} {vs:!AT} {i:Nat} {m:Str->Option AT},P.Nodup->P[i]?=some x->vs[i]?=some v->kindOf x=some .local ->
  bindL kindOf (P.zip vs) m x=some v
 | [],_,_,_,_,h,_,_=>by simp at h
 | _::_,[],_,_,_,_,h,_=>by simp at h
 | p::P,w::vs,0,m,nd,h1,h2,hk=>by
  simp at h1 h2;subst h1;subst h2;change bindL kindOf ((p,w)::P.zip vs) m p=_;unfold bindL;rw[rV λv hv=>(aaD.mp nd).1 (List.of_mem_zip hv).1,if_pos hk];simp
 | p::P,w::vs,i+1,m,nd,h1,h2,hk=>by
  change bindL kindOf ((p,w)::P.zip vs) m x=_;unfold bindL;exact rg (i:=i) (List.nodup_cons.mp nd).2 (by simpa using h1) (by simpa using h2) hk
theorem r9{kindOf:Str->Option KF}{x:Str}{v:AT}:∀ {P:!Str} {vs:!AT} {i:Nat} {m:Str->Option AT},P.Nodup->P[i]?=some x->vs[i]?=some v->kindOf x≠some .local ->
  bindC kindOf (P.zip vs) m x=some v
 | [],_,_,_,_,h,_,_=>by simp at h
 | _::_,[],_,_,_,_,h,_=>by simp at h
 | p::P,w::vs,0,m,nd,h1,h2,hk=>by
  simp at h1 h2;subst h1;subst h2;change bindC kindOf ((p,w)::P.zip vs) m p=_;unfold bindC;rw[rm λv hv=>(aaD.mp nd).1 (List.of_mem_zip hv).1,if_neg hk];simp
 | p::P,w::vs,i+1,m,nd,h1,h2,hk=>by
  change bindC kindOf ((p,w)::P.zip vs) m x=_;unfold bindC;exact r9 (i:=i) (List.nodup_cons.mp nd).2 (by simpa using h1) (by simpa using h2) hk
def start(N:!Str)(vs:!V):St:=vs.map some++List.replicate (N.length - vs.length) none
def jO(CX:u4)(P:Fr)(w:Fa)(K:Frag)(mg:Str->Option AT)(base:Ev)(N:!Str)(qual:Str)(scope:Scope)(f:AC)(cd:AT)(A:GE)(outer:!Env)(s:Ch)(H:Hp)(E:XK):Cx where
 prog:=P
 w:=w
 K:=K
 mg:=mg
 base:=base
 A:=A.deeper (envOfC qual scope ↑s f cd)
 N:=N
 s₀:=s
 H₀:=H
 env:=envOfC qual scope ↑s f cd
 outer:=outer
 stack:=envOfC qual scope ↑s f cd::outer
 ex:=[]
 calm:=true
 fn:=λ_=>true
 pn:=[]
 xe:=λe s'=>EQ (model P w) (A.deeper (envOfC qual scope ↑s f cd)) (leaving (envOfC qual scope ↑s f cd) e) (λ_ Bp=>CX outer H s E e Bp) (λe' Bp=>CX outer H s E e' Bp) s'
theorem uZ{sc:Scope}{n:Nat}{x:Str}(h:sc.names.lookup x=some .cell):∃ c,(cellsFrom n sc.names []).lookup x=some c:=by
 have q:=PySem.W.cellsFrom_some sc.names n [] (.inl h);exact aaI.mp q
theorem AX{CX:u4}{P:Fr}{w:Fa}{K:Frag}{mg:Str->Option AT}{base:Ev}{N ps:!Str}{qual:Str}{scope:Scope}{f:AC}{cd:AT}{A:GE}{outer:!Env}{s s1:Ch}{H:Hp}{E:XK}{us:!AT}{vs:!V}(S:ar N ps scope)(hd:A.handled=none)(e0:wK P w K mg base A outer s H)(hl:vs.length=ps.length)(r:Vals vs us)(x:InCallC s ↑s (bindL (envOfC qual scope ↑s f cd).kindOf (ps.zip us) λ_=>none) (cellsFrom (↑s+1) scope.names []) (bindC (envOfC qual scope ↑s f cd).kindOf (ps.zip us) λ_=>none) s1)(tl:s.toks < s1.toks) :
  Inv (jO CX P w K mg base N qual scope f cd A outer s H E) [] (start N vs) H s1:=by
 have dI:ps.length<=N.length:=by have:=congrArg List.length S.pre;rw[aak] at this;cbv
 let(h1,tk,rfl,hk):=x.done;have noA:∀ b:AC,b∉(jO CX P w K mg base N qual scope f cd A outer s H E).ex:=λb z=>absurd (show b∈([]:!AC) from z) (by simp);show#[#[e0.mod,S.kind,U,U,ZC _,λy z c h1 h2=>?_,λy hy=>?_,λy c _ h=>?_,λ_=>hd,GE.frames_deeper e0.frames,.inr #[U,U],λb z=>absurd z (noA b),e0.bs,e0.EN,λb _ _=>noA b,λb z=>absurd z (noA b),e0.lY,e0.Hy],
  rfl,e0.bare,Un.kept hk,#[_,x.toInCall.ns,λi y v h1 h2 h3=>?_],λy c h=>#[_,x.cell y c h],e0.aD.fresh (Nat.le_refl _),λy c h=>?_,λp hp=>absurd (show p∈([]:abL) from hp) (by simp),e0.aD.kept hk,?_,Nat.lt_of_le_of_lt (Nat.zero_le _) tl]
 .exact name_of_addr x.apart (aat h1) (aat h2)
 .have hy:scope.names.lookup y=some .cell\/scope.names.lookup y=some .free:=hy;rcases hy with hy | hy
  .exact uZ hy
  .exact absurd U (S.Jz _ (aat hy))
 .exact abp (x.above y c (aat h))
 .have hi:i < vs.length:=by
   unfold start at h2;by_cases hi:i < vs.length
   .exact hi
   .rw[List.getElem?_append_right (by simpa using hi)] at h2;rw[List.getElem?_replicate] at h2;split at h2<;>cases h2
  have ha:vs[i]?=some v:=by
   unfold start at h2;rw[List.getElem?_append_left (by simpa using hi),List.getElem?_map] at h2;cases e:vs[i]? with
   | none=>rw[e] at h2;cases h2
   | some a=>rw[e] at h2;cases h2;rfl
  let(u,hu,rv):=r.get ha;have hp:ps[i]?=some y:=by
   rw[<- S.pre,List.getElem?_take_of_lt (by cbv)];exact h1
  have ndP:ps.Nodup:=by rw[<- S.pre];exact S.nd.sublist (List.take_sublist _ _)
  show#[u,rv,?_];rcases S.par y (aaA hp) with k | k
  .exact .inl #[k,rg ndP hp hu k]
  .let(c,e):=uZ (n:=↑s+1) k;show .inr #[.inl k,c,e,?_];have q:=x.cell y c e;rw[r9 ndP hp hu (by change scope.names.lookup y≠_;rw[k];decide)] at q;exact q
 .exact e0.aD.fresh (abp (x.above y c (aat h)))
 .unfold start;change _=N.length;rw[ZE,Zy,abD];cbv
theorem Dz{CX:u4}{P:Fr}{w:Fa}{K:Frag}{mg:Str->Option AT}{base:Ev}{k:Nat}{f:AC}{name qual:Str}{params:Arguments}{body:!Fk}{scope:Scope}{dV kV doc pm bp ct oc:AT}{an od:Option AC}{vv:Array (Option AT)}{N ps:!Str}{sp:Sp}(lk:K.lookup f=some #[oc,od,.func (fnOf name qual params body scope dV kV doc pm an bp ct),vv])(rB:codeIn K bp qual=true)(S:ar N ps scope)(len:∀ vs H Q E,sp vs H Q E->vs.length=ps.length)(pU:∀ (A:GE) (outer:!Env) (s:Ch) (H:Hp) (vs:!V) (Q:VK) (E:XK),bF k (A.deeper (envOfC qual scope ↑s f bp))->sp vs H Q E ->
   ∃ t,nX (jO CX P w K mg base N qual scope f bp A outer s H E) body t/\t { nx:=λ_ H'=>Q .bX H',rt:=Q } (start N vs) H) :
  br P w K mg base CX (k+1) f (fnOf name qual params body scope dV kV doc pm an bp ct) ps sp:=by
 show#[len,λA outer s H args us vs Q E hr e0 hb r Br=>?_];have hl:=len _ _ _ _ Br;have KX:K.In s.heap:=e0.mod.Mb.keeps λb o e=>(e0.bs b o e).1;have lim:s.heap.NoLimit:=e0.mod.nolimit.keeps λb o e=>(e0.bs b o e).1;have hkind:∀ y∈ps.zip us,scope.names.lookup y.1=some .local\/(scope.names.lookup y.1=some .cell/\((cellsFrom (↑s+1) scope.names []).lookup y.1).isSome=true):=λz2r hy=>by
  let(n,v):=z2r;rcases S.par n (List.of_mem_zip hy).1 with q | q
  .exact .inl q
  .exact .inr #[q,PySem.W.cellsFrom_some _ _ _ (.inl q)]
 show codeAny_call_function hr.depth (KX _ _ lk) U S.co S.gen U (PySem.W.codeRec_of KX rB) (hb _ _ _ _ ?_);have hloc:∃ y∈ps.zip us,scope.names.lookup y.1=some .local:=by
  let(n1,m1,h1):=S.fst;let(k,hk,ek):=List.mem_iff_getElem.mp m1;have hlu:k < us.length:=by rw[<- r.length,hl];exact hk
  exact#[(n1,us[k]),List.mem_iff_getElem.mpr #[k,by rw[List.length_zip];cbv,by simp[ek]],h1]
 show fF.any (B5 S.kind hloc) (wpAny_newFunctionEnv_cells S.kind hkind λenv he s1 x tl=>?_);subst he;show#[lim.keeps x.toInCall.keep,codeAny_func ?_];let(t,ht,hq):=pU A outer s H vs Q E (hr.deeper _) Br;have I:Inv (jO CX P w K mg base N qual scope f bp A outer s H E) [] (start N vs) H s1:=AX S hr.hd e0 hl r x tl;show KM (ht [] s1 (start N vs) H _ I hq) (λfl s' hs=>?_) λe s' hs=>hs;have fin:∀ {O':St} {H':Hp} {v:V} {u:AT},Inv (jO CX P w K mg base N qual scope f bp A outer s H E) [] O' H' s'->RelV v u->Q v H'->CE outer P w H s Q u s' :=
  λ{O' H' v u} J rv q=>#[v,H',J.os,J.bare,J.base,J.aD,rv,q]
 cases fl with
 | ret u =>
  let(v,O',H',J,rv,q):=hs;exact fin J rv q
 | next =>
  let(O',H',J,q):=hs;exact fin (v:=V.bX) (u:=AT.none) J U q
 | brk =>
  let(_,_,_,q):=hs;exact False.elim q
 | cont =>
  let(_,_,_,q):=hs;exact False.elim q
section
variable{X:Cx}{x:Str}{p pos:Pos}{e:Da}{es:!Da}{t:TA}{id T:String}{r:!V->Hp->VK->Prop}
def HY(r:!V->Hp->VK->Prop)(t:TA):TE:=λO H Q=>t O H λvs H1=>r vs H1 Q
theorem cq(hc:eE X (.builtin id) r)(hg:Gl X x)(hm:X.mg x=none)(hv:bootBuiltins x=some (.builtin id))(ha:PA X (e::es) t)(hn: ~~~(x≠"__name__"))(fM: ~~~(abP x))(he:(abN X.env e es)⁻¹)(dI:(abO X.env pos es)⁻¹):PE X (.Call (.Name x p) (e::es) [] pos) (HY r t):=by
 intro Tl s O H Q I h;show wpAny_Call_Name_kw (kf I hg hm hv ?_ hn fM);exact PyProof.Rows.callWith_builtin1 (bQ (ha pos Tl s O H _ I h) λus s1 zz=>el2 zz λvs H1 I1 r1 q1=>hc Tl s1 O H1 vs us Q I1 r1 q1) he dI
theorem rP(hc:eE X (.type T) r)(hg:Gl X x)(hm:X.mg x=none)(hv:bootBuiltins x=some (.type T))(ha:PA X (e::es) t)(hn: ~~~(x≠"__name__"))(fM: ~~~(abP x))(he:(abN X.env e es)⁻¹)(dI:(abO X.env pos es)⁻¹):PE X (.Call (.Name x p) (e::es) [] pos) (HY r t):=by
 intro Tl s O H Q I h;show wpAny_Call_Name_kw (kf I hg hm hv ?_ hn fM);exact PyProof.Rows.callWith_type1 (bQ (ha pos Tl s O H _ I h) λus s1 zz=>el2 zz λvs H1 I1 r1 q1=>hc Tl s1 O H1 vs us Q I1 r1 q1) he dI
end
end L2
namespace HT
open PySem PyProof.Rows
section
open PySem.SeqAt
open PySem.AutoSeq1 (wpAny_loadPart')
open PySem.MeetsSeq PySem.MeetsSeq2 PySem.MeetsSeq3
end
section
variable{prog:Fr}{w:Fa}{A:GE}{E:abK}{s:Ch}
theorem FC{t b:AC}{vs ws:!AT}{Q:abK}(ht:IsTup s.heap t vs.toArray)(hb:IsTup s.heap b ws.toArray)(hv:vs≠[])(h1:ws=[]->Q (.ref t) s)(h2:ws≠[]->Q (.ref ↑s) { s with heap:=s.heap.push { cls:=.type "tuple",data:=.seq (vs++ws).toArray } })(hsz:vs.length+ws.length<=FB):EQ (model prog w) A (P3 .Add (.ref t) (.ref b)) Q E s:=by
 let((cls,dd,data,sl),ho,hc,n,hd):=id ht;let((cls2,IB,data2,Mj),ho2,hc2,n2,hd2):=id hb;simp only at hc hd hc2 hd2;subst hc hd hc2 hd2;have e:vs.toArray++ws.toArray=(vs++ws).toArray:=by simp
 by_cases hw:ws=[]
 .exact concat_meets #[_,ho,U] #[_,ho2,U] noFill_tuple_add seq_tuple_add abz abw (abr _ _)
   (tuple_addW1 t b vs.toArray ws.toArray n n2 dd IB sl Mj (by simpa using hv) (by simp[hw])) #[ho,ho2,h1 hw]
 .refine concat_meets #[_,ho,U] #[_,ho2,U] noFill_tuple_add seq_tuple_add abz abw (abr _ _)
   (tuple_addW2 t b vs.toArray ws.toArray n n2 dd IB sl Mj (by simpa using hv) (by simpa using hw) (by rw[List.size_toArray,List.size_toArray];exact hsz)) #[ho,ho2,?_]
  rw[e];exact h2 hw
def ck(n d:Nat):Option Int->Nat
 | none=>d
 | some v=>if v < 0 then (v+(n:Int)).toNat else min v.toNat n
theorem uU(n d:Nat):ck n d none=d:=rfl
theorem jx(n d k:Nat):ck n d (some (k:Int))=min k n:=by
 change (if (k:Int) < 0 then ((k:Int)+(n:Int)).toNat else min (k:Int).toNat n)=min k n;rw[if_neg (by cbv),Int.toNat_natCast]
theorem JQ(n d:Nat)(hd:d<=n)(o:Option Int):ck n d o<=n:=by
 cases o with
 | none=>exact hd
 | some v =>
  change (if v < 0 then (v+(n:Int)).toNat else min v.toNat n)<=n;by_cases hv:v < 0
  .rw[if_pos hv];cbv
  .rw[if_neg hv];exact Nat.min_le_right _ _
theorem zp(v:Int)(n d:Nat):(if v < 0 then max (v+(n:Int)) 0 else min v (n:Int))=((ck n d (some v):Nat):Int):=by
 change (if v < 0 then max (v+(n:Int)) 0 else min v (n:Int))=(((if v < 0 then (v+(n:Int)).toNat else min v.toNat n):Nat):Int);by_cases hv:v < 0
 .simp only[if_pos hv];cbv
 .simp only[if_neg hv];cbv
theorem xm(lo hi:Option Int)(n:Nat):GT.Slice.sliceAdjust lo hi 1 (n:Int)=(((ck n 0 lo:Nat):Int),((ck n n hi:Nat):Int)):=by
 have h1:¬ ((1:Int) < 0):=by cbv
 unfold GT.Slice.sliceAdjust;simp only[h1,if_false];show Prod.ext ?_ ?_
 .cases lo with
  | none=>rfl
  | some v=>exact zp v n 0
 .cases hi with
  | none=>rfl
  | some v=>exact zp v n n
theorem yq(i j:Nat):GT.Slice.slicePlaces (i:Int) (j:Int) 1=j - i:=by
 unfold GT.Slice.slicePlaces;have h1:(1:Int) > 0:=by cbv
 simp only[h1,if_true,Int.ediv_one];split<;>cbv
theorem qy{v:AT}{o:Option Int}{Q:Option Int->Ch->Prop}(p:IsPart v o)(h:Q o s):EQ (model prog w) A (GT.Slice.slicePartIndex v) Q E s:=by
 cases p with
 | none=>exact slicePart_none h
 | int i t=>exact slicePart_int h
theorem g0{sl:AC}{vl vu:AT}{lo hi:Option Int}{n:Nat}{Q:Int×Int×Nat->Ch->Prop}(hs:s.heap.IsSliceOf sl vl vu .none)(pl:IsPart vl lo)(pu:IsPart vu hi)(h:Q (((ck n 0 lo:Nat):Int),1,ck n n hi - ck n 0 lo) s):EQ (model prog w) A (GT.Slice.sliceApplied (.ref sl) (pure (n:Int))) Q E s:=by
 let(os,xA,hcs,hds):=id hs;unfold GT.Slice.sliceApplied GT.Slice.sliceFields;show Db (Db (Os xA hds (x:=vl) U (Db (Os xA hds (x:=vu) U (Db (Os xA hds (x:=.none) U (GM ?_)))))));show Db (slicePart_none ?_);change EQ _ _ (if ((1:Int) == 0)=true then _ else _) _ _ s;rw[if_neg ()];show Db (qy pl (Db (qy pu (Db (GM ?_)))));change EQ _ _ (match GT.Slice.sliceAdjust lo hi 1 (n:Int) with | (lo,hi)=>pure (lo,(1:Int),GT.Slice.slicePlaces lo hi 1)) _ _ s;rw[xm lo hi n];change EQ _ _ (pure (((ck n 0 lo:Nat):Int),(1:Int),GT.Slice.slicePlaces ((ck n 0 lo:Nat):Int) ((ck n n hi:Nat):Int) 1)) _ _ s;rw[yq];exact GM h
theorem BE(xs:Array AT)(i k:Nat):((List.range k).filterMap λ(m:Nat)=>xs[((i:Int)+(m:Int) * 1).toNat]?).toArray=((xs.toList.drop i).take k).toArray:=by
 have e:(λ(m:Nat)=>xs[((i:Int)+(m:Int) * 1).toNat]?)=λm=>xs[i+m]?:=by
  funext m
  have:((i:Int)+(m:Int) * 1).toNat=i+m:=by cbv
  rw[this]
 rw[e];have:=pick_run xs i k;rw[List.filterMap_map] at this;have e2:((λx=>xs[x]?)∘λx=>i+x)=λm=>xs[i+m]?:=rfl;rw[e2] at this;rw[this]
theorem lO{t sl:AC}{items:Array AT}{vl vu:AT}{lo hi:Option Int}{Q:abK}(ht:IsTup s.heap t items)(hs:s.heap.IsSliceOf sl vl vu .none)(pl:IsPart vl lo)(pu:IsPart vu hi)(hw:¬ (ck items.size 0 lo=0/\ck items.size items.size hi=items.size))(h:Q (.ref ↑s) { s with heap:=s.heap.push { cls:=.type "tuple",data:=.seq ((items.toList.drop (ck items.size 0 lo)).take (ck items.size items.size hi - ck items.size 0 lo)).toArray } })(hsz:items.size<=FB):EQ (model prog w) A (getItem (.ref t) (.ref sl)) Q E s:=by
 have htake:sizeOk (.seq ((items.toList.drop (ck items.size 0 lo)).take (ck items.size items.size hi - ck items.size 0 lo)).toArray):=by
  change ((items.toList.drop (ck items.size 0 lo)).take (ck items.size items.size hi - ck items.size 0 lo)).toArray.size<=FB;rw[ZV,aak,Z3,aa5];cbv
 have hj:ck items.size items.size hi<=items.size:=JQ _ _ (ZC _) hi;let(os,xA,hcs,hds):=id hs;have hTs:s.TypeIs (.ref sl) "slice":=#[os,xA,hcs];unfold getItem
 try with_reducible show Rs ?_
 first | show Db (GM ?_) | skip
 show Db (wpAny_sequenceKey ht.typeIs () ?_);show Db (wpAny_callSpecial?_slot (name:=Str.ofString "__getitem__") ht.typeIs PyProof.Rows.slot_tuple_getitem
  (TW PyProof.Rows.slot_tuple_getitem ht.typeIs entry_tuple_getitem ?_ (args_tuple_getitem _ _)))
 change EQ _ _ (GT.Tuple.tupleItemsOf (.ref t) >>= _) _ _ s;show Db (tupleItemsOf_ ht ?_);show Db (wpAny_typeOf hTs ?_);rw[if_pos ()];show Db (g0 hs pl pu ?_);have hno:¬ ((((ck items.size 0 lo:Nat):Int) == 0&&(1:Int) == 1&&(ck items.size items.size hi - ck items.size 0 lo) == items.size)=true):=by
  intro q;rw[ZX,ZX] at q;have q1:((ck items.size 0 lo:Nat):Int)=0:=eq_of_beq q.1.1;have q2:ck items.size items.size hi - ck items.size 0 lo=items.size:=eq_of_beq q.2;exact hw #[by cbv,by cbv]
 change EQ _ _ (if (((ck items.size 0 lo:Nat):Int) == 0&&(1:Int) == 1&&(ck items.size items.size hi - ck items.size 0 lo) == items.size)=true then _ else _) _ _ s;rw[if_neg hno,BE]
 first
  | exact Db (m:=GT.Tuple.tupleExact _) (TD (GM #[_,U,GM h]) htake)
  | exact Db (m:=GT.Tuple.tupleExact _) (TD (Db (GM (GM #[_,U,GM h]))) htake)
  | exact Db (Db (m:=GT.Tuple.tupleExact _) (TD (GM (GM #[_,U,GM h])) htake))
  | exact Db (Db (m:=GT.Tuple.tupleExact _) (TD (GM #[_,U,GM h]) htake))
end
end HT
namespace L2
open PySem PySem.Spec PyProof.Rows
abbrev TO:=St->Hp->(Option Int->Hp->Prop)->Prop
def PO(X:Cx)(e:Option Da)(t:TO):Prop :=
 ∀ (Tl:abL) (s:Ch) (O:St) (H:Hp) (Q:Option Int->Hp->Prop),Inv X Tl O H s->t O H Q ->
  EQ (model X.prog X.w) X.A (evalPart e X.env) (λu s'=>∃ o H',Inv X Tl O H' s'/\IsPart u o/\Q o H') X.xe s
def FF:TO:=λ_ H Q=>Q none H
def C0(t:TE):TO:=λO H Q=>t O H λx H1=>∃ i,x=.int i/\Q (some i) H1
section
variable{X:Cx}{e:Da}{te:TE}{lo hi:Option Da}{tl th:TO}{pos p2:Pos}
theorem zV:PO X none FF:=by
 intro Tl s O H Q I h;rw[evalPart_none];exact GM #[none,H,I,.none,h]
theorem oE(h:PE X e te):PO X (some e) (C0 te):=by
 intro Tl s O H Q I hw;rw[evalPart_some];show bQ (h Tl s O H _ I hw) λu s1 zz=>el2 zz λx H1 I1 r1 q1=>?_;let(i,rfl,q):=q1;let(t,rfl):=r1;exact#[some i,H1,I1,.int i t,q]
def PX(X:Cx)(r:V->Option Int->Option Int->Hp->VK->Prop):Prop :=
 ∀ (Tl:abL) (s:Ch) (O:St) (H:Hp) (x:V) (v vl vu:AT) (lo hi:Option Int) (sl:AC) (Q:VK),Inv X Tl O H s->RelV x v->s.heap.IsSliceOf sl vl vu .none->IsPart vl lo->IsPart vu hi->r x lo hi H Q ->
  ∃ T id,typeLookup (.type T) "__getitem__"=pure (some (.builtin id))/\s.TypeIs v T/\EQ (model X.prog X.w) X.A (getItem v (.ref sl)) (EP X Tl O Q) X.xe s
def WA(r:V->Option Int->Option Int->Hp->VK->Prop)(te:TE)(tl th:TO):TE:=λO H Q=>te O H λx H1=>tl O H1 λl H2=>th O H2 λu H3=>r x l u H3 Q
theorem iV{r:V->Option Int->Option Int->Hp->VK->Prop}(hr:PX X r)(he:PE X e te)(hl:PO X lo tl)(hu:PO X hi th):PE X (.Subscript e (.Slice lo hi none p2) pos) (WA r te tl th):=by
 intro Tl s O H Q I h;show Subscript_ (bQ (he Tl s O H _ I h) λv s1 z0q=>?_);let(x,H1,I1,r1,q1):=z0q;show wpAny_Slice (bQ (hl Tl s1 O H1 _ I1 q1) λvl s2 zz=>el2 zz λl H2 I2 pl q2=>bQ (hu Tl s2 O H2 _ I2 q2) λvu s3 z1q=>?_);let(u,H3,I3,pu,q3):=z1q;rw[evalPart_none];show GM ?_;have I4:Inv X Tl O H3 { s3 with heap:=s3.heap.push { cls:=.type "slice",data:=.fields #v[vl,vu,.none] } }:=I3.kept (t':=s3.toks) λb ob q=>Zz _ q;let(T,id,hT,ht,hg):=hr Tl { s3 with heap:=s3.heap.push { cls:=.type "slice",data:=.fields #v[vl,vu,.none] } } O H3 x v vl vu l u ↑s3 Q I4 r1 (Ev.IsSliceOf.new ..) pl pu q3;change EQ (model X.prog X.w) X.A (subscriptTail e (.Slice lo hi none p2) v (.ref ↑s3)) (EP X Tl O Q) X.xe { s3 with heap:=s3.heap.push { cls:=.type "slice",data:=.fields #v[vl,vu,.none] } };exact tail_any (ops:=[.ref ↑s3,v]) ht hT hg (by with_unfolding_all rfl)
def ph(xs:!V)(lo hi:Option Int):!V:=(xs.drop (HT.ck xs.length 0 lo)).take (HT.ck xs.length xs.length hi - HT.ck xs.length 0 lo)
theorem nG(xs:!V)(lo hi:Option Int):(ph xs lo hi).length<=xs.length:=by
 unfold ph;rw[aak,Z3];cbv
def Rj(K:Frag):V->Option Int->Option Int->Hp->VK->Prop:=λx lo hi H Q=>∃ a xs,x=.ref a/\ja K H a xs /\
 ¬ (HT.ck xs.length 0 lo=0/\HT.ck xs.length xs.length hi=xs.length)/\∀ p,H p=none->Q (.ref p) (upd H p (.tup (ph xs lo hi)))
theorem Lf:PX X (Rj X.K):=by
 intro Tl s O H x v vl vu lo hi sl Q I rx hs pl pu h;let(a,xs,rfl,hx,hw,q):=h;cases rx;let(its,r,ht,hz):=I.tuple hx;have hlen:its.toArray.size=xs.length:=by rw[ZV];exact r.length.symm
 show#["tuple",_,PyProof.Rows.slot_tuple_getitem.lookup,ht.typeIs,?_];show HT.lO ht hs pl pu (by rw[hlen];exact hw) ?_ (by rw[hlen];exact hz);rw[hlen];show#[.ref ↑s,_,I.laid (t':=s.toks) (o:=.tup (ph xs lo hi)) (λb ob q=>Zz _ q) (ZC _) ?_,U,q _ (I.aD.fresh (ZC _))];exact#[ZH (nG xs lo hi) hz,_,(r.drop (HT.ck xs.length 0 lo)).take (HT.ck xs.length xs.length hi - HT.ck xs.length 0 lo),IsTup.new _ _]
def MB(K:Frag):R2:=λx y H Q=>∃ a b xs ys,x=.ref a/\y=.ref b/\ja K H a xs/\ja K H b ys/\xs≠[]/\xs.length+ys.length<=FB /\
 (ys=[]->Q (.ref a) H)/\(ys≠[]->∀ p,H p=none->Q (.ref p) (upd H p (.tup (xs++ys))))
theorem Vals.ou{xs:!V}{us:!AT}(r:Vals xs us):us=[]↔xs=[]:=by
 cases r with
 | nil=>simp
 | cons _ _=>simp
theorem Ga:iA X (P3 .Add) (MB X.K):=by
 intro Tl s O H x y v u Q I rx ry h;let(a,b,xs,ys,rfl,rfl,ha,hb,hx,hz,q1,q2):=h;cases rx;cases ry;let(its,r1,p1,_):=I.tuple ha;let(its2,r2,p2,_):=I.tuple hb;show HT.FC p1 p2 (λz=>hx (r1.ou.mp z)) (λz=>#[.ref a,H,I,U,q1 (r2.ou.mp z)]) (λz=>?_) (by rw[<- r1.length,<- r2.length];exact hz);show#[.ref ↑s,_,I.laid (t':=s.toks) (o:=.tup (xs++ys)) (λb ob q=>Zz _ q) (ZC _) ?_,U,q2 (λw=>z (r2.ou.mpr w)) _ (I.aD.fresh (ZC _))];exact#[by rw[ZE];exact hz,_,r1.append r2,IsTup.new _ _]
end
def zC(n:Nat)(i:Int):Option Nat:=if 0<=i then (if i < n then some i.toNat else none) else if -(n:Int)<=i then some (i+n).toNat else none
def kW{α:Type}(xs:!α)(i:Int):Option α:=(zC xs.length i).bind λj=>xs[j]?
theorem yu{n:Nat}{i:Int}{j:Nat}(h:zC n i=some j):seqIndex? i n=some j/\j < n/\-(n:Int)<=i/\i < n:=by
 unfold zC at h;by_cases h0:0<=i
 .rw[if_pos h0] at h;by_cases h1:i < n
  .rw[if_pos h1] at h;have e:i.toNat=j:=Z7 h;exact#[by rw[seqIndex_of h0 h1,e],by cbv,by cbv,h1]
  .rw[if_neg h1] at h;cases h
 .rw[if_neg h0] at h;by_cases h1:-(n:Int)<=i
  .rw[if_pos h1] at h;have e:(i+n).toNat=j:=Z7 h;exact#[by rw[seqIndex_neg (by cbv) h1,e],by cbv,h1,by cbv]
  .rw[if_neg h1] at h;cases h
theorem tq{α:Type}{xs:!α}{i:Int}{v:α}(h:kW xs i=some v):∃ j,seqIndex? i xs.length=some j/\xs[j]?=some v/\j < xs.length/\-(xs.length:Int)<=i/\i < xs.length:=by
 unfold kW at h;cases e:zC xs.length i with
 | none=>rw[e] at h;cases h
 | some j =>
  rw[e] at h;let(h1,h2,h3,h4):=yu e;exact#[j,h1,h,h2,h3,h4]
theorem gu{α:Type}{xs:!α}{j:Nat}{v:α}(h:xs[j]?=some v):kW xs (j:Int)=some v:=by
 have hj:j < xs.length:=(ZF.mp h).1;have e:zC xs.length (j:Int)=some j:=by
  unfold zC;rw[if_pos (by cbv),if_pos (by cbv)];simp
 unfold kW;rw[e];exact h
theorem iZ{α:Type}(xs:!α)(v:α):kW (xs++[v]) (-1)=some v:=by
 have hl:(xs++[v]).length=xs.length+1:=by simp
 have e:zC (xs++[v]).length (-1)=some xs.length:=by
  unfold zC;rw[hl,if_neg (),if_pos (by cbv)]
  congr 1
  cbv
 unfold kW;rw[e];change (xs++[v])[xs.length]?=some v;simp
def oA(b:Da):Prop:=∀ o i,subscripted b false o i=operate [o,i] (getItem o i)
def LW(X:Cx)(r:R2):Prop :=
 ∀ (value slice:Da) (Tl:abL) (s:Ch) (O:St) (H:Hp) (x y:V) (v u:AT) (Q:VK),Inv X Tl O H s->RelV x v->RelV y u->r x y H Q ->
  subscripted slice false v u=operate [v,u] (getItem v u)->EQ (model X.prog X.w) X.A (subscriptTail value slice v u) (EP X Tl O Q) X.xe s
def QG(X:Cx)(id:String)(r:V->!V->Hp->VK->Prop):Prop :=
 ∀ (Tl:abL) (s:Ch) (O:St) (H:Hp) (x:V) (xs:!V) (v:AT) (us:!AT) (Q:VK),Inv X Tl O H s->RelV x v->Vals xs us->r x xs H Q ->
  EQ (model X.prog X.w) X.A (call (.builtin id) (v::us)) (EP X Tl O Q) X.xe s
section
variable{X:Cx}{a b:Da}{ta tb:TE}{pos:Pos}
theorem nH{r:R2}(hr:LW X r)(ha:PE X a ta)(hb:PE X b tb)(hs:oA b):PE X (.Subscript a b pos) (jw r ta tb):=by
 intro Tl s O H Q I h;exact Subscript_ (KN ha hb I h λv u s2 x y H2 I2 rx ry q=>hr a b Tl s2 O H2 x y v u Q I2 rx ry q (hs _ _))
def K2(K:Frag):R2:=λx y H Q=>∃ p xs i v,x=.ref p/\y=.int i/\dM K H p xs/\kW xs i=some v/\Q v H
def Pf(K:Frag):R2:=λx y H Q=>∃ p xs i v,x=.ref p/\y=.int i/\ja K H p xs/\kW xs i=some v/\Q v H
def NT:R2:=λx y H Q=>∃ z i c,x=.str z/\y=.int i/\z.length<=FB/\kW z.cps.toList i=some c/\Q (.str #[#v[c]]) H
theorem hV:LW X (K2 X.K):=by
 intro value slice Tl s O H x y v u Q I rx ry h hs;let(p,xs,i,z,rfl,rfl,hq,he,q):=h;cases rx;let(t,rfl):=ry;let(its,r,pl,hz):=I.list hq;let(j,h1,h2,h3,h4,h5):=tq he;let(w,ew,rw'):=r.get h2;have hl:=r.length;have hn:=j5;have fin:EP X Tl O Q w s:=#[z,H,I,rw',q];by_cases h0:0<=i
 .have hj:i.toNat=j:=by
   rw[seqIndex_of h0 h5] at h1;exact Z7 h1
  exact item_listR pl.isList h0 (by cbv) (by rw[hj];simpa using ew) fin hs
 .have hj:(i+(its.toArray.size:Int)).toNat=j:=by
   rw[seqIndex_neg (by cbv) h4] at h1;rw[ZV,<- hl];exact Z7 h1
  exact subscriptTail_builtinR (x:=w) pl.isList.typeIs slot_list_getitem.lookup
   (wpAny_getItem_list_neg (Q:=λr s'=>r=w/\EP X Tl O Q r s') pl.isList (by cbv) (by rw[List.size_toArray]<;>cbv) (by cbv) (by rw[hj];simpa using ew) #[U,fin]) hs
theorem KJ:LW X (Pf X.K):=by
 intro value slice Tl s O H x y v u Q I rx ry h hs;let(p,xs,i,z,rfl,rfl,hq,he,q):=h;cases rx;let(t,rfl):=ry;let(its,r,pl,hz):=I.tuple hq;let(j,h1,h2,h3,h4,h5):=tq he;let(w,ew,rw'):=r.get h2;have hl:=r.length;have hn:=j5;have fin:EP X Tl O Q w s:=#[z,H,I,rw',q];exact subscriptTail_builtinR (x:=w) pl.typeIs slot_tuple_getitem.lookup
  (getItem_tuple (j:=j) (Q:=λr s'=>r=w/\EP X Tl O Q r s') pl (by cbv) (by cbv) (by rw[List.size_toArray,<- hl];exact h1) (by simpa using ew) #[U,fin]) hs
theorem qD:LW X NT:=by
 intro value slice Tl s O H x y v u Q I rx ry h hs;let(z,i,c,rfl,rfl,hz,he,q):=h;let(t,rfl):=rx;let(t',rfl):=ry;let(j,h1,h2,h3,h4,h5):=tq he;have hl:z.cps.toList.length=z.length:=by simp[Str.length]
 rw[hl] at h1 h4 h5;have hn:=j5;exact tail_any (typeIs_str s z t) slot_str_getitem.lookup (getItem_str (c:=c) (by
  have e1:decide (i < -(2 ^ 63:Int))=false:=decide_eq_false (by cbv);have e2:decide (i ≥ 2 ^ 63)=false:=decide_eq_false (by cbv);rw[e1,e2,Bool.or_false]) (by rw[h1];simpa using h2) #[.str #[#v[c]],H,I.tok _,#[#[_,Nat.ne_of_gt I.tk],U],q]) hs
theorem yn(its:!AT)(n j:Nat)(u:AT):Obj.mapSeq (·.setIfInBounds j u) { cls:=.type "list",data:=.seq its.toArray n }={ cls:=.type "list",data:=.seq (its.set j u).toArray n }:=by
 simp[Obj.mapSeq]
theorem Inv.lst{Tl:abL}{O:St}{H:Hp}{s:Ch}{p:AC}{xs:!V}(I:Inv X Tl O H s)(h:H p=some (.lst xs)) :
  ∃ (its:!AT) (n:Nat),Vals xs its/\s.heap.get? p=some { cls:=.type "list",data:=.seq its.toArray n }/\xs.length<=FB:=by
 let(z,its,n,r,e):=I.aD p _ h;exact#[its,n,r,e,z]
theorem Inv.JV{Tl:abL}{O:St}{H:Hp}{s:Ch}{p:AC}{xs ys:!V}{its its':!AT}{n n':Nat}{f:Obj->Obj}(I:Inv X Tl O H s)(h:H p=some (.lst xs))(ho:s.heap.get? p=some { cls:=.type "list",data:=.seq its.toArray n })(hf:f { cls:=.type "list",data:=.seq its.toArray n }={ cls:=.type "list",data:=.seq its'.toArray n' })(r:Vals ys its')(hz:ys.length<=FB)(t:Nat)(ht:0 < t:=by first | exact aai _ | exact Inv.tk (by assumption) | assumption) :
  Inv X Tl O (upd H p (.lst ys)) { s with heap:=s.heap.update p f,toks:=t }:=by
 have e:(s.heap.update p f).get? p=some { cls:=.type "list",data:=.seq its'.toArray n' }:=by
  rw[aau f ho (by rw[hf]<;>rfl),hf]
 show I.write (x:=p) (e:=p) (by rw[h];trivial) (.inl U) (λb u hb q=>(ZY _ _ (Ne.symm hb)).trans q) #[_,e] ?_;exact#[hz,its',n',r,e]
def HK:V->V->V->Hp->(Hp->Prop)->Prop:=λo i v H Q=>∃ p xs k j,o=.ref p/\i=.int k/\H p=some (.lst xs)/\zC xs.length k=some j/\Q (upd H p (.lst (xs.set j v)))
theorem set_list:OV X HK:=by
 intro Tl s O H o i v ov iv u Q I ro ri rv h;let(p,xs,k,j,rfl,rfl,hp,hj,q):=h;cases ro;let(t,rfl):=ri;let(its,n,r,ho,hz):=I.lst hp;let(h1,h2,h3,h4):=yu hj;have hl:=r.length;have hn:=j5;have I':Inv X Tl O (upd H p (.lst (xs.set j v))) { s with heap:=s.heap.update p (Obj.mapSeq (·.setIfInBounds j u)) } :=
  I.JV hp ho (yn its n j u) (r.set rv j) (by rw[aab];exact hz) s.toks
 by_cases h0:0<=k
 .have hk:k.toNat=j:=by
   rw[seqIndex_of h0 h4] at h1;exact Z7 h1
  exact PySem.W.ki_setAt ho h0 (by cbv) (by rw[ZV,<- hl];exact h4) (by rw[hk];exact#[_,I',q])
 .have hk:(k+(its.toArray.size:Int)).toNat=j:=by
   rw[seqIndex_neg (by cbv) h3] at h1;rw[ZV,<- hl];exact Z7 h1
  exact PySem.W.ki_setBack ho (by cbv) (by rw[ZV,<- hl];exact h3) (by cbv) (by rw[hk];exact#[_,I',q])
theorem sA(lo hi:Option Int)(n:Nat):(sliceBounds lo hi none n).1=((HT.ck n 0 lo:Nat):Int)/\(sliceBounds lo hi none n).2.1=((HT.ck n n hi:Nat):Int)/\(sliceBounds lo hi none n).2.2=1:=by
 show#[?_,?_,U]
 .cases lo with
  | none=>simp[sliceBounds,HT.ck]
  | some i =>
   simp only[sliceBounds,HT.ck,Option.getD_none,show (1:Int) > 0 by decide,if_true];by_cases h:i < 0
   .simp only[h,if_true]<;>cbv
   .simp only[h,if_false]<;>cbv
 .cases hi with
  | none=>simp[sliceBounds,HT.ck]
  | some i =>
   simp only[sliceBounds,HT.ck,Option.getD_none,show (1:Int) > 0 by decide,if_true];by_cases h:i < 0
   .simp only[h,if_true]<;>cbv
   .simp only[h,if_false]<;>cbv
theorem qO(its:!AT)(lo hi:Option Int):slicePick its.toArray lo hi none=((its.drop (HT.ck its.length 0 lo)).take (HT.ck its.length its.length hi - HT.ck its.length 0 lo)).toArray:=by
 let(h1,h2,h3):=sA lo hi its.toArray.size;unfold slicePick;rw[h1,h2,h3];simp only[sliceRange_one,pick_run,List.size_toArray]<;>rfl
def OD(K:Frag):V->Option Int->Option Int->Hp->VK->Prop:=λx lo hi H Q=>∃ a xs,x=.ref a/\dM K H a xs/\∀ p,H p=none->Q (.ref p) (upd H p (.lst (ph xs lo hi)))
theorem zN:PX X (OD X.K):=by
 intro Tl s O H x v vl vu lo hi sl Q I rx hs pl pu h;let(a,xs,rfl,hx,q):=h;cases rx;let(its,r,ht,hz):=I.list hx;have hlen:=r.length;show#["list",_,slot_list_getitem.lookup,ht.isList.typeIs,?_];show wpAny_getItem_list_slice ht.isList hs pl pu .none (by simp) ?_ (by rw[List.size_toArray]<;>cbv);rw[qO,<- hlen];show#[.ref ↑s,_,I.laid (t':=s.toks) (o:=.lst (ph xs lo hi)) (λb ob q=>Zz _ q) (ZC _) ?_,U,q _ (I.aD.fresh (ZC _))];exact#[ZH (nG xs lo hi) hz,_,0,(r.drop (HT.ck xs.length 0 lo)).take (HT.ck xs.length xs.length hi - HT.ck xs.length 0 lo),ZS _ U]
def jT:V->Bool
 | .bX=>true
 | .bl _=>true
 | .int _=>true
 | .str _=>true
 | _=>false
def EX:V->V->Bool
 | .bX,.bX=>true
 | .bl a,.bl b=>a == b
 | .bl a,.int b=>(if a then 1 else 0) == b
 | .int a,.bl b=>a == (if b then 1 else 0)
 | .int a,.int b=>a == b
 | .str a,.str b=>a == b
 | _,_=>false
theorem Kg{A:GE}{s:Ch}{y x:V}{u v:AT}(ry:RelV y u)(rx:RelV x v)(fy:jT y=true)(fx:jT x=true):SeqAt.EqAt A s u v (EX y x):=by
 cases y with
 | bX =>
  cases ry;cases x with
  | bX=>cases rx;exact SeqAt.EqAt.same _
  | bl b=>cases rx;exact SeqAt.EqAt.none_bool b
  | int b=>let(t,rfl):=rx;exact SeqAt.EqAt.none_int b t
  | str b=>let(t,rfl):=rx;exact SeqAt.EqAt.none_str b t
  | _=>exact absurd (show false=true from fx) ZP
 | bl a =>
  cases ry;cases x with
  | bX=>cases rx;exact SeqAt.EqAt.bool_none a
  | bl b=>cases rx;exact SeqAt.EqAt.bool_bool a b
  | int b=>let(t,rfl):=rx;exact SeqAt.EqAt.bool_int a b t
  | str b=>let(t,rfl):=rx;exact SeqAt.EqAt.bool_str a b t
  | _=>exact absurd (show false=true from fx) ZP
 | int a =>
  let(t',rfl):=ry;cases x with
  | bX=>cases rx;exact SeqAt.EqAt.int_none a t'
  | bl b=>cases rx;exact SeqAt.EqAt.int_bool a t' b
  | int b=>let(t,rfl):=rx;exact SeqAt.EqAt.int_int a t' b t
  | str b=>let(t,rfl):=rx;exact SeqAt.EqAt.int_str a t' b t
  | _=>exact absurd (show false=true from fx) ZP
 | str a =>
  let(t',rfl):=ry;cases x with
  | bX=>cases rx;exact SeqAt.EqAt.str_none a t'
  | bl b=>cases rx;exact SeqAt.EqAt.str_bool a t' b
  | int b=>let(t,rfl):=rx;exact SeqAt.EqAt.str_int a t' b t
  | str b=>let(t,rfl):=rx;exact SeqAt.EqAt.str_str a t' b t
  | _=>exact absurd (show false=true from fx) ZP
 | _=>exact absurd (show false=true from fy) ZP
def wV(x:V)(u:AT):Bool:=match u with
 | .none=>EX .bX x
 | .bool b=>EX (.bl b) x
 | .int i _=>EX (.int i) x
 | .str z _=>EX (.str z) x
 | _=>false
theorem Et{x y:V}{u:AT}(r:RelV y u)(f:jT y=true):wV x u=EX y x:=by
 cases y with
 | bX=>cases r;rfl
 | bl b=>cases r;rfl
 | int i=>let(t,rfl):=r;rfl
 | str z=>let(t,rfl):=r;rfl
 | _=>exact absurd (show false=true from f) ZP
theorem lE{x:V}:∀ {xs:!V} {us:!AT},Vals xs us->xs.all jT=true->us.any (wV x)=xs.any λy=>EX y x
 | _,_,.nil,_=>rfl
 | y::xs,u::us,.cons r t,f=>by
  rw[List.all_cons,ZX] at f;rw[abf,abf,Et r f.1,lE t f.2]
theorem ji{A:GE}{s:Ch}{x:V}{v:AT}(rx:RelV x v)(fx:jT x=true):∀ {xs:!V} {us:!AT},Vals xs us->xs.all jT=true->∀ u∈us,SeqAt.EqAt A s u v (wV x u)
 | _,_,.nil,_=>λu hu=>by cases hu
 | y::xs,u::us,.cons r t,f=>λu' hu=>by
  rw[List.all_cons,ZX] at f;rcases ZD.mp hu with rfl | hu
  .rw[Et r f.1];exact Kg r rx f.1 fx
  .exact ji rx fx t f.2 u' hu
def yU(x:V)(xs:!V):Bool:=xs.any λy=>EX y x
def LO(K:Frag)(neg:Bool):R2:=λx y H Q=>∃ p xs,y=.ref p/\(dM K H p xs\/ja K H p xs)/\jT x=true/\xs.all jT=true/\Q (.bl (if neg then (not (yU x xs)) else yU x xs)) H
theorem jz:iA X (PP .In) (LO X.K false):=by
 intro Tl s O H x y v u Q I rx ry h;let(p,xs,rfl,hq,fx,fs,q):=h;cases ry;rcases hq with hq | hq
 .let(its,r,pl,hz):=I.list hq;show SeqAt.in_listAt (wV x) pl.isList (λw hw=>ji rx fx r fs w (by simpa using hw)) #[.bl _,H,I,U,?_];rw[show its.toArray.any (wV x)=its.any (wV x) by simp,lE r fs];exact q
 .let(its,r,pl,hz):=I.tuple hq;show SeqAt.in_tupleAt (wV x) pl (λw hw=>ji rx fx r fs w (by simpa using hw)) #[.bl _,H,I,U,?_];rw[show its.toArray.any (wV x)=its.any (wV x) by simp,lE r fs];exact q
theorem lb:iA X (PP .NotIn) (LO X.K true):=by
 intro Tl s O H x y v u Q I rx ry h;let(p,xs,rfl,hq,fx,fs,q):=h;cases ry;rcases hq with hq | hq
 .let(its,r,pl,hz):=I.list hq;show SeqAt.notIn_listAt (wV x) pl.isList (λw hw=>ji rx fx r fs w (by simpa using hw)) #[.bl _,H,I,U,?_];rw[show its.toArray.any (wV x)=its.any (wV x) by simp,lE r fs];exact q
 .let(its,r,pl,hz):=I.tuple hq;show SeqAt.notIn_tupleAt (wV x) pl (λw hw=>ji rx fx r fs w (by simpa using hw)) #[.bl _,H,I,U,?_];rw[show its.toArray.any (wV x)=its.any (wV x) by simp,lE r fs];exact q
theorem fK:eE X (.builtin "len") (λxs H Q=>∃ p ys,xs=[.ref p]/\(dM X.K H p ys\/ja X.K H p ys)/\Q (.int ys.length) H):=by
 intro Tl s O H xs us Q I r h;let(p,ys,rfl,hq,q):=h;let(u,rfl,rx):=vals1 r;cases rx;have hn:=j5;rcases hq with hq | hq
 .let(its,r',pl,hz):=I.list hq;have hlen:=r'.length;exact Calls.call_len_list pl.isList (by simp only[List.size_toArray]<;>cbv) #[.int ys.length,H,I.tok _,#[s.toks+1,by rw[List.size_toArray,hlen]],q]
 .let(its,r',pl,hz):=I.tuple hq;have hlen:=r'.length;exact len_tuple pl (by simp only[List.size_toArray]<;>cbv) #[.int ys.length,H,I.tok _,#[s.toks+1,by rw[List.size_toArray,hlen]],q]
theorem bx:eE X (.builtin "len") (λxs H Q=>∃ z,xs=[.str z]/\z.length<=FB/\Q (.int z.length) H):=by
 intro Tl s O H xs us Q I r h;let(z,rfl,hz,q):=h;let(u,rfl,t,rfl):=vals1 r;have hn:=j5;exact len_str (by cbv) #[.int z.length,H,I.tok _,#[_,U],q]
theorem uf:eE X (.type "list") (λxs H Q=>∃ p ys,xs=[.ref p]/\(dM X.K H p ys\/ja X.K H p ys)/\∀ l,H l=none->Q (.ref l) (upd H l (.lst ys))):=by
 intro Tl s O H xs us Q I r h;let(p,ys,rfl,hq,q):=h;let(u,rfl,rx):=vals1 r;cases rx;have fin:∀ (its:!AT),Vals ys its->ys.length<=FB->∀ (h':Ev) (c':Nat),(∀ b o',s.heap.get? b=some o'->h'.get? b=some o') ->
   h'.get? ↑s=some { cls:=.type "list",dict:=none,data:=.seq its.toArray c',slots:=#v[] }->EP X Tl O Q (.ref ↑s) { s with heap:=h' }:=λits r' hz h' c' kp e =>
  #[.ref ↑s,_,I.laid (t':=s.toks) kp (ZC _) (show cy X.prog X.w _ h' _ (.lst ys) from #[hz,its,c',r',e]),U,q _ (I.aD.fresh (ZC _))]
 rcases hq with hq | hq
 .let(its,r',pl,hz):=I.list hq;have hlen:=r'.length;let(o,ho,hc,n,hd):=pl.isList;exact call_list_seq p (.inl U) ho hc hd (λh' c' kp e=>fin its r' hz h' c' kp e) (by simp only[List.size_toArray]<;>cbv)
 .let(its,r',pl,hz):=I.tuple hq;have hlen:=r'.length;let(o,ho,hc,n,hd):=pl;exact call_list_seq p (.inr U) ho hc hd (λh' c' kp e=>fin its r' hz h' c' kp e) (by simp only[List.size_toArray]<;>cbv)
theorem qS:eE X (.type "tuple") (λxs H Q=>∃ p ys,xs=[.ref p]/\((dM X.K H p ys/\∀ l,H l=none->Q (.ref l) (upd H l (.tup ys)))\/(ja X.K H p ys/\Q (.ref p) H))):=by
 intro Tl s O H xs us Q I r h;let(p,ys,rfl,h):=h;let(u,rfl,rx):=vals1 r;cases rx;rcases h with ⟨hq,q⟩ | ⟨hq,q⟩
 .let(its,r',pl,hz):=I.list hq;have hlen:=r'.length;show call_tuple_list pl.isList (λh' kp=>?_) (by simp only[List.size_toArray]<;>cbv);have I1:Inv X Tl O H { s with heap:=h' }:=I.kept (t':=s.toks) kp;have I2:Inv X Tl O (upd H h'.objs.size (.tup ys)) { s with heap:=h'.push { cls:=.type "tuple",data:=.seq its.toArray } } :=
   I1.laid (t':=s.toks) (λb o e=>Zz _ e) (ZC _) (show cy X.prog X.w _ _ _ (.tup ys) from #[hz,its,r',IsTup.new _ _])
  exact#[.ref h'.objs.size,_,I2,U,q _ (I1.aD.fresh (ZC _))]
 .let(its,r',pl,hz):=I.tuple hq;exact call_tuple_same pl #[.ref p,H,I,U,q]
def Rw(K:Frag)(T:String)(x:V)(H:Hp):Prop:=match x with
 | .str _=>T="str"
 | .int _=>T="int"
 | .ref p=>(T="list"/\∃ xs,dM K H p xs)\/(T="tuple"/\∃ o,K.lookup p=some o/\o.cls=.type "tuple"/\o.dict=none) \/
   (T="dict"/\((∃ az,H p=some (.dK az))\/∃ az,H p=some (.dT az)))\/(T="set"/\∃ S n,H p=some (.set S n))
 | _=>False
theorem Ee{Tl:abL}{O:St}{H:Hp}{s:Ch}{T:String}{x:V}{v:AT}(I:Inv X Tl O H s)(r:RelV x v)(ty:Rw X.K T x H) :
  s.TypeIs v T/\∀ a,v=.ref a->∃ ob,s.heap.get? a=some ob/\ob.dict=none:=by
 cases x with
 | str z =>
  let(t,rfl):=r;cases (show T="str" from ty);exact#[typeIs_str s z t,λ_ e=>nomatch e]
 | int i =>
  let(t,rfl):=r;cases (show T="int" from ty);exact#[typeIs_int s i t,λ_ e=>nomatch e]
 | ref p =>
  cases r;rcases ty with ⟨rfl,xs,hq⟩ | ⟨rfl,o,hk,hc,hd⟩ | ⟨rfl,hk⟩ | ⟨rfl,S,n,hk⟩
  .let(its,_,pl,_):=I.list hq;show#[pl.isList.typeIs,λa e=>?_];cases e;let(o,n,e,c,hd,_):=pl;exact#[o,e,hd]
  .refine#[#[o,I.iW p o hk,hc],λa e=>?_];cases e;exact#[o,I.iW _ o hk,hd]
  .have z:∃ o,s.heap.get? p=some o/\o.ExactDict:=by
    rcases hk with ⟨az,hk⟩ | ⟨az,hk⟩
    .let(_,_,_,_,o,_,_,e,ex,_):=I.aD p _ hk;exact#[o,e,ex]
    .let(_,_,_,_,o,_,_,e,ex,_):=I.aD p _ hk;exact#[o,e,ex]
   let(o,e,ex):=z;show#[#[o,e,ex.1],λa e2=>?_];cases e2;exact#[o,e,ex.2.1]
  .let(o,_,_,_,e,ex,_):=I.aD p _ hk;show#[#[o,e,ex.1],λa e2=>?_];cases e2;exact#[o,e,ex.2.1]
 | _=>exact False.elim ty
def K3(K:Frag)(T:String)(r:V->!V->Hp->VK->Prop)(to:TE):TE:=λO H Q=>to O H λx H1=>Rw K T x H1/\r x [] H1 Q
def WV(K:Frag)(T:String)(r:V->!V->Hp->VK->Prop)(to:TE)(t:TA):TE:=λO H Q=>to O H λx H1=>Rw K T x H1/\t O H1 λxs H2=>r x xs H2 Q
variable{o e:Da}{es:!Da}{to:TE}{t:TA}{name:Str}{apos bq:Pos}{T id:String}{r:V->!V->Hp->VK->Prop}
theorem w9(pa:PlainAttrs T)(slot:Slot T name id)(K1:typeOf (.builtin id)=pure (.type "method_descriptor"))(hm:QG X id r)(ho:PE X o to)(eD:(attributeBase o name X.env (eval o X.env)=eval o X.env)⁻¹)(eM:((apos.endLine == bq.line)=true)⁻¹):PE X (.Call (.Attribute o name apos) [] [] bq) (K3 X.K T r to):=by
 intro Tl s O H Q I h;show wpAny_Call_method0_late eD eM (bQ (ho Tl s O H _ I h) λv s1 z2q=>?_);let(x,H1,I1,r1,ty,q1):=z2q;let(h1,h2):=Ee I1 r1 ty;exact#[T,id,pa,slot,K1,h1,h2,Calls.callWith_builtin U (PySem.evalArgs_none (hm Tl s1 O H1 x [] v [] Q I1 r1 .nil q1))]
theorem iD(pa:PlainAttrs T)(slot:Slot T name id)(K1:typeOf (.builtin id)=pure (.type "method_descriptor"))(hm:QG X id r)(ho:PE X o to)(ha:PA X (e::es) t)(eD:(attributeBase o name X.env (eval o X.env)=eval o X.env)⁻¹)(kb:(((KB bq (Go (e::es) X.env)).all (λx=>(not x.1))&&(ST bq (SZ [] X.env)).all (λx=>x.1.isSome)
   && decide ((e::es).length+([]:!Ps).length+(if ([]:!Ps).isEmpty then 0 else 1) < 30))=true)⁻¹)(eM:((apos.endLine == bq.line)=true)⁻¹)(hs:(abN X.env e es)⁻¹)(d6:((KB bq (Go es X.env)).any (·.1)=false)⁻¹) :
  PE X (.Call (.Attribute o name apos) (e::es) [] bq) (WV X.K T r to t):=by
 intro Tl s O H Q I h;show wpAny_Call_method_late eD kb eM U (bQ (ho Tl s O H _ I h) λv s1 z3q=>?_);let(x,H1,I1,r1,ty,q1):=z3q;let(h1,h2):=Ee I1 r1 ty;show#[T,id,pa,slot,K1,h1,h2,?_];have hA:=ha bq Tl s1 O H1 _ I1 q1;rw[hs] at hA ⊢;show Calls.callWith_builtin (by change (false||(KB bq (Go es X.env)).any (·.1))=false;rw[d6]<;>rfl) (Calls.evalArgs_plain ?_);exact bQ hA λus s2 #[vs,H2,I2,r2,q2]=>hm Tl s2 O H2 x vs v us Q I2 r1 r2 q2
end
def FO(X:Cx)(id:String)(r:V->!V->Hp->VK->Prop):Prop :=
 ∀ (Tl:abL) (s:Ch) (O:St) (H:Hp) (x:V) (xs:!V) (v:AT) (us:!AT) (Q:VK),Inv X Tl O H s->RelV x v->Vals xs us->r x xs H Q ->
  EQ (model X.prog X.w) X.A (call (.builtin id) (v::us)) (EP X Tl O Q) X.xe s
theorem Vals.one{x:V}{us:!AT}(h:Vals [x] us):∃ u,us=[u]/\RelV x u:=by
 cases h with
 | cons r t=>cases t with
  | nil=>exact#[_,U,r]
theorem Vals.two{x y:V}{us:!AT}(h:Vals [x,y] us):∃ u v,us=[u,v]/\RelV x u/\RelV y v:=by
 cases h with
 | cons r t=>cases t with
  | cons q t=>cases t with
   | nil=>exact#[_,_,U,r,q]
theorem Vals.zero:∀ {us:!AT},Vals [] us->us=[]
 | _,.nil=>rfl
theorem Vals.dropLast{xs:!V}{us:!AT}(h:Vals xs us):Vals xs.dropLast us.dropLast:=by
 induction h with
 | nil=>exact .nil
 | cons r t ih =>
  cases t with
  | nil=>exact .nil
  | cons q t'=>exact .cons r ih
theorem Vals.eraseIdx:∀ {xs:!V} {us:!AT} (i:Nat),Vals xs us->Vals (xs.eraseIdx i) (us.eraseIdx i)
 | _,_,_,.nil=>.nil
 | _,_,0,.cons _ t=>t
 | _,_,i+1,.cons r t=>.cons r (Vals.eraseIdx i t)
theorem Vals.reverse{xs:!V}{us:!AT}(h:Vals xs us):Vals xs.reverse us.reverse:=by
 induction h with
 | nil=>exact .nil
 | cons r t ih=>rw[aba,aba];exact Vals.append ih (.cons r .nil)
theorem xH{α:Type}(l:!α):l.eraseIdx (l.length - 1)=l.dropLast:=by
 induction l with
 | nil=>rfl
 | cons a r ih =>
  cases r with
  | nil=>rfl
  | cons b r =>
   have e:(a::b::r).length - 1=((b::r).length - 1)+1:=by
    have h1:(a::b::r).length=r.length+2:=rfl;have h2:(b::r).length=r.length+1:=rfl;cbv
   rw[e,List.eraseIdx_cons_succ,ih]
   all_goals rfl
theorem rN{α:Type}:∀ (l:!α) (i:Nat),(l.eraseIdx i).length<=l.length
 | [],_=>ZC _
 | _::_,0=>Nat.le_succ _
 | _::r,i+1=>aaM (rN r i)
section
variable{X:Cx}{Tl:abL}{O:St}{H:Hp}{s:Ch}{l b:AC}{xs ys zs:!V}
theorem Inv.EY{its its':!AT}{n:Nat}{f:Array AT->Array AT}{t':Nat}(I:Inv X Tl O H s)(hH:H l=some (.lst xs))(e:s.heap.get? l=some { cls:=.type "list",data:=.seq its.toArray n })(hf:f its.toArray=its'.toArray)(hv:Vals ys its')(hz:ys.length<=FB)(ht:0 < t':=by first | exact aai _ | exact Inv.tk (by assumption) | assumption) :
  Inv X Tl O (upd H l (.lst ys)) { s with heap:=s.heap.update l (Obj.mapSeq f),toks:=t' }:=by
 have q:=PySem.IsL.update e f;rw[hf] at q;show I.write (x:=l) (e:=l) (by rw[hH];exact trivial) (.inl U) (λb' u hb hu=>(ZY s.heap (Obj.mapSeq f) (Ne.symm hb)).trans hu) #[_,q] ?_;exact#[hz,its',_,hv,q]
theorem Inv.K6{its:!AT}{t':Nat}(I:Inv X Tl O H s)(hv:Vals ys its)(hz:ys.length<=FB)(ht:0 < t':=by first | exact aai _ | exact Inv.tk (by assumption) | assumption) :
  Inv X Tl O (upd H ↑s (.lst ys)) { s with heap:=s.heap.push { cls:=.type "list",data:=.seq its.toArray },toks:=t' } :=
 I.laid (λ_ _ q=>Zz _ q) (ZC _) #[hz,its,0,hv,ZS _ U]
theorem Inv.fresh(I:Inv X Tl O H s):H ↑s=none:=I.aD.fresh (ZC _)
theorem Inv.wM(I:Inv X Tl O H s)(hH:H l=some (.lst xs)):xs.length<=FB/\∃ (its:!AT) (n:Nat),Vals xs its/\xs.length=its.length/\s.heap.get? l=some { cls:=.type "list",data:=.seq its.toArray n }:=by
 let(z,its,n,r,e):=I.aD l _ hH;exact#[z,its,n,r,r.length,e]
theorem Cw{n:Nat}(h:n<=FB):GT.List.listTooLong n=false:=by
 unfold GT.List.listTooLong;exact decide_eq_false (by cbv)
end
section
variable{X:Cx}
def zr:V->!V->Hp->VK->Prop:=λx vs H Q=>∃ l xs y,x=.ref l/\vs=[y]/\H l=some (.lst xs)/\xs.length < FB/\Q .bX (upd H l (.lst (xs++[y])))
theorem eA:FO X "list.append" zr:=by
 intro Tl s O H x vs v us Q I rx rv h;let(l,xs,y,rfl,rfl,hH,hz,q):=h;cases rx;let(u,rfl,ru):=rv.one;let(z,its,n,r,hl,e):=I.wM hH;show call_meets F.slot_list_append #[_,e,U] F.entry_list_append (F.args_list_append_2 _ _) (PySem.list_append l its.toArray n u (by rw[ZV];cbv)) #[e,?_];show#[.bX,_,I.EY (its':=its++[u]) hH e (by simp) (r.append (.cons ru .nil)) ?_,U,q];rw[ZE,List.length_singleton];cbv
def zZ:V->!V->Hp->VK->Prop:=λx vs H Q=>∃ l b xs zs,x=.ref l/\vs=[.ref b]/\H l=some (.lst xs)/\H b=some (.lst zs)/\xs.length+zs.length<=FB/\Q .bX (upd H l (.lst (xs++zs)))
theorem AA:FO X "list.extend" zZ:=by
 intro Tl s O H x vs v us Q I rx rv h;let(l,b,xs,zs,rfl,rfl,hH,hB,hz,q):=h;cases rx;let(u,rfl,ru):=rv.one;cases ru;let(z,its,n,r,hl,e):=I.wM hH;let(z2,its2,n2,r2,Hg,e2):=I.wM hB;have hsz:its.toArray.size+its2.toArray.size<=FB:=by rw[ZV,ZV];cbv
 have hlong:¬ ((not its.toArray.isEmpty)&&GT.List.listTooLong (its.toArray.size+its2.toArray.size))=true:=by
  rw[Cw hsz,Bool.and_false];exact ZP
 show call_meets F.slot_list_extend #[_,e,U] F.entry_list_extend (F.args_list_extend_2 _ _)
  (AutoSeq1.list_extend_list_list_0 l its.toArray n b its2.toArray n2 hlong (by rw[ZV];cbv) (by cbv)) #[e,e2,?_]
 show#[.bX,_,I.EY (its':=its++its2) hH e (by simp) (r.append r2) ?_,U,q];rw[ZE];cbv
def K4:V->!V->Hp->VK->Prop:=λx vs H Q=>∃ l xs y,x=.ref l/\vs=[]/\H l=some (.lst xs)/\xs[xs.length - 1]?=some y/\Q y (upd H l (.lst xs.dropLast))
theorem wO:FO X "list.pop" K4:=by
 intro Tl s O H x vs v us Q I rx rv h;let(l,xs,y,rfl,rfl,hH,hy,q):=h;cases rx;have hus:=rv.zero;subst hus;let(z,its,n,r,hl,e):=I.wM hH;let(u,hu,ru):=r.get hy;have hy':its.toArray[its.toArray.size - 1]?=some u:=by
  change its.toArray[its.length - 1]?=some u;rw[<- aav,<- hl];exact hu
 show call_meets F.slot_list_pop #[_,e,U] F.entry_list_pop (F.args_list_pop_1 _) (MeetsSeq.list_pop_last l its.toArray n u hy' (by rw[ZV];cbv)) #[e,?_];show#[y,_,I.EY (its':=its.dropLast) hH e ?_ r.dropLast ?_,ru,q]
 .show its.toArray.eraseIdxIfInBounds (its.toArray.size - 1)=its.dropLast.toArray;rw[ZV,List.eraseIdxIfInBounds_toArray,xH]
 .rw[List.length_dropLast];cbv
def Dr:V->!V->Hp->VK->Prop:=λx vs H Q=>∃ l xs i k y,x=.ref l/\vs=[.int i]/\H l=some (.lst xs)/\-(2 ^ 63)<=i/\i < 2 ^ 63/\seqIndex? i xs.length=some k/\xs[k]?=some y/\Q y (upd H l (.lst (xs.eraseIdx k)))
theorem BR:FO X "list.pop" Dr:=by
 intro Tl s O H x vs v us Q I rx rv h;let(l,xs,i,k,y,rfl,rfl,hH,h1,h2,hk,hy,q):=h;cases rx;let(u,rfl,ru):=rv.one;let(t,rfl):=ru;let(z,its,n,r,hl,e):=I.wM hH;let(w,hw,rw'):=r.get hy;show call_meets F.slot_list_pop #[_,e,U] F.entry_list_pop (F.args_list_pop_2 _ _)
  (MeetsSeq.list_pop_at l its.toArray n i t k w (fitsIndex_both h1 h2) (by rw[ZV,<- hl];exact hk) (by rw[<- aav];exact hw) (by rw[ZV];cbv)) #[e,?_]
 show#[y,_,I.EY (its':=its.eraseIdx k) hH e ?_ (r.eraseIdx k) ?_,rw',q]
 .show its.toArray.eraseIdxIfInBounds k=(its.eraseIdx k).toArray;rw[List.eraseIdxIfInBounds_toArray]
 .have:=rN xs k;cbv
def Ph:R2:=λx y H Q=>∃ l b xs zs,x=.ref l/\y=.ref b/\H l=some (.lst xs)/\H b=some (.lst zs)/\xs.length+zs.length<=FB/\∀ p,H p=none->Q (.ref p) (upd H p (.lst (xs++zs)))
theorem aX:iA X (P3 .Add) Ph:=by
 intro Tl s O H x y v u Q I rx ry h;let(l,b,xs,zs,rfl,rfl,hH,hB,hz,q):=h;cases rx;cases ry;let(z,its,n,r,hl,e):=I.wM hH;let(z2,its2,n2,r2,Hg,e2):=I.wM hB;show PySem.P.add_list e e2 ?_ (by rw[ZV,ZV];cbv);have ea:its.toArray++its2.toArray=(its++its2).toArray:=by simp
 rw[ea];exact#[.ref _,_,I.K6 (t':=s.toks) (r.append r2) (by rw[ZE];cbv),U,q _ I.fresh]
end
section
variable{prog:Fr}{w:Fa}{A:GE}{E:abK}{s:Ch}
end
section
variable{X:Cx}
end
section
variable{κ:Type}[DecidableEq κ]
def hZ(az:!(κ×V))(k:κ):Option V:=(az.find? λkv=>decide (kv.1=k)).map (·.2)
def putK(az:!(κ×V))(k:κ)(v:V):!(κ×V) :=
 if (az.any λkv=>decide (kv.1=k))=true then az.map (λkv=>if kv.1=k then (kv.1,v) else kv) else az++[(k,v)]
theorem qp{k:κ}:hZ ([]:!(κ×V)) k=none:=rfl
theorem fT{p:κ×V}{r:!(κ×V)}{k:κ}(e:p.1=k):hZ (p::r) k=some p.2:=by simp[hZ,List.find?_cons,e]
theorem dU{p:κ×V}{r:!(κ×V)}{k:κ}(e:¬ p.1=k):hZ (p::r) k=hZ r k:=by simp[hZ,List.find?_cons,e]
theorem pO(k:κ):∀ az:!(κ×V),(az.any λkv=>decide (kv.1=k))=(hZ az k).isSome
 | []=>rfl
 | p::r=>by
  rw[abf];by_cases e:p.1=k
  .simp only[fT e,decide_eq_true e,Bool.true_or,Option.isSome_some]
  .rw[dU e,decide_eq_false e,Bool.false_or];exact pO k r
theorem iO(az:!(κ×V))(k:κ)(v:V):(putK az k v).length<=az.length+1:=by
 unfold putK;split
 .rw[Zy];cbv
 .rw[ZE,ZJ,List.length_nil];cbv
theorem oP{az:!(κ×V)}{k:κ}(v:V)(h:hZ az k=none):putK az k v=az++[(k,v)]:=by
 unfold putK;rw[pO,h];exact if_neg ()
theorem iH.Am{o:Option V}{u:Option AT}(r:iH o u):o.isSome=u.isSome:=by
 cases o with
 | none=>cases u with
  | none=>rfl
  | some _=>exact (show False from r).elim
 | some _=>cases u with
  | none=>exact (show False from r).elim
  | some _=>rfl
theorem iH.getD{o:Option V}{u:Option AT}{d:V}{d':AT}(r:iH o u)(rd:RelV d d'):RelV (o.getD d) (u.getD d'):=by
 cases o with
 | none=>cases u with
  | none=>exact rd
  | some _=>exact (show False from r).elim
 | some _=>cases u with
  | none=>exact (show False from r).elim
  | some _=>exact r
theorem KV.val{az:!(κ×V)}{vs:!(κ×AT)}(r:KV az vs)(k:κ):iH (hZ az k) (valueAt vs k):=by
 unfold KV at r
 induction r with
 | nil=>exact True.intro
 | @cons p q ps qs h t ih =>
  let(h1,h2):=h;by_cases e:p.1=k
  .have e':q.1=k:=h1.symm.trans e;have b:valueAt (q::qs) k=some q.2:=by simp[valueAt,List.find?_cons,e']
   rw[fT e,b];exact h2
  .have e':¬ q.1=k:=λz=>e (h1.trans z);have b:valueAt (q::qs) k=valueAt qs k:=by simp[valueAt,List.find?_cons,e']
   rw[dU e,b];exact ih
theorem KV.any{az:!(κ×V)}{vs:!(κ×AT)}(r:KV az vs)(k:κ):(az.any λkv=>decide (kv.1=k))=vs.any λkv=>decide (kv.1=k):=by
 unfold KV at r
 induction r with
 | nil=>rfl
 | cons h t ih=>rw[abf,abf,ih,h.1]
theorem KV.LG{az:!(κ×V)}{vs:!(κ×AT)}(r:KV az vs)(k:κ){y:V}{u:AT}(ry:RelV y u) :
  KV (az.map λkv=>if kv.1=k then (kv.1,y) else kv) (vs.map λkv=>if kv.1=k then (kv.1,u) else kv):=by
 unfold KV at r ⊢
 induction r with
 | nil=>exact .nil
 | @cons p q ps qs h t ih =>
  rw[ZG,ZG];show .cons ?_ ih;let(h1,h2):=h;by_cases e:p.1=k
  .rw[if_pos e,if_pos (h1.symm.trans e)];exact#[h1,ry]
  .rw[if_neg e,if_neg (λz=>e (h1.trans z))];exact#[h1,h2]
theorem KV.put{az:!(κ×V)}{vs:!(κ×AT)}(r:KV az vs)(k:κ){y:V}{u:AT}(ry:RelV y u):KV (putK az k y) (stored vs k u):=by
 unfold putK stored;rw[r.any k];by_cases e:(vs.any λkv=>decide (kv.1=k))=true
 .rw[if_pos e,if_pos e];exact r.LG k ry
 .rw[if_neg e,if_neg e];exact Paired.snoc r #[U,ry]
theorem KV.length{az:!(κ×V)}{vs:!(κ×AT)}(r:KV az vs):az.length=vs.length:=Paired.length r
end
theorem vz{P:Fr}{w:Fa}{k:Key}{u:AT}(r:RelV (kV k) u):(bV P w).is k u=true:=by
 cases k with
 | inl i=>let(t,e):=(show ∃ t,u=AT.int i t from r);subst e;exact u6 P w i t
 | inr x=>let(t,e):=(show ∃ t:xg,u=AT.str x t.1 from r);subst e;exact vT P w x t
theorem rZ{P:Fr}{w:Fa}:∀ {ks:!Key} {us:!AT},Vals (ks.map kV) us->ItemsAre (bV P w) ks us
 | [],_,r=>by rw[aa2] at r;cases r;exact .nil
 | k::ks,_,r=>by
  rw[ZG] at r;cases r with
  | cons h t=>exact .cons (vz h) (rZ t)
abbrev KT(H:Hp):!(!Key×V)->!(!Key×AC×AT)->Prop:=Paired λp q=>p.1=q.1/\H q.2.1=some (.tup (p.1.map kV))/\RelV p.2 q.2.2
theorem KT.val{H:Hp}{az:!(!Key×V)}{xs:!(!Key×AC×AT)}(r:KT H az xs)(k:!Key):iH (hZ az k) ((atKey xs k).map (·.2)):=by
 induction r with
 | nil=>exact True.intro
 | @cons p q ps qs h t ih =>
  let(h1,_,h2):=h;by_cases e:p.1=k
  .have e':q.1=k:=h1.symm.trans e;have b:atKey (q::qs) k=some q.2:=by simp[atKey,List.find?_cons,e']
   rw[fT e,b];exact h2
  .have e':¬ q.1=k:=λz=>e (h1.trans z);have b:atKey (q::qs) k=atKey qs k:=by simp[atKey,List.find?_cons,e']
   rw[dU e,b];exact ih
theorem KT.LG{H:Hp}{az:!(!Key×V)}{xs:!(!Key×AC×AT)}(r:KT H az xs)(k:!Key){y:V}{u:AT}(ry:RelV y u) :
  KT H (az.map λkv=>if kv.1=k then (kv.1,y) else kv) (xs.map (putAt k u)):=by
 induction r with
 | nil=>exact .nil
 | @cons p q ps qs h t ih =>
  rw[ZG,ZG];show .cons ?_ ih;let(h1,h2,h3):=h;unfold putAt;by_cases e:p.1=k
  .rw[if_pos e,if_pos (h1.symm.trans e)];exact#[h1,h2,ry]
  .rw[if_neg e,if_neg (λz=>e (h1.trans z))];exact#[h1,h2,h3]
theorem KT.put{H:Hp}{az:!(!Key×V)}{xs:!(!Key×AC×AT)}(r:KT H az xs)(k:!Key){b:AC}{y:V}{u:AT}(hb:H b=some (.tup (k.map kV)))(ry:RelV y u) :
  KT H (putK az k y) (storedH xs k b u):=by
 have e:(az.any λkv=>decide (kv.1=k))=(atKey xs k).isSome:=by
  rw[pO,(r.val k).Am,Option.isSome_map]
 unfold putK storedH;rw[e];by_cases q:(atKey xs k).isSome=true
 .rw[if_pos q,if_pos q];exact r.LG k ry
 .rw[if_neg q,if_neg q];exact Paired.snoc r #[U,hb,ry]
theorem KT.keeps{H H':Hp}{az:!(!Key×V)}{xs:!(!Key×AC×AT)}(r:KT H az xs)(ht:∀ b ys,H b=some (.tup ys)->H' b=some (.tup ys)):KT H' az xs :=
 Paired.Hb r λ_ _ z=>#[z.1,ht _ _ z.2.1,z.2.2]
section
variable{P:Fr}{w:Fa}{H:Hp}{h:Ev}{a:AC}
theorem HE{u:HO}(ok:jY P w H h)(e:Rd H a u):cy P w H h a u:=e.ok ok
theorem vK{az:!(Key×V)}(ok:jY P w H h)(e:Rd H a (.dK az)):az.length<=FB/\(a == SB)=false/\∃ vs,KV az vs/\h.DictOf (bV P w) a vs :=
 show cy P w H h a (.dK az) from HE ok e
theorem HB{az:!(Key×V)}(ok:jY P w H h)(e:H a=some (.dK az)):az.length<=FB/\(a == SB)=false/\∃ vs,KV az vs/\h.DictOf (bV P w) a vs:=vK ok (.inl e)
theorem tP{ks:!Key}(ok:jY P w H h)(e:H a=some (.tup (ks.map kV))):(tupleKind (bV P w)).is h ks a:=by
 let(_,its,r,o,h1,h2,n,h3):=(show cy P w H h a (.tup (ks.map kV)) from ok a _ e);exact#[o,its.toArray,n,h1,h2,h3,by simpa using rZ r]
theorem vS{az:!(!Key×V)}(ok:jY P w H h)(e:Rd H a (.dT az)):az.length<=FB/\(a == SB)=false /\
  ∃ xs,KT H az xs/\h.DictOfH (tupleKind (bV P w)) a xs:=by
 let(z,y,xs,r,o,es,ep,h1,h2,h3,h4,h5):=(show cy P w H h a (.dT az) from HE ok e);show#[z,y,xs,r,o,es,ep,h1,h2,h3,h4,λx hx=>?_,h5];have all:∀ {l:!(!Key×V)} {m:!(!Key×AC×AT)},KT H l m->∀ x∈m,(tupleKind (bV P w)).is h x.1 x.2.1:=by
  intro l m q
  induction q with
  | nil=>intro x hx;exact nomatch hx
  | @cons p q ps qs hq t ih =>
   intro x hx;rcases ZD.mp hx with e | hx
   .subst e;exact tP ok (by rw[<- hq.1];exact hq.2.1)
   .exact ih x hx
 exact all r x hx
theorem Nc{az:!(!Key×V)}(ok:jY P w H h)(e:H a=some (.dT az)):az.length<=FB/\(a == SB)=false /\
  ∃ xs,KT H az xs/\h.DictOfH (tupleKind (bV P w)) a xs:=vS ok (.inl e)
end
def iI(H:Hp)(a:AC)(y:V)(r:Option V):Prop :=
 (∃ az k,Rd H a (.dK az)/\y=kV k/\r=hZ az k)\/∃ az k b,Rd H a (.dT az)/\y=.ref b/\H b=some (.tup (k.map kV))/\r=hZ az k
def uX(H:Hp)(a:AC)(y v:V)(H':Hp):Prop :=
 (∃ az k,H a=some (.dK az)/\y=kV k/\az.length < FB/\H'=upd H a (.dK (putK az k v))) \/
 ∃ az k b,H a=some (.dT az)/\y=.ref b/\H b=some (.tup (k.map kV))/\az.length < FB/\H'=upd H a (.dT (putK az k v))
theorem iI.k{H:Hp}{a:AC}{az:!(Key×V)}{k:Key}(e:H a=some (.dK az)):iI H a (kV k) (hZ az k):=.inl #[az,k,.inl e,U,U]
theorem iI.t{H:Hp}{a b:AC}{az:!(!Key×V)}{k:!Key}(e:H a=some (.dT az))(eb:H b=some (.tup (k.map kV))):iI H a (.ref b) (hZ az k):=.inr #[az,k,b,.inl e,U,eb,U]
theorem uX.k{H:Hp}{a:AC}{az:!(Key×V)}{k:Key}{v:V}(e:H a=some (.dK az))(hl:az.length < FB):uX H a (kV k) v (upd H a (.dK (putK az k v))):=.inl #[az,k,e,U,hl,U]
section
variable{X:Cx}{Tl:abL}{O:St}{H:Hp}{s:Ch}{a:AC}{y v:V}{u r:AT}{o:Option V}{A:GE}{E:abK}
theorem Inv.big(I:Inv X Tl O H s):SB < ↑s:=by
 have h:IN < ↑s:=(I.mod.glob.keeps I.bk).lt;exact Nat.lt_trans () h
theorem AU{Q:abK}(hu:A.units+1 < cLine)(I:Inv X Tl O H s)(g:iI H a y (some v))(ry:RelV y u)(h:∀ w' s',Inv X Tl O H s'->RelV v w'->Q w' s') :
  EQ (model X.prog X.w) A (getItem (.ref a) u) Q E s:=by
 rcases g with ⟨az,k,e,ey,l⟩ | ⟨az,k,b,e,ey,eb,l⟩
 .subst ey;let(z,hd,vs,rel,dd):=vK I.aD e;let(w',hw,rw'):=iH.some_of (v:=v) (o:=valueAt vs k) (by rw[l];exact rel.val k);exact wpAny_getItem_of (vz ry) dd.mapOf hw (h w' _ (I.tok _) rw')
 .subst ey;cases (show u=AT.ref b from ry);let(z,hd,xs,rel,dd):=vS I.aD e;let(w',hw,rw'):=iH.some_of (v:=v) (o:=(atKey xs k).map (·.2)) (by rw[l];exact rel.val k);let(p,hp,hp2):=ZN.mp hw;show wpAny_getItem_heap (tupleKind_room_in1 hu) (tP I.aD eb) dd hp ?_;rw[hp2];exact h w' _ (I.tok _) rw'
theorem sH{h':Ev}{t':Nat}{ob:HO}(I:Inv X Tl O H s)(mu:KO (H a))(hs:Ev.SameBut a s.heap h')(he:∃ q,h'.get? a=some q)(new:cy X.prog X.w (upd H a ob) h' a ob)(ht:0 < t':=by first | exact aai _ | exact Inv.tk (by assumption) | assumption) :
  Inv X Tl O (upd H a ob) { s with heap:=h',toks:=t' } :=
 I.write (x:=a) (e:=a) mu (.inl U) (λb q hb z=>(hs.2 b hb).trans z) he new
theorem Cv{P:Fr}{w:Fa}{H':Hp}{h':Ev}{az:!(Key×V)}{vs:!(Key×AT)}(z:az.length<=FB)(hd:(a == SB)=false)(rel:KV az vs)(dd:h'.DictOf (bV P w) a vs) :
  cy P w H' h' a (.dK az):=#[z,hd,vs,rel,dd]
theorem AK{H':Hp}{Q:Unit->Ch->Prop}(hu:A.units+1 < cLine)(I:Inv X Tl O H s)(g:uX H a y v H')(ry:RelV y u)(rv:RelV v r)(h:∀ s',Inv X Tl O H' s'->Q Unit.unit s') :
  EQ (model X.prog X.w) A (setItem (.ref a) u r) Q E s:=by
 rcases g with ⟨az,k,e,ey,l,eH⟩ | ⟨az,k,b,e,ey,eb,l,eH⟩
 .subst ey eH;let(z,hd,vs,rel,dd):=HB I.aD e;have hz:vs.length<=FB:=by rw[<- rel.length];exact z
  have hl:(putK az k v).length<=FB:=by have:=iO az k v;cbv
  show wpAny_setItem_pairs (hsz:=hz) (vz ry) dd λh' dd' hs=>h _ ?_;have he:∃ q,h'.get? a=some q:=let #[q,_,_,hq,_]:=dd';#[q,hq];exact sH I (by rw[e];exact True.intro) hs he (Cv hl hd (rel.put k rv) dd')
 .subst ey eH;cases (show u=AT.ref b from ry);let(z,hd,xs,rel,dd):=Nc I.aD e;have hz:xs.length<=FB:=by rw[<- Paired.length rel];exact z
  have hl:(putK az k v).length<=FB:=by have:=iO az k v;cbv
  show wpAny_setItem_heap (hsz:=hz) (tupleKind_room_in1 hu) (tP I.aD eb) dd λh' dd' hs=>h _ ?_;let(q,es,ep,hq,h2,h3,h4,_,h5):=dd';show sH I (by rw[e];exact True.intro) hs #[q,hq] #[hl,hd,_,(rel.put k eb rv).keeps λc ys ec=>?_,q,es,ep,hq,h2,h3,h4,h5];rw[ai (DY ec e (λz=>nomatch z))];exact ec
end
section
variable{X:Cx}{Tl:abL}{O:St}{H:Hp}{s:Ch}{a:AC}{az:!(Key×V)}{k:Key}{u:AT}{A:GE}{E:abK}
end
def OJ(i:Da):Prop:=∀ ov iv,subscripted i false ov iv=operate [ov,iv] (getItem ov iv)
theorem EZ{prog:Fr}{w:Fa}{A:GE}{E:abK}{s:Ch}{env:Env}{value slice:Da}{pos:Pos}{T id:String}{Q:abK}(hl:typeLookup (.type T) "__getitem__"=pure (some (.builtin id)))(hs:OJ slice)(h:EQ (model prog w) A (eval value env) (λo s₁=>EQ (model prog w) A (eval slice env) (λi s₂=>s₂.TypeIs o T/\EQ (model prog w) A (getItem o i) Q E s₂) E s₁) E s) :
  EQ (model prog w) A (eval (.Subscript value slice pos) env) Q E s:=by
 show Subscript_ (KM h (λo s₁ h₁=>KM h₁ (λi s₂ h₂=>?_) λ_ _ x=>x) λ_ _ x=>x);let(hT,h₂):=h₂;unfold subscriptTail;show Db ?_;rw[getitemInPython_of_ne hT.not_modules];show Db (wpAny_specialOf hT hl ?_);have fin:EQ (model prog w) A (subscripted slice false o i) (λr s₃=>EQ (model prog w) A (letTemporaryGo value o r >>= λ_=>pure r) Q E s₃) E s₂:=by
  rw[hs o i];exact wpAny_operating (KM h₂ (λr s₃ h₃=>Db (wpAny_letTemporaryGo (GM h₃))) λ_ _ x=>x)
 first
  | exact GM (Db fin)
  | exact Db (GM (Db fin))
  | exact Db fin
theorem uN{X:Cx}{Tl:abL}{O:St}{H:Hp}{s:Ch}{a:AC}{y:V}{o:Option V}(I:Inv X Tl O H s)(g:iI H a y o):s.TypeIs (.ref a) "dict":=by
 rcases g with ⟨az,k,e,_,_⟩ | ⟨az,k,b,e,_,_,_⟩
 .let(_,_,vs,_,dd):=vK I.aD e;exact dd.typeIs
 .let(_,_,xs,_,dd):=vS I.aD e;exact dd.typeIs
def m8(td ty:TE):TE:=λO H Q=>td O H λx H1=>ty O H1 λy H2=>∃ a v,x=.ref a/\iI H2 a y (some v)/\Q v H2
def z9(td ty tv:TE):TS:=λD O H=>tv O H λv H1=>td O H1 λx H2=>ty O H2 λy H3=>∃ a H4,x=.ref a/\uX H3 a y v H4/\D.nx O H4
section
variable{X:Cx}{o i e value:Da}{pos pos' xV:Pos}{td ty tv:TE}
theorem ib(hu:X.A.units+1 < cLine)(ho:PE X o td)(hi:PE X i ty)(hs:OJ i):PE X (.Subscript o i pos) (m8 td ty):=by
 intro Tl s O H Q I h;show EZ PySem.F.slot_dict_getitem.lookup hs (bQ (ho Tl s O H _ I h) λu s1 zz=>el2 zz λx H1 I1 rx q1=>bQ (hi Tl s1 O H1 _ I1 q1) λiv s2 z4q=>?_);let(y,H2,I2,ry,a,v,ex,g,q2):=z4q;subst ex;obtain rfl:u=AT.ref a:=rx;exact#[uN I2 g,AU hu I2 g ry λw' s3 I3 rw'=>#[v,H2,I3,rw',q2]]
theorem uC(hu:X.A.units+1 < cLine)(ho:PE X o td)(hi:PE X i ty)(hv:PE X value tv)(hs:swapsWith value (some (.Subscript o i pos')) pos.line X.env=pure false) :
  PS X (.Assign [.Subscript o i pos'] value pos) (z9 td ty tv):=by
 intro Tl s O H D I h;show wpAny_Assign_Subscript (bQ (hv Tl s O H _ I h) λr s1 zz=>el2 zz λv H1 I1 rv q1=>bQ (ho Tl s1 O H1 _ I1 q1) λu s2 zz=>el2 zz λx H2 I2 rx q2=>bQ (hi Tl s2 O H2 _ I2 q2) λiv s3 #[y,H3,I3,ry,a,H4,ex,g,q3]=>?_) hs;subst ex;obtain rfl:u=AT.ref a:=rx;exact AK hu I3 g ry rv λs4 I4=>#[O,H4,I4,q3]
end
theorem Ey{P:Fr}{w:Fa}{H:Hp}(h:Ev)(hb:SB < h.objs.size):cy P w H (h.push { cls:=.type "dict",data:=.dict #v[] }) h.objs.size (.dK []) :=
 #[Z1 _,beq_eq_false_iff_ne.mpr (Ne.symm (ZT hb)),[],.nil,Ev.DictOf.new h]
section
variable{X:Cx}{pos:Pos}
end
def qv:!(TE×TE)->St->Hp->(!(V×V)->Hp->Prop)->Prop
 | [],_,H,Q=>Q [] H
 | (tk,tv)::r,O,H,Q=>tk O H λx H1=>tv O H1 λy H2=>qv r O H2 λps H3=>Q ((x,y)::ps) H3
abbrev VV:!(V×V)->!(AT×AT)->Prop:=Paired λp q=>RelV p.1 q.1/\RelV p.2 q.2
def NS(X:Cx)(pos:Pos)(keys:!(Option Da))(values:!Da)(Gk:!(TE×TE)):Prop :=
 ∀ (Tl:abL) (s:Ch) (O:St) (H:Hp) (Q:!(V×V)->Hp->Prop),Inv X Tl O H s->qv Gk O H Q ->
  EQ (model X.prog X.w) X.A (evalPairs (pairTrees keys values X.env pos)) (λvs s'=>∃ ps H',Inv X Tl O H' s'/\VV ps vs/\Q ps H') X.xe s
theorem yK{X:Cx}{pos:Pos}:NS X pos [] [] []:=λTl s O H Q I h=>pairTrees_nil_walk #[[],H,I,.nil,h]
theorem lp{X:Cx}{pos:Pos}{k v:Da}{ks:!(Option Da)}{vs:!Da}{tk tv:TE}{Gk:!(TE×TE)}(hk:PE X k tk)(hv:PE X v tv)(hr:NS X pos ks vs Gk) :
  NS X pos (some k::ks) (v::vs) ((tk,tv)::Gk):=λTl s O H Q I h =>
 pairTrees_cons_walk (bQ (hk Tl s O H _ I h) λu s1 zz=>el2 zz λx H1 I1 rx q1=>bQ (hv Tl s1 O H1 _ I1 q1) λw2 s2 zz=>el2 zz λy H2 I2 ry q2 =>
  bQ (hr Tl s2 O H2 _ I2 q2) λws s3 zz=>el2 zz λps H3 I3 rel q3=>#[(x,y)::ps,H3,I3,.cons #[rx,ry] rel,q3])
def gC(az more:!(Key×V)):!(Key×V):=more.foldl (λacc kv=>putK acc kv.1 kv.2) az
theorem KV.merge:∀ {more:!(Key×V)} {rs:!(Key×AT)} {az:!(Key×V)} {vs:!(Key×AT)},KV more rs->KV az vs->KV (gC az more) (merged vs rs):=by
 intro more rs az vs r;unfold KV at r
 induction r generalizing az vs with
 | nil=>intro q;exact q
 | @cons p q ps qs h t ih =>
  intro r0;have e:KV (putK az p.1 p.2) (stored vs q.1 q.2):=by
   have:=r0.put p.1 h.2;rw[<- h.1];exact this
  exact ih e
theorem jU:∀ (more az:!(Key×V)),(gC az more).length<=az.length+more.length
 | [],az=>by change az.length<=az.length+0;cbv
 | p::r,az=>by
  have h1:=jU r (putK az p.1 p.2);have h2:=iO az p.1 p.2;change (gC (putK az p.1 p.2) r).length<=_;rw[ZJ];cbv
theorem qc{P:Fr}{w:Fa}:∀ {az:!(Key×V)} {ws:!(AT×AT)},VV (az.map λkv=>(kV kv.1,kv.2)) ws->∃ rs,Carries (bV P w) ws rs/\KV az rs
 | [],_,r=>by rw[aa2] at r;cases r;exact#[[],True.intro,.nil]
 | p::az,_,r=>by
  rw[ZG] at r;cases r with
  | @cons a b as bs h t =>
   let(rs,c,q):=qc (P:=P) (w:=w) t;let(b1,b2):=b;exact#[(p.1,b2)::rs,#[vz h.1,U,c],.cons #[U,h.2] q]
def Iz(Gk:!(TE×TE)):TE:=λO H Q=>∀ p,H p=none->qv Gk O (upd H p (.dK [])) λps H2=>H2 p=some (.dK [])/\∃ az:!(Key×V),ps=az.map (λkv=>(kV kv.1,kv.2))/\az.length<=15/\Q (.ref p) (upd H2 p (.dK (gC [] az)))
theorem y0{X:Cx}{pos:Pos}{keys:!(Option Da)}{values:!Da}{Gk:!(TE×TE)}(h:NS X pos keys values Gk)(Df:keys.all (·.isSome)=true)(hl:keys.length=values.length)(h0:keys≠[])(Qz:keys.length<=15):PE X (.Dict keys values pos) (Iz Gk):=by
 intro Tl s O H Q I q;have hn:=I.aD.fresh (ZC ↑s);have I1:=I.laid (a:=↑s) (o:=.dK []) (h':=s.heap.push { cls:=.type "dict",data:=.dict #v[] }) (t':=s.toks) (λ_ _ q=>Zz _ q) (ZC _) (Ey s.heap I.big);show wpAny_Dict_walk (knd:=bV X.prog X.w) Df hl h0 Qz (bQ (h Tl _ O _ _ I1 (q _ hn)) λws s2 z6q=>?_);let(ps,H2,I2,rel,e,az,ep,lk,q2):=z6q;subst ep;let(rs,c,rk):=qc (P:=X.prog) (w:=X.w) rel;let(z,hd,vs0,r0,dd):=HB I2.aD e;cases r0;show#[rs,c,dd,λh' dd' hs=>#[.ref ↑s,_,?_,U,q2]];have hz:(gC [] az).length<=FB:=by
  have h1:=jU az [];rw[List.length_nil] at h1;rw[sizeLine_eq];cbv
 have he:∃ q,h'.get? ↑s=some q:=let #[q,_,_,hq,_]:=dd';#[q,hq];exact sH I2 (by rw[e];exact True.intro) hs he (Cv hz hd (rk.merge .nil) dd') (by first | exact ZL I2.tk (aaN _ _) | (have:=I2.tk;cbv))
structure M2(X:Cx)(o:Da)(m:Str)(apos:Pos)(e f:Da)(bq:Pos):Prop where
 base:attributeBase o m X.env (eval o X.env)=eval o X.env
 QU:((KB bq (Go [e,f] X.env)).all (λx=>(not x.1))&&(ST bq (SZ [] X.env)).all (λx=>x.1.isSome)
  && decide (([e,f]:!Da).length+([]:!Ps).length+(if ([]:!Ps).isEmpty then 0 else 1) < 30))=true
 line:(apos.endLine == bq.line)=true
 trees:KB bq (Go [e,f] X.env)=[(false,eval e X.env),(false,eval f X.env)]
def Uh(H:Hp)(a:AC):Prop:=(∃ az,Rd H a (.dK az))\/∃ az,Rd H a (.dT az)
theorem Jx{X:Cx}{Tl:abL}{O:St}{H:Hp}{s:Ch}{a:AC}(I:Inv X Tl O H s)(d:Uh H a) :
  s.TypeIs (.ref a) "dict"/\(∀ b,AT.ref a=.ref b->∃ ob,s.heap.get? b=some ob/\ob.dict=none)/\(a == SB)=false:=by
 rcases d with ⟨az,e⟩ | ⟨az,e⟩
 .let(_,hd,vs,_,dd):=vK I.aD e;show#[dd.typeIs,λb q=>?_,hd];cases q;let(ob,_,_,h1,h2,_):=dd;exact#[ob,h1,h2.2.1]
 .let(_,hd,xs,_,dd):=vS I.aD e;show#[dd.typeIs,λb q=>?_,hd];cases q;let(ob,_,_,h1,h2,_):=dd;exact#[ob,h1,h2.2.1]
section
variable{X:Cx}{Tl:abL}{O:St}{H:Hp}{s:Ch}{a:AC}{y d:V}{u r:AT}{o:Option V}{A:GE}{E:abK}
theorem Jm{Q:abK}(hu:A.units+1 < cLine)(I:Inv X Tl O H s)(g:iI H a y o)(ry:RelV y u)(rd:RelV d r)(h:∀ w' s',Inv X Tl O H s'->RelV (o.getD d) w'->Q w' s') :
  EQ (model X.prog X.w) A (call (.builtin "dict.get") [.ref a,u,r]) Q E s:=by
 rcases g with ⟨az,k,e,ey,l⟩ | ⟨az,k,b,e,ey,eb,l⟩
 .subst ey;let(z,hd,vs,rel,dd):=vK I.aD e;show call_meetsIn abE dd.typeIs PySem.F.entry_dict_get (PySem.F.args_dict_get_3 _ _ _) (meets_dict_get_default (bV X.prog X.w) a (vz ry) hd r) #[_,dd.mapOf,h _ _ (I.tok _) ?_];rw[l];exact (rel.val k).getD rd
 .subst ey;cases (show u=AT.ref b from ry);let(z,hd,xs,rel,dd):=vS I.aD e;show call_meetsIn abE dd.typeIs PySem.F.entry_dict_get (PySem.F.args_dict_get_3 _ _ _) (meetsH_dict_get_default (tupleKind (bV X.prog X.w)) a b hd r) #[tupleKind_room_in1 hu,k,xs,tP I.aD eb,dd,h _ _ (I.tok _) ?_];rw[l];exact (rel.val k).getD rd
end
def CF(td ty tx:TE):TE:=λO H Q=>td O H λx H1=>∃ a,x=.ref a/\Uh H1 a/\ty O H1 λy H2=>tx O H2 λz H3=>∃ o,iI H3 a y o/\Q (o.getD z) H3
section
variable{X:Cx}{o e f:Da}{apos bq:Pos}{td ty tx:TE}
theorem DP(hu:X.A.units+1 < cLine)(ho:PE X o td)(he:PE X e ty)(hf:PE X f tx)(m:M2 X o "get" apos e f bq):PE X (.Call (.Attribute o "get" apos) [e,f] [] bq) (CF td ty tx):=by
 intro Tl s O H Q I h;show wpAny_Call_method m.base m.QU m.line PySem.F.plainAttrs_dict abE PySem.F.type_dict_get (bQ (ho Tl s O H _ I h) λu s1 #[x,H1,I1,rx,a,ex,d,q1]=>?_);subst ex;obtain rfl:u=AT.ref a:=rx;let(t1,t2,_):=Jx I1 d;show#[t1,t2,?_];rw[m.trees];show Calls.callWith_builtin U (Calls.evalArgs_plain (Calls.spliced_cons (bQ (he Tl s1 O H1 _ I1 q1) λiv s2 zz=>el2 zz λy H2 I2 ry q2 =>
  Calls.spliced_cons (bQ (hf Tl s2 O H2 _ I2 q2) λfv s3 #[z,H3,I3,rz,ov,g,q3]=>Calls.spliced_nil ?_))))
 exact Jm hu I3 g ry rz λw' s4 I4 rw'=>#[_,H3,I4,rw',q3]
end
section
variable{X:Cx}{Tl:abL}{O:St}{H:Hp}{s:Ch}{a:AC}{az:!(Key×V)}{A:GE}{E:abK}
end
section
variable{X:Cx}{Tl:abL}{O:St}{H:Hp}{s:Ch}{a:AC}{y:V}{u:AT}{A:GE}{E:abK}
end
end L2
namespace VJ
open PySem PySem.W PySem.Calls PyProof.Rows
theorem og{P:Tk}{h:Ev}:∀ (ns:!Int) (vs:!AT),WellAll P h vs (ns.map WData.int)->IntsAre vs ns:=by
 intro ns
 induction ns with
 | nil =>
  intro vs w;rw[aa2] at w;cases w;exact .nil
 | cons n ns ih =>
  intro vs w;rw[ZG] at w;cases w with
  | cons a b =>
   cases a;exact .cons _ _ (ih _ b)
theorem AH{l:OpenLaw}{n:Nat}(hn:l.most=some n){P:Tk}{h:Ev}{args:!WData}{vals:!AT}(As:l.row.toRowW.claim.pre args=true)(Dv:WellAll P h vals args) :
  ∃ a vs ns,vals=[AT.ref a]/\args=[WData.list (ns.map WData.int)]/\h.get? a=some { cls:=.type "list",data:=.seq vs.toArray }/\IntsAre vs ns/\ns.length<=n:=by
 have hsh:WShape.hasAll [] args [.list .int]=true:=(pre_splitW As).1;have hc:l.pre.holds [] { args:=args }=true:=(pre_splitW As).2;let(d,r,rfl,h1,h2):=hasAllW_cons hsh;obtain rfl:=hasAllW_nil h2;let(xs,rfl,h3):=hasW_list h1;let(ns,rfl):=items_int h3;have hlen:ns.length<=n:=by
  unfold OpenLaw.pre at hc;have h4:(WTm.not (.lt (.lit (.int (n:Int))) (.len (.arg 0)))).holds [] { args:=[.list (ns.map .int)] }=true:=by
   have h4:=(holds_andW hc).1;rw[hn] at h4;exact h4
  have h5:=condW_of h4 (w_not (w_lt w_lit (w_len_list (w_arg U))));rw[Zy] at h5;show Nat.le_of_not_lt λq=>?_;have q':(n:Int) < ((ns.length:Nat):Int):=by cbv
  first
   | (rw[decide_eq_true q'] at h5;exact absurd h5 ())
   | (simp at h5;cbv)
 cases Dv with
 | cons w1 w2 =>
  cases w2;cases w1 with
  | list ho Df=>exact#[_,_,ns,U,U,ho,og ns _ Df,hlen]
theorem Ap(l:OpenLaw)(args:!WData):l.row.toRowW.claim.post args (.bool true) args=true :=
 postW_of (r:=l.row.toRowW) (X:=(true == true))
  (show WShape.has [] (.bool true) .bool=true by first | rfl | decide | simp[WShape.has,WShape.arms,WShape.armsAll])
  (show (WTm.eq .res (.lit (.bool true))).value [] { args:=args,res:=some (.bool true),after:=args }=some (.bool (true == true)) from w_eq_bool (w_res U) w_lit) U
theorem vY{l:OpenLaw}{n:Nat}{q:Fr}{loose:!Str}{XP:(Str->Option AT)->Ev->Prop}{YP:Fa->Ev->Prop}{d:DefRec}(hn:l.most=some n)(Pe:d.params.defaults=[])(call:∀ (w:Fa) (s₀ s₁:Ch) (mg mb:Str->Option AT) (fa:AC) (o:Obj) (pm cd doc:AT) (a:AC) (vs:!AT) (ns:!Int),
   Ground q loose [] XP w s₀ mg mb s₁.heap->YP w s₁.heap ->
   s₁.heap.get? fa=some o->o.data=.func (docDef d.name d.params d.body d.scope pm cd doc)->s₁.heap.CodeRec cd d.name->mg d.name=some (.ref fa) ->
   s₁.heap.get? a=some { cls:=.type "list",data:=.seq vs.toArray }->IntsAre vs ns->ns.length<=n->s₁.gens=#v[] ->
   codeAny (model l.prog w) callerA (.call (.ref fa) #[[.ref a],[]]) (λr s'=>r=.ok (.ret (.bool true))/\OldK s₁.heap s'.heap/\s'.os=s₁.os/\AllBare s'.gens) s₁) :
  WalkO q loose XP YP l.row.toRowW d [] (λf vs=>PySem.call f vs):=by
 intro w s₀ s₁ mg mb G Y fa o pm cd doc dV kV ho hd rB hD hmg hg args vals as As hlay hrd Dv hlo;obtain rfl:dV=.none:=Dflts.none hD Pe;obtain rfl:kV=.none:=Dflts.noKw hD;let(a,vs,ns,rfl,rfl,hobj,hints,hlen):=AH hn As Dv;show enter_call (codeAny_mono (call w s₀ s₁ mg mb fa o pm cd doc a vs ns G Y ho (fd_plain hd) rB hmg hobj hints hlen hg) λr s' hq=>?_);let(rfl,h2,h3,h4):=hq;exact#[.inl #[.bool true,.bool true,[],U,λ_=>rfl,.bool true,Ap l _,λ_=>#[List.Pairwise.nil,λ_ hm=>(nomatch hm)]],h2,h3,h4]
section
variable{prog:Fr}{w:Fa}{A:GE}{E:abK}{s:Ch}{K:Frag}
end
end VJ
namespace L2
open PySem PySem.Spec PyProof.Rows
theorem rK:∀ {vs:!AT} {ns:!Int},IntsAre vs ns->Vals (ns.map V.int) vs
 | _,_,.nil=>.nil
 | _,_,.cons n t h=>.cons #[t,U] (rK h)
def Jh(H:Hp):Prop:=∀ b,H b=none\/∃ o xs,H b=some (.vi o (.lst xs))
theorem Ek{P:Fr}{w:Fa}{K:Frag}{mg mb:Str->Option AT}{CX:u4}{k:Nat}{fa a:AC}{fd:IR}{x:Str}{sp:Sp}{s₁:Ch}{vs:!AT}{ns:!Int}(KX:K.In s₁.heap)(Gy:s₁.heap.Ns IN mg)(hb:s₁.heap.Ns builtinsNs mb)(KH:∀ x:Str,x≠"__name__"->mb x=bootBuiltins x)(Q2:s₁.heap.NoLimit)(hg:s₁.gens=#v[])(ha:s₁.heap.get? a=some { cls:=.type "list",data:=.seq vs.toArray })(hi:IntsAre vs ns)(hl:ns.length<=FB)(hr:bF k callerA)(F:∀ base:Ev,K.In base->base.Ns IN mg->br P w K mg base CX k fa fd [x] sp)(OG:∀ (s:Ch) (u:AT),BindsTo s fd #[[u],[]] [(x,u)])(Br:∀ H:Hp,Jh H->dM K H a (ns.map V.int)->sp [.ref a] H (λv _=>v=.bl true) λ_ _ _=>False)(SH:∀ H e s',CX [] H s₁ (λ_ _ _=>False) e s'->False) :
  codeAny (model P w) callerA (.call (.ref fa) #[[.ref a],[]]) (λr s'=>r=.ok (.ret (.bool true))/\OldK s₁.heap s'.heap/\s'.os=s₁.os/\AllBare s'.gens) s₁:=by
 have rv:=rK hi;have lenV:=hi.length
 -- from an abstract heap in which nothing but the script may be tracked
 have core:∀ H:Hp,Jh H->dM K H a (ns.map V.int)->jY P w H s₁.heap->(∀ b,H b≠none->b=a)->(H a≠none->K.lookup a=none) ->
   codeAny (model P w) callerA (.call (.ref fa) #[[.ref a],[]]) (λr s'=>r=.ok (.ret (.bool true))/\OldK s₁.heap s'.heap/\s'.os=s₁.os/\AllBare s'.gens) s₁:=by
  intro H hO hS aD hA hK;have base_of:∀ {b:AC} {o:Obj},s₁.heap.get? b=some o->H b=none->(sZ s₁.heap H).get? b=some o:=λe n=>B0 e n;have noA:∀ {b:AC} {o:Obj} {es:Array SL} {ep:Nat},s₁.heap.get? b=some o->o.data=.dict es ep->H b=none:=λ{b o es ep} e d=>by
   cases q:H b with
   | none=>rfl
   | some u =>
    have e':b=a:=hA b (by rw[q];simp);subst e';rw[ha] at e;cases e;have d':Data.seq vs.toArray _=Data.dict es ep:=d;cases d'
  have nsK:∀ {b:AC} {m:Str->Option AT},s₁.heap.Ns b m->(sZ s₁.heap H).Ns b m:=λ{b m} #[o,es,ep,e,d,r]=>#[o,es,ep,base_of e (noA e d),d,r];have hKb:K.In (sZ s₁.heap H):=λb o e=>base_of (KX b o e) (by
   cases q:H b with
   | none=>rfl
   | some u =>
    have e':b=a:=hA b (by rw[q];simp);subst e';rw[hK (by rw[q];simp)] at e;cases e)
  have hM:Mod K mg (sZ s₁.heap H):=#[hKb,nsK Gy,#[mb,nsK hb,KH],let #[mc,h1,h2]:=Q2;#[mc,nsK h1,h2]];have e0:wK P w K mg (sZ s₁.heap H) callerA [] s₁ H:=#[U,hM,λb o e=>G5 e,Nat.le_of_eq (AJ _ _),trivial,λb hb=>absurd (show b∈([]:!AC) from hb) (by simp),aD,.of_eq hg];show codeAny_mono ((F _ hKb (nsK Gy)).run callerA [] s₁ H #[[.ref a],[]] [.ref a] [.ref a] _ _ hr e0 (OG s₁ (.ref a)) (.cons U .nil) (Br H hO hS)) λr s' h=>?_;cases r with
  | error e=>exact (SH H e s' h).elim
  | ok fl =>
   cases fl with
   | next=>exact False.elim h
   | brk=>exact False.elim h
   | cont=>exact False.elim h
   | ret u =>
    let(v,H',os,bare,un,hok',r',q):=h;have q':v=.bl true:=q;subst q';obtain rfl:u=AT.bool true:=r';show#[U,OldK.of_keep λb o e=>?_,os,bare];cases q:H b with
    | none=>exact un.keep b o e q (by intro z;exact absurd (show b∈([]:!AC) from z) (by simp)) (by simp)
    | some u =>
     rcases hO b with z | ⟨ob,xs,z⟩
     .rw[q] at z;cases z
     .have z2:=un.qM b ob _ z;let(e1,_):=aD b _ z;let(e2,_):=hok' b _ z2;rw[e] at e1;cases e1;exact e2
 cases hk:K.lookup a with
 | some o =>
  -- the script is one of the module's own objects
  have e:=KX a o hk;rw[ha] at e;cases e;show core (λ_=>none) (λ_=>.inl U) (.inr #[_,vs.toArray,_,hk,U,U,U,by rw[List.size_toArray,lenV];exact hl,by simpa using rv]) (λb u z=>by have z':(none:Option HO)=some u:=z;cases z') (λb z=>absurd U z) λz=>absurd U z
 | none =>
  show core (λb=>if b=a then some (.vi { cls:=.type "list",data:=.seq vs.toArray } (.lst (ns.map V.int))) else none) (λb=>?_) (.inl (.inr #[{ cls:=.type "list",data:=.seq vs.toArray },if_pos U])) (λb u z=>?_) (λb z=>?_) λ_=>hk
  .by_cases hb:b=a
   .exact .inr #[_,_,if_pos hb]
   .exact .inl (if_neg hb)
  .by_cases hb:b=a
   .have z':=(if_pos hb).symm.trans z;cases z';subst hb;exact#[ha,by rw[Zy];exact hl,vs,_,rv,ha]
   .have z':=(if_neg hb).symm.trans z;cases z'
  .by_cases hb:b=a
   .exact hb
   .exact absurd (if_neg hb) z
theorem GY{l:PySem.W.OpenLaw}{n k:Nat}{q:Fr}{loose:!Str}{XP:(Str->Option AT)->Ev->Prop}{YP:Fa->Ev->Prop}{d:DefRec}{K:Tk->Frag}{CX:Fa->u4}{sp:Fa->Sp}{x:Str}(hn:l.most=some n)(HQ:n<=FB)(Pe:d.params.defaults=[])(hr:bF k callerA)(hY:∀ (w:Fa) (h:Ev),YP w h->(K w.params).In h)(F:∀ (w:Fa) (mg:Str->Option AT) (fa:AC) (h:Ev),(K w.params).In h->h.Ns IN mg->mg d.name=some (.ref fa) ->
   ∃ fd:IR,(∀ (s:Ch) (u:AT),BindsTo s fd #[[u],[]] [(x,u)]) /\
    ∀ base:Ev,(K w.params).In base->base.Ns IN mg->br l.prog w (K w.params) mg base (CX w) k fa fd [x] (sp w))(Br:∀ (w:Fa) (H:Hp) (a:AC) (ns:!Int),ns.length<=n->Jh H->dM (K w.params) H a (ns.map V.int)->sp w [.ref a] H (λv _=>v=.bl true) λ_ _ _=>False)(SH:∀ (w:Fa) (H:Hp) (s:Ch) (e:AT) (s':Ch),CX w [] H s (λ_ _ _=>False) e s'->False) :
  PySem.W.WalkO q loose XP YP l.row.toRowW d [] (λf vs=>PySem.call f vs):=by
 show VJ.vY hn Pe λw s₀ s₁ mg mb fa o pm cd doc a vs ns G Y ho hd rB hmg hobj hints hlen hg=>?_;have KX:=hY w _ Y;let(fd,hb,hF):=F w mg fa _ KX G.T.g hmg;exact Ek KX G.T.g G.T.b G.T.builtins G.T.nolimit hg hobj hints (ZH hlen HQ) hr hF hb (λH hO hS=>Br w H a ns hlen hO hS) λH e s'=>SH w H s₁ e s'
def inClass(s:Fk)(j:Nat):Fk:=match s with
 | .ClassDef _ _ _ body _ _ _ _ _ _ _=>body.getD j (.Pass #[0,0,0,0])
 | _=>.Pass #[0,0,0,0]
def bW(s:Fk):Arguments:=match s with
 | .FunctionDef _ a _ _ _ _ _ _ _ _=>a
 | _=>{ posonlyargs:=[],args:=[],vararg:=none,kwonlyargs:=[],kw_defaults:=[],kwarg:=none,defaults:=[] }
def aq(s:Fk):!Fk:=match s with
 | .FunctionDef _ _ b _ _ _ _ _ _ _=>b
 | _=>[]
def ag(s:Fk):Scope:=match s with
 | .FunctionDef _ _ _ _ _ _ sc _ _ _=>sc
 | _=>{ kind:=.function,names:=[],isGenerator:=false,isCoroutine:=false }
abbrev aV:u4:=λ_ _ _ _ _ _=>False
abbrev E0:XK:=λ_ _ _=>False
theorem lh{X:Cx}:Passes aV X E0:=λ_ _ _ _ _ _ _ _ h=>h.elim
structure pJ(K:Frag)(x qual:Str)(st:Fk)(f:AC)(fd:IR):Prop where
 ex:∃ (oc:AT) (od:Option AC) (kV doc pm:AT) (an:Option AC) (bp ct:AT) (vv:Array (Option AT)),
  fd=fnOf x qual (bW st) (aq st) (ag st) .none kV doc pm an bp ct/\K.lookup f=some #[oc,od,.func fd,vv]/\codeIn K bp qual=true
 kp:keepIn K (.ref f)=true
section
variable{P:Fr}{w:Fa}{K:Frag}{mg:Str->Option AT}{base:Ev}
theorem pJ.ok{x qual:Str}{st:Fk}{f:AC}{fd:IR}{N ps:!Str}{k:Nat}{sp:Sp}(F:pJ K x qual st f fd)(S:ar N ps (ag st))(len:∀ vs H Q E,sp vs H Q E->vs.length=ps.length)(pU:∀ (bp:AT) (A:GE) (outer:!Env) (s:Ch) (H:Hp) (vs:!V) (Q:VK) (E:XK),bF k (A.deeper (envOfC qual (ag st) ↑s f bp))->sp vs H Q E ->
   ∃ t,nX (jO aV P w K mg base N qual (ag st) f bp A outer s H E).wD (aq st) t/\t { nx:=λ_ H'=>Q .bX H',rt:=Q } (start N vs) H):br P w K mg base aV (k+1) f fd ps sp:=by
 let(oc,od,kV,doc,pm,an,bp,ct,vv,rfl,lk,rB):=F.ex;show Dz lk rB S len λA outer s H vs Q E hr Br=>?_;let(t,h,q):=pU bp A outer s H vs Q E hr Br;exact#[t,h.wD,q]
theorem pJ.binds{x qual:Str}{st:Fk}{f:AC}{fd:IR}{ps:!Str}(F:pJ K x qual st f fd)(h:∀ (kV doc pm:AT) (an:Option AC) (bp ct:AT) (us:!AT),us.length=ps.length->bindArgs (fnOf x qual (bW st) (aq st) (ag st) .none kV doc pm an bp ct) #[us,[]]=pure (ps.zip us)):Binds K fd ps []:=by
 let(oc,od,kV,doc,pm,an,bp,ct,vv,rfl,lk,rB):=F.ex;exact .all (h kV doc pm an bp ct)
theorem sY{x qual:Str}{st:Fk}{f:AC}{oc:AT}{od an:Option AC}{vv:Array (Option AT)}{kV doc pm bp ct:AT}(l:K.lookup f=some #[oc,od,.func (fnOf x qual (bW st) (aq st) (ag st) .none kV doc pm an bp ct),vv])(c:codeIn K bp qual=true)(k:keepIn K (.ref f)=true):pJ K x qual st f (fnOf x qual (bW st) (aq st) (ag st) .none kV doc pm an bp ct):=#[#[oc,od,kV,doc,pm,an,bp,ct,vv,U,l,c],k]
end
theorem HV{A:GE}{k:Nat}(hr:bF k A):A.units+1 < cLine:=aaw (Nat.add_le_add_left (by decide:1<=64) _) hr.units
theorem me{n:Nat}(h:n<=1000):n < FB:=aaw h ()
section
variable{X:Cx}
theorem pv(i:Nat){x:Str}{pos:Pos}(hN:(X.N[i]?=some x)⁻¹)(hv:LX X.env.scope x:=by first | exact Or.inl U | exact Or.inr (Or.inl U) | exact Or.inr (Or.inr U))(hd: ~~~(abP x))(rB: ~~~((x == ("__classdict__":Str))=false)):PE X (.Name x pos) (bO i):=xP hN hv hd rB
end
theorem ue{A B:Prop}(h:B):if false=true then A else B:=by
 rw[if_neg ZP];exact h
theorem oi{A B:Prop}(h:A):if true=true then A else B:=by
 rw[if_pos U];exact h
theorem kY{c A B:Prop}[Decidable c](h1:c->A)(h2:¬ c->B):if c then A else B:=by
 by_cases h:c
 .rw[if_pos h];exact h1 h
 .rw[if_neg h];exact h2 h
def cQ(H H':Hp):Prop:=∀ b o,H b=some o->H' b=some o
theorem cQ.refl(H:Hp):cQ H H:=λ_ _ h=>h
theorem cQ.trans{H H1 H2:Hp}(a:cQ H H1)(b:cQ H1 H2):cQ H H2:=λc o h=>b c o (a c o h)
theorem cQ.free{H H':Hp}(e:cQ H H'){l:AC}(h:H' l=Option.none):H l=Option.none:=by
 cases q:H l with
 | none=>rfl
 | some o =>
  rw[e l o q] at h;cases h
theorem cQ.seq{K:Frag}{H H':Hp}{a:AC}{xs:!V}(e:cQ H H')(h:dM K H a xs):dM K H' a xs:=by
 rcases h with (h | ⟨o,h⟩) | h
 .exact .inl (.inl (e _ _ h))
 .exact .inl (.inr #[o,e _ _ h])
 .exact .inr h
section
variable{X:Cx}
end
section
variable{κ:Type}[DecidableEq κ]
end
def fz(env:Env):!(Str×KF)->!(Str×AC)->!(Str×AC)
 | [],acc=>acc
 | (n,k)::r,acc=>if k == .free then fz env r ((n,(env.cells.lookup n).getD 0)::acc) else fz env r acc
def mO(env:Env)(x:Str×KF)(cs:!(Str×AC)):Sem (ForInStep (!(Str×AC))) :=
 if x.2 == .free then do
  let a <- cellOf env x.1
  pure (ForInStep.yield ((x.1,a)::cs))
 else pure (ForInStep.yield cs)
theorem nB{env:Env}:∀ (l:!(Str×KF)) (acc:!(Str×AC)),(∀ x∈l,x.2=.free->(env.cells.lookup x.1).isSome=true) ->
  (forIn l acc (mO env):Sem (!(Str×AC)))=pure (fz env l acc)
 | [],acc,_=>rfl
 | (n,k)::r,acc,h=>by
  have ih:=λacc'=>nB (env:=env) r acc' λx hx=>h x (Zw _ hx);rw[List.forIn_cons];by_cases hk:k=.free
  .subst hk;let(c,hc):=aaI.mp (h (n,.free) Zx U);have e:cellOf env n=pure c:=by
    unfold cellOf;rw[hc]
   have e2:mO env (n,KF.free) acc=pure (ForInStep.yield ((n,c)::acc)):=by
    change (if (KF.free == KF.free)=true then (cellOf env n >>= λa=>pure (ForInStep.yield ((n,a)::acc))) else pure (ForInStep.yield acc))=_;rw[if_pos (),e]
    rfl
   have e3:fz env ((n,KF.free)::r) acc=fz env r ((n,c)::acc):=by
    change (if (KF.free == KF.free)=true then fz env r ((n,(env.cells.lookup n).getD 0)::acc) else fz env r acc)=_;rw[if_pos (),hc]
    rfl
   rw[e2,e3,<- ih]
   rfl
  .have hb:(k == KF.free)=false:=by simpa using hk
   have e2:mO env (n,k) acc=pure (ForInStep.yield acc):=by
    change (if (k == KF.free)=true then (cellOf env n >>= λa=>pure (ForInStep.yield ((n,a)::acc))) else pure (ForInStep.yield acc))=_;rw[if_neg (by simp[hb])]
   have e3:fz env ((n,k)::r) acc=fz env r acc:=by
    change (if (k == KF.free)=true then fz env r ((n,(env.cells.lookup n).getD 0)::acc) else fz env r acc)=_;rw[if_neg (by simp[hb])]
   rw[e2,e3,<- ih]
   rfl
theorem fe{scope:Scope}{env:Env}(h:∀ x∈scope.names,x.2=.free->(env.cells.lookup x.1).isSome=true):closureFor scope env=pure (fz env scope.names []):=by
 rw[<- nB scope.names [] h];unfold closureFor;have:(λ(x:Str×KF) (r:!(Str×AC))=>mO env x r)=mO env:=rfl
 first
  | (simp only[mO];rfl)
  | (show (forIn scope.names [] _ >>= λr=>pure r)=_;rw[bind_pure];rfl)
  | rfl
theorem i8{env:Env}{x:Str}{c:AC}:∀ {l:!(Str×KF)} {acc:!(Str×AC)},(∀ y∈l,y.2=.free->(env.cells.lookup y.1).isSome=true) ->
  (fz env l acc).lookup x=some c->env.cells.lookup x=some c\/acc.lookup x=some c
 | [],acc,_,h=>.inr h
 | (n,k)::r,acc,hl,h=>by
  have hl':=λy hy=>hl y (Zw _ hy);unfold fz at h;by_cases hk:k=.free
  .subst hk;rw[if_pos ()] at h;let(d,hd):=aaI.mp (hl (n,.free) Zx U);rw[hd] at h;rcases i8 hl' h with q | q
   .exact .inl q
   .rw[aaO] at q;cases e:x == n with
    | true =>
     rw[e] at q;have e':x=n:=eq_of_beq e;subst e';left;rw[hd];exact q
    | false =>
     rw[e] at q;exact .inr q
  .rw[if_neg (by simpa using hk)] at h;exact i8 hl' h
theorem qd{env:Env}{x:Str}:∀ {l:!(Str×KF)} {acc:!(Str×AC)},(acc.lookup x).isSome=true->((fz env l acc).lookup x).isSome=true
 | [],acc,h=>h
 | (n,k)::r,acc,h=>by
  unfold fz;split
  .refine qd ?_;rw[aaO];cases e:x == n with
   | true=>rfl
   | false=>exact h
  .exact qd h
theorem pB{env:Env}{x:Str}:∀ {l:!(Str×KF)} {acc:!(Str×AC)},(x,KF.free)∈l->((fz env l acc).lookup x).isSome=true
 | (n,k)::r,acc,h=>by
  unfold fz;rcases ZD.mp h with e | h'
  .cases e;rw[if_pos ()];exact qd (by rw[aaO,beq_self_eq_true];rfl)
  .split<;>exact pB h'
def Va(env:Env)(x:Str×KF):Str×KF:=if (x.2 == KF.free&&env.scope.kind == .function&&env.kindOf x.1 == some .cell)=true then (x.1,KF.cell) else (x.1,x.2)
theorem qj{env:Env}{x:Str}{k:KF}:∀ {names:!(Str×KF)},(names.map (Va env)).lookup x=some k->names.lookup x=some k\/(names.lookup x=some .free/\k=.cell)
 | [],h=>by simp at h
 | (n,k0)::r,h=>by
  have ih:=@qj env x k r;rw[ZG] at h;by_cases hc:(k0 == KF.free&&env.scope.kind == .function&&env.kindOf n == some .cell)=true
  .have e:Va env (n,k0)=(n,KF.cell):=if_pos hc;rw[e,aaO] at h;rw[aaO];cases e:x == n with
   | true =>
    rw[e] at h;have hk:k0=.free:=by
     rw[ZX,ZX] at hc;exact eq_of_beq hc.1.1
    subst hk;right;exact#[U,(Z7 h).symm]
   | false =>
    rw[e] at h;exact ih h
  .have e:Va env (n,k0)=(n,k0):=if_neg hc;rw[e,aaO] at h;rw[aaO];cases e:x == n with
   | true =>
    rw[e] at h;exact .inl h
   | false =>
    rw[e] at h;exact ih h
theorem fZ{env:Env}{x:Str}{scope:Scope}{k:KF}(h:(relabel scope env).names.lookup x=some k) :
  scope.names.lookup x=some k\/(scope.names.lookup x=some .free/\k=.cell):=qj (env:=env) h
section
variable{prog:Fr}{w:Fa}{A:GE}{R:Result->Ch->Prop}{s:Ch}
theorem kJ{elt target iter:Da}{ifs:!Da}{scope:Scope}{pos:Pos}{it acc:AT}{env:Env}(I:Nat->Ch->Prop)(turn:∀ n s,I n s->EQ (model prog w) A (pyNext it) (λr s₁=>match r with
   | none=>R (.ok .next) s₁
   | some v=>EQ (model prog w) A (letOwnedTupleGo target it v) (λ_ s₁'=>EQ (model prog w) A (assign target env v) (λ_ s₂ =>
     EQ (model prog w) A (forIn ifs true λc r=>if r=true then do let ok <- isTrue c env (eval c env);pure (ForInStep.yield ok) else pure (ForInStep.yield r)) (λok s₃ =>
      if ok=true then EQ (model prog w) A (eval elt env) (λx s₄ =>
       EQ (model prog w) A (call (.builtin "list.append") [acc,x]) (λ_ s₅=>∃ m,m < n/\I m s₅) (notedBy (model prog w) A env λe s'=>R (.error e) s') s₄) (notedBy (model prog w) A env λe s'=>R (.error e) s') s₃
      else ∃ m,m < n/\I m s₃) (notedBy (model prog w) A env λe s'=>R (.error e) s') s₂) (notedBy (model prog w) A env λe s'=>R (.error e) s') s₁') (notedBy (model prog w) A env λe s'=>R (.error e) s') s₁)
   (notedBy (model prog w) A env λe s'=>R (.error e) s') s)(n:Nat)(h:I n s) :
  codeAny (model prog w) A (.compLoop (.ListComp elt [#[target,iter,ifs,0]] scope pos) 0 it acc env) R s:=by
 show codeAny_loop U I (λn s hI=>?_) n h;change EQ _ A ((compTurn (.ListComp elt [#[target,iter,ifs,0]] scope pos) 0 it acc env).onRaise (λx=>do noteFrame x env;theTreesLotGoes x)) _ _ s;show wpAny_noted ?_;rw[compTurn_list];show Db (wpAny_standAt (Db (KM (turn n s hI) (λr s₁ h₁=>?_) λ_ _ h'=>h')));cases r with
 | none=>exact GM h₁
 | some v =>
  show Db (KM h₁ (λ_ s₁' h₁'=>?_) λ_ _ h'=>h');show Db (KM h₁' (λ_ s₂ h₂=>Db (KM h₂ (λok s₃ h₃=>?_) λ_ _ h'=>h')) λ_ _ h'=>h');cases ok with
  | false=>exact GM #[U,h₃]
  | true =>
   exact Db (Db (KM h₃ (λx s₄ h₄=>Db (KM h₄ (λ_ s₅ h₅=>GM (GM #[U,h₅])) λ_ _ h'=>h')) λ_ _ h'=>h'))
end
def lift(nt:Nat)(us:!Nat)(O:St):St:=List.replicate nt none++us.map λj=>(O[j]?).join
def vA(ts:!Str)(us:!Nat)(N:!Str):!Str:=ts++us.map λj=>N.getD j ""
def Cx.comp(X:Cx)(ts:!Str)(us:!Nat)(scope:Scope)(C:AC)(s:Ch)(H:Hp)(fp:!AC):Cx :=
 { X with N:=vA ts us X.N,s₀:=s,H₀:=H,env:=compEnvC scope (fz X.env scope.names []) C X.env,outer:=X.stack,ex:=fp,fn:=λ_=>false,pn:=[],xe:=λ_ _=>False }
def Gw(X:Cx)(ifs:!Da)(t:TT):Prop :=
 ∀ (Tl:abL) (s:Ch) (O:St) (H:Hp) (Q:Bool->Hp->Prop),Inv X Tl O H s->t O H Q ->
  EQ (model X.prog X.w) X.A (forIn ifs true λc r=>if r=true then do let ok <- isTrue c X.env (eval c X.env);pure (ForInStep.yield ok) else pure (ForInStep.yield r)) (TP X Tl O Q) X.xe s
def BA:TT:=λ_ H Q=>Q true H
theorem sP{X:Cx}:Gw X [] BA:=λ_ _ _ H _ I h=>wpAny_tests_nil #[H,I,h]
theorem Fz{X:Cx}{c:Da}{t:TT}(hc:PT X c t):Gw X [c] t:=λTl s O H Q I h=>wpAny_tests_one (hc Tl s O H Q I h)
structure aT(X:Cx)(ts:!Str)(us:!Nat)(scope:Scope):Prop where
 kind:scope.kind=.function
 IZ:(scope.names.all λx=>x.2 != .cell)=true
 loc:(scope.names.all λx=>x.2 != .local||scope.names.lookup x.1 == some .local)=true
 free:(scope.names.all λx=>x.2 != .free||(X.env.cells.lookup x.1).isSome)=true
 Zu:(ts.all λx=>scope.names.lookup x == some .local)=true
 YY:(us.all λj=>match X.N[j]? with | some x=>scope.names.lookup x == some .free&&(X.env.kindOf x == some .cell||X.env.kindOf x == some .free) | none=>false)=true
section
variable{X:Cx}{ts:!Str}{us:!Nat}{scope:Scope}
theorem aT.nc(S:aT X ts us scope):∀ x∈scope.names,x.2≠.cell:=λx hx e=>by
 have q:=ZW.mp S.IZ x hx;rw[e] at q;exact absurd q ()
theorem aT.lc(S:aT X ts us scope):∀ x∈scope.names,x.2=.local->scope.names.lookup x.1=some .local:=λx hx e=>by
 have q:=ZW.mp S.loc x hx;rw[e] at q;have q':(scope.names.lookup x.1 == some .local)=true:=by simpa using q
 exact eq_of_beq q'
theorem aT.fr(S:aT X ts us scope):∀ x∈scope.names,x.2=.free->(X.env.cells.lookup x.1).isSome=true:=λx hx e=>by
 have q:=ZW.mp S.free x hx;rw[e] at q;simpa using q
theorem aT.NU(S:aT X ts us scope){j:Nat}(hj:j∈us):∃ x,X.N[j]?=some x/\scope.names.lookup x=some .free/\(X.env.kindOf x=some .cell\/X.env.kindOf x=some .free):=by
 have q:=ZW.mp S.YY j hj;cases e:X.N[j]? with
 | none=>rw[e] at q;exact absurd (show false=true from q) ZP
 | some x =>
  rw[e] at q;have q:(scope.names.lookup x == some .free&&(X.env.kindOf x == some .cell||X.env.kindOf x == some .free))=true:=q;rw[ZX,abl] at q;exact#[x,U,eq_of_beq q.1,q.2.imp eq_of_beq eq_of_beq]
theorem vU{Tl:abL}{O:St}{H:Hp}{s:Ch}{fp:!AC}{h₁:Ev}{t:Nat}{m:Str->Option AT}(S:aT X ts us scope)(I:Inv X Tl O H s)(hf:∀ b∈fp,fE X Tl H b)(Fh:∀ b∈fp,b < ↑s)(Gy:h₁.Ns ↑s m)(keep:∀ b o,s.heap.get? b=some o->h₁.get? b=some o)(ht:0 < t) :
  Inv (X.comp ts us scope ↑s s H fp) [] (lift ts.length us O) H { s with heap:=h₁,toks:=t }:=by
 have cl:∀ x c,(fz X.env scope.names []).lookup x=some c->X.env.cells.lookup x=some c:=λx c e=>by
  rcases i8 S.fr e with q | q
  .exact q
  .simp at q
 have kd:∀ x,((relabel scope X.env).names.lookup x=some .cell\/(relabel scope X.env).names.lookup x=some .free)->scope.names.lookup x=some .free:=λx hx=>by
  rcases hx with hx | hx
  .rcases fZ hx with q | q
   .exact absurd U (S.nc _ (aat q))
   .exact q.1
  .rcases fZ hx with q | q
   .exact q
   .cases q.2
 have ok:(X.comp ts us scope ↑s s H fp).Ok:=by
  show#[I.ok.mod,S.kind,I.ok.glob,I.ok.blt,ZC _,λx y c e1 e2=>I.ok.inj x y c (cl x c e1) (cl y c e2),λx hx=>?_,λx c e=>?_,I.ok.hd,I.ok.frames,.inl U,λb hb=>?_,I.bs,ZH I.ok.EN I.sz,λb o e hb=>?_,λb hb hb2=>?_,I.stack,I.sX]
  .have q:=kd x hx;exact aaI.mp (pB (aat q))
  .cases (show (false:Bool)=true from e)
  .let(f0,f1,f2,f3,f4,f5):=hf b hb;exact#[ZT (Fh b hb),λx c e=>f4 x c (cl x c e)]
  .let(f0,f1,f2,f3,f4,f5):=hf b hb;rcases f3 with z | z
   .exact I.ok.AF b o e z
   .exact absurd (ZL (ZK e) (ZH I.ok.EN z)) (aaY _)
  .let(f0,f1,f2,f3,f4,f5):=hf b hb;rcases ZD.mp (I.ym b hb2) with z | z
   .exact f1 z
   .exact f2 z
 show#[ok,U,I.bare,Un.kept keep,#[m,Gy,λi x v h1 h2 h3=>?_],λx c e=>?_,I.aD.fresh (Nat.le_refl _),λx c e=>I.gq x c (cl x c e),λp hp=>absurd (show p∈([]:abL) from hp) (by simp),I.aD.kept keep,?_,ht]
 .have h1:(vA ts us X.N)[i]?=some x:=h1;have h2:(lift ts.length us O)[i]?=some (some v):=h2;by_cases hi:i < ts.length
  .unfold lift at h2;rw[List.getElem?_append_left (by simpa using hi),List.getElem?_replicate] at h2;split at h2<;>cases h2
  .have AM:ts.length<=i:=Nat.le_of_not_lt hi;unfold lift at h2;unfold vA at h1;rw[List.getElem?_append_right (by simpa using AM),List.length_replicate,List.getElem?_map] at h2;rw[List.getElem?_append_right AM,Z8] at h1;cases ej:us[i - ts.length]? with
   | none=>rw[ej] at h1;cases h1
   | some j =>
    rw[ej] at h1 h2;let(y,hy,hyf,hyk):=S.NU (aaA ej);have e1:X.N.getD j ""=x:=Z7 h1;have e2:X.N.getD j ""=y:=by rw[abg,hy];rfl
    have exy:y=x:=e2.symm.trans e1;subst exy;have e3:(O[j]?).join=some v:=Z7 h2;have e4:O[j]?=some (some v):=by
     cases q:O[j]? with
     | none=>rw[q] at e3;cases e3
     | some z =>
      rw[q] at e3;have:z=some v:=e3;rw[this]
    let(m0,hn0,hl0):=I.loc;have hvis:LX X.env.scope y:=.inr hyk;let(u,r,l):=hl0 j y v hy e4 hvis;show#[u,r,?_];rcases l with ⟨k1,_⟩ | ⟨k1,c,hc,hcell⟩
    .rcases hyk with z | z
     .rw[k1] at z;cases z
     .rw[k1] at z;cases z
    .refine .inr #[?_,c,?_,?_]
     .have h3:(relabel scope X.env).names.lookup y=some .local\/(relabel scope X.env).names.lookup y=some .cell\/(relabel scope X.env).names.lookup y=some .free:=h3;rcases h3 with z | z
      .rcases fZ z with q | q
       .rw[hyf] at q;cases q
       .cases q.2
      .exact z
     .let(c',hc'):=aaI.mp (pB (env:=X.env) (acc:=[]) (aat hyf));have q:=cl y c' hc';rw[hc] at q;cases q;exact hc'
     .let(o,ho,hd):=hcell;exact#[o,keep c o ho,hd]
 .let(v,o,ho,hd):=I.cell x c (cl x c e);exact#[v,o,keep c o ho,hd]
 .show (lift ts.length us O).length=(vA ts us X.N).length;unfold lift vA;rw[ZE,ZE,abD,Zy,Zy]
def D4(O O':St):Prop:=∀ (i:Nat) (v:V),O[i]?=some (some v)->O'[i]?=some (some v)
theorem vR{nt i:Nat}{us:!Nat}{O:St}{x:Option V}(hi:i < nt):D4 (lift nt us O) ((lift nt us O).set i x):=λj v e=>by
 by_cases hj:j=i
 .subst hj;unfold lift at e;rw[List.getElem?_append_left (by simpa using hi),List.getElem?_replicate] at e;split at e<;>cases e
 .rw[ZU (Ne.symm hj)];exact e
def pN(nt:Nat)(us:!Nat)(O:St)(g:TG)(ti:TT)(te:TE)(J:It)(H1:Hp)(Q:VK):Prop :=
 ∀ D,H1 D=none->∃ W:Nat->Nat->!V->Hp->Prop,(∃ m,W 0 m [] (upd H1 D (.lst [])))/\∀ i m ys H2,W i m ys H2->H2 D=some (.lst ys) /\
  ((J.stop i H2/\Q (.ref D) H2)\/(J.go i H2/\ys.length < FB/\∀ x H3,J.LU i H2 x H3->g x (lift nt us O) H3 λO4 H4=>D4 (lift nt us O) O4/\ti O4 H4 λb H5 =>
    if b=true then te O4 H5 λy H6=>H6 D=some (.lst ys)/\∃ m',m' < m/\W (i+1) m' (ys++[y]) (upd H6 D (.lst (ys++[y]))) else ∃ m',m' < m/\W (i+1) m' ys H5))
def qA(nt:Nat)(us:!Nat)(wi:TI)(g:TG)(ti:TT)(te:TE):TE:=λO H Q=>wi O H λJ H1=>pN nt us O g ti te J H1 Q
theorem pA{tg elt iter:Da}{ifs:!Da}{pos:Pos}{g:TG}{ti:TT}{te:TE}{Tl:abL}{O:St}{H:Hp}{s:Ch}{it:AC}{fp:!AC}{tn:Nat->Ev->Prop}{J:It}{Q:VK}{E:abK}{RR:AT->AC->Result->Ch->Prop}(S:aT X ts us scope)(hc:X.calm=true)(I:Inv X Tl O H s)(T:Turn X.prog X.w X.K tg J fp it tn)(st:tn 0 s.heap)(hf:∀ b∈fp,fE X Tl H b)(hg:∀ C s H fp,PG (X.comp ts us scope C s H fp) tg g)(qR:∀ C s H fp,Gw (X.comp ts us scope C s H fp) ifs ti)(he:∀ C s H fp,PE (X.comp ts us scope C s H fp) elt te)(q:pN ts.length us O g ti te J H Q)(SR:∀ D C s' H',Inv X Tl O H' s'->(∃ m,s'.heap.Ns C m)->fE X Tl H' C->Q (.ref D) H'->RR (.ref D) C (.ok .next) s') :
  EQ (model X.prog X.w) X.A (newList []) (λacc s₃=>EQ (model X.prog X.w) X.A (newFunctionEnv scope X.env.globals (fz X.env scope.names []) [] X.env.qual none .none (some X.env)) (λcenv s₄ =>
   codeAny (model X.prog X.w) X.A (.compStart (.ListComp elt [#[tg,iter,ifs,0]] scope pos) 0 (.ref it) acc { cenv with scope:=relabel scope X.env }) (RR acc cenv.locals) s₄) E s₃) E s:=by
 show TD (wpAny_newFunctionEnv S.nc (by intro y hy;simp at hy) (λh₁ hns₁ hsb₁=>?_) S.kind);dsimp only at hns₁ hsb₁ ⊢;have I3:Inv X Tl O (upd H ↑s (.lst [])) { s with heap:=s.heap.push { cls:=.type "list",data:=.seq ([]:!AT).toArray } }:=I.K6 (its:=[]) (ys:=[]) (t':=s.toks) .nil (Z1 _);have Fh:∀ b∈fp,b < ↑s:=λb hb=>by
  let(o,e,_):=T.obj 0 _ st b hb;exact ZK e
 have hf3:∀ b∈fp,fE X Tl (upd H ↑s (.lst [])) b:=λb hb=>by
  let(f0,fr):=hf b hb;exact#[by rw[ai (ZT (Fh b hb))];exact f0,fr]
 generalize hs3:({ s with heap:=s.heap.push { cls:=.type "list",data:=.seq ([]:!AT).toArray } }:Ch)=s3 at I3;have hs3h:s3.heap=s.heap.push { cls:=.type "list",data:=.seq ([]:!AT).toArray }:=by rw[<- hs3]
 have keep:∀ b o,s3.heap.get? b=some o->h₁.get? b=some o:=λb o e=>by
  rw[hs3h] at e;exact hsb₁.extBut b o (ZT (ZK e)) (Zz _ e)
 have keep0:∀ b o,s.heap.get? b=some o->h₁.get? b=some o:=λb o e=>keep b o (by rw[hs3h];exact Zz _ e);let(W,(m0,w0),turn):=q ↑s (I.aD.fresh (ZC _));have hC:(s.heap.push { cls:=.type "list",data:=.seq ([]:!AT).toArray }).objs.size=↑s3:=by rw[hs3h]
 have hfl3:∀ b∈fp,b < ↑s3:=λb hb=>by
  rw[hs3h,aaB];exact Nat.lt_succ_of_lt (Fh b hb)
 have hns3:h₁.Ns ↑s3 (λx=>([]:!(Str×AT)).reverse.lookup x):=by rw[<- hC];exact hns₁
 have I4:∀ t,0 < t->Inv (X.comp ts us scope ↑s3 s3 (upd H ↑s (.lst [])) fp) [] (lift ts.length us O) (upd H ↑s (.lst [])) { s3 with heap:=h₁,toks:=t }:=λt ht=>vU S I3 hf3 hfl3 hns3 keep ht;have FQ:tn 0 h₁:=T.keep 0 _ _ st λb _ o e=>keep0 b o e;have loop:∀ s₄:Ch,(∃ t,0 < t/\s₄={ s3 with heap:=h₁,toks:=t }) ->
   codeAny (model X.prog X.w) X.A (.compLoop (.ListComp elt [#[tg,iter,ifs,0]] scope pos) 0 (.ref it) (.ref ↑s) (compEnvC scope (fz X.env scope.names []) ↑s3 X.env)) (RR (.ref ↑s) ↑s3) s₄:=by
  rintro s₄ ⟨t4,ht4,rfl⟩;have stat:∀ {H':Hp},(∀ b∈fp,H' b=none)->∀ b∈fp,fE (X.comp ts us scope ↑s3 s3 (upd H ↑s (.lst [])) fp) [] H' b:=λ{H'} hn b hb=>by
   have ok:=(I4 1 Nat.one_pos).ok;exact#[hn b hb,(ok.Kl b hb).1,ok.xK b hb,.inl hb,(ok.Kl b hb).2,λp hp=>absurd (show p∈([]:abL) from hp) (by simp)]
  show kJ (λn s'=>∃ i ys H',Inv (X.comp ts us scope ↑s3 s3 (upd H ↑s (.lst [])) fp) [] (lift ts.length us O) H' s'/\tn i s'.heap/\(∀ b∈fp,H' b=none)/\W i n ys H') ?_ m0
   #[0,[],_,I4 t4 ht4,FQ,λb hb=>(hf3 b hb).1,w0]
  rintro n s5 ⟨i,ys,H5,I5,st5,fr5,w5⟩;let(hD,hturn):=turn i n ys H5 w5;rcases hturn with ⟨stop,qn⟩ | ⟨go,hlen,step⟩
  .refine bQ (T.done (X.comp ts us scope ↑s3 s3 (upd H ↑s (.lst [])) fp) U U U hc i [] s5 (lift ts.length us O) H5 _ I5 (stat fr5) st5 stop) λr s6 z9q=>?_;let(hr,I6):=z9q;subst hr;have I7:Inv X Tl O H5 s6:=I3.yB (ch:=fp) I6.os I6.base I6.aD I6.bare λb hb=>by
    let(f0,f1,f2,f3,f4,f5):=hf3 b hb;exact#[f3,f1,f4,f5]
   let(m6,hn6,_):=I6.loc;exact SR _ _ s6 H5 I7 #[m6,hn6] (I3.ud (ZC _) I6.free) qn
  .refine bQ (T.item (X.comp ts us scope ↑s3 s3 (upd H ↑s (.lst [])) fp) U U U hc i [] s5 (lift ts.length us O) H5 _ I5 (stat fr5) st5 go) λr s6 z0q=>?_;let(u,hr,h6):=z0q;subst hr;show bQ h6 λ_ s7 z1q=>?_;let(x,H7,I7,r7,y7,st7,fr7):=z1q;have I7':=I7.pinned (stat fr7) (T.obj _ _ st7);show KM (hg _ _ _ _ _ s7 (lift ts.length us O) H7 x u _ I7' r7 (step x H7 y7)) (λ_ s8 #[O8,H8,I8,kp8,q8]=>?_) λ_ _ z=>False.elim z;show KM (qR _ _ _ _ _ s8 O8 H8 _ I8 q8) (λb s9 #[H9,I9,q9]=>?_) λ_ _ z=>False.elim z;have fin:∀ {s':Ch} {H':Hp} {Jo:!V},Inv (X.comp ts us scope ↑s3 s3 (upd H ↑s (.lst [])) fp) ([]++iz fp s7.heap) O8 H' s'->(∃ m',m' < n/\W (i+1) m' Jo H') ->
     ∃ m,m < n/\∃ i ys H',Inv (X.comp ts us scope ↑s3 s3 (upd H ↑s (.lst [])) fp) [] (lift ts.length us O) H' s'/\tn i s'.heap/\(∀ b∈fp,H' b=none)/\W i m ys H':=λ{s' H' Jo} J' z2q=>by
    let(m',hm,w'):=z2q;show#[m',hm,i+1,Jo,H',J'.gE.weak ?_ kp8,T.keep _ _ _ st7 λb hb o e=>(J'.pin (b,o) (ZQ _ (ZQ _ (d8 hb e)))).1,λb hb=>?_,w']
    .rw[J'.len,I7.len]
    .let(o,e,d):=T.obj _ _ st7 b hb;exact (J'.pin (b,o) (ZQ _ (ZQ _ (d8 hb e)))).2.1
   cases b with
   | false =>
    rw[if_neg ZP] at q9 ⊢;exact fin I9 q9
   | true =>
    rw[if_pos U] at q9 ⊢;show KM (he _ _ _ _ _ s9 O8 H9 _ I9 q9) (λyv s10 #[y,H10,I10,r10,hD10,q10]=>?_) λ_ _ z=>False.elim z;show KM (eA (X:=X.comp ts us scope ↑s3 s3 (upd H ↑s (.lst [])) fp) _ s10 O8 H10 (.ref ↑s) [y] (.ref ↑s) [yv] (λ_ H'=>∃ m',m' < n/\W (i+1) m' (ys++[y]) H') I10 U (.cons r10 .nil) #[_,ys,y,U,U,hD10,hlen,q10]) (λ_ s11 #[_,H11,I11,_,q11]=>?_) λ_ _ z=>False.elim z;exact fin I11 q11
 have e4:({ s with heap:=h₁,toks:=s.toks+([]:!(Str×AT)).length }:Ch)={ s3 with heap:=h₁,toks:=s.toks+([]:!(Str×AT)).length }:=by rw[<- hs3]
 first
  | (rw[e4,hC];exact codeAny_compStart_list (loop _ #[_,I.tk,rfl]) (T.self _ 0 _ _ _ FQ (loop _ #[_,I.tk,rfl])))
  | (have L4:=codeAny_compStart_list (elt:=elt) (target:=tg) (iter:=iter) (ifs:=ifs) (rest:=[]) (scope:=scope) (pos:=pos) (loop _ #[s.toks+([]:!(Str×AT)).length,I.tk,U]) (T.self _ 0 _ _ _ FQ (loop _ #[s.toks+([]:!(Str×AT)).length,I.tk,U]))
     subst hs3;exact L4)
theorem ua{tg elt iter:Da}{ifs:!Da}{pos:Pos}{wi:TI}{g:TG}{ti:TT}{te:TE}(S:aT X ts us scope)(hc:X.calm=true)(hi:PI X tg iter wi)(hg:∀ C s H fp,PG (X.comp ts us scope C s H fp) tg g)(qR:∀ C s H fp,Gw (X.comp ts us scope C s H fp) ifs ti)(he:∀ C s H fp,PE (X.comp ts us scope C s H fp) elt te)(hs:abR iter X.env:=by intro _;rfl):PE X (.ListComp elt [#[tg,iter,ifs,0]] scope pos) (qA ts.length us wi g ti te):=by
 intro Tl s O H Q I h;rw[eval_ListComp];show wpAny_comprehension_free (use:=none) U hs (fe S.fr) S.kind S.lc (bQ (hi Tl s O H _ I h) λv s1 h1=>bQ h1 λMk s2 h2=>?_);let(it,fp,tn,J,H2,e,I2,T,Dk,f2,q):=h2;subst e;show pA (RR:=λacc C=>compPost (model X.prog X.w) X.A X.xe none (EP X Tl O Q) acc C) S hc I2 T Dk f2 hg qR he q ?_;intro D C s' H' I' hn F q';let(m,hn):=hn;let(f0,f1,f2,f3,f4,f5):=F;show#[m,hn,λh' sb=>?_];have I8:Inv X Tl O H' { s' with heap:=h' }:=I'.turned (t':=s'.toks) (λb o hb e=>(sb.2 b hb).trans e) f0 f1 f3 f4 f5;exact#[.ref D,H',I8,U,q']
theorem Hd{i:Nat}{x:Str}{tg elt iter:Da}{ifs:!Da}{pos px u1:Pos}{wi:TI}{g:TG}{ti:TT}{te:TE}(hN:X.N.Nodup)(AM:X.N[i]?=some x)(hx:X.env.scope.names.lookup x=some .local)(S:aT X ts us scope)(hc:X.calm=true)(hi:PI X tg iter wi)(hg:∀ C s H fp,PG (X.comp ts us scope C s H fp) tg g)(qR:∀ C s H fp,Gw (X.comp ts us scope C s H fp) ifs ti)(he:∀ C s H fp,PE (X.comp ts us scope C s H fp) elt te)(Fs:(swapsWith (.ListComp elt [#[tg,iter,ifs,0]] scope pos) (some (.Name x px)) u1.line X.env=pure true)⁻¹)(hs:abR iter X.env:=by intro _;rfl):PS X (.Assign [.Name x px] (.ListComp elt [#[tg,iter,ifs,0]] scope pos) u1) (jh (qA ts.length us wi g ti te) (dJ i)):=by
 intro Tl s O H D I h;rw[exec_Assign_Name_used _ _ _ _ Fs];show Db (wpAny_standAt (Db ?_));change EQ _ _ (do let _ <- comprehension (.ListComp elt [#[tg,iter,ifs,0]] scope pos) scope X.env _ (newList []) false (eval iter X.env) (some (assign (.Name x px) X.env))) _ _ s;show Db (KM (wpAny_comprehension_free (use:=some (assign (.Name x px) X.env)) (Q:=λ_ s'=>SP X Tl D .next s') U hs (fe S.fr) S.kind S.lc
  (bQ (hi Tl s O H _ I h) λv s1 h1=>bQ h1 λMk s2 h2=>?_)) (λ_ s' hq=>GM (GM hq)) λ_ _ e=>e)
 let(it,fp,tn,J,H2,e,I2,T,Dk,f2,q):=h2;subst e;show pA (RR:=λacc C=>compPost (model X.prog X.w) X.A X.xe (some (assign (.Name x px) X.env)) (λ_ s'=>SP X Tl D .next s') acc C) S hc I2 T Dk f2 hg qR he q ?_;intro L C s' H' I' hn F q';let(m,hn):=hn;let(f0,f1,f2,f3,f4,f5):=F;change EQ _ _ (assign (.Name x px) X.env (.ref L)) _ _ s';show wpAny_assign_Name (mV I' hN AM (.inl hx) (v:=.ref L) U (λBp I'' hsb=>?_) (.inr hx));let(a,sb,ha):=hsb;have iR:C≠a:=by
  rcases ha with z | z
  .rw[z];exact f1
  .exact λw=>f4 x a z w.symm
 show#[m,hn.sameBut sb iR,λh' sb'=>?_];have I8:Inv X Tl (O.set i (some (.ref L))) H' { Bp with heap:=h' }:=I''.turned (t':=Bp.toks) (λb o hb e=>(sb'.2 b hb).trans e) f0 f1 f3 f4 f5;exact#[_,H',I8,q']
end
end L2
namespace PySem
open Sem (wp)
namespace F
theorem Ak:typeLookup (.type "list_reverseiterator") "__len__"=pure none:=by rw[typeLookup_type,builtinLookup_eq_fast];kernel_rfl
theorem CL:typeLookup (.type "list_reverseiterator") "__length_hint__"=pure (some (.builtin "list_reverseiterator.__length_hint__")):=by rw[typeLookup_type,builtinLookup_eq_fast];kernel_rfl
end F
section
variable{prog:Fr}{w:Fa}{A:GE}{E:abK}{s:Ch}
theorem uh{R:Result->Ch->Prop}{I:AC}{fp wr:!AC}{n:Nat}{P:Nat->AT->Prop}{St:Nat->Ev->Prop}(W:Walks prog w A.in1 I fp wr n P St)(hT:∀ i h,St i h->∃ o,h.get? I=some o/\o.cls=.type "list_reverseiterator")(S:AC)(res:AT)(c₀:Nat)(jQ:St 0 s.heap)(Wv:S∉fp)(hI:I∈fp)(hS:s.heap.get? S=some { cls:=.type "list",data:=.seq #v[] c₀ })(hR:∀ h' tk acc' c',(∀ b o,b≠S->b∉wr->s.heap.get? b=some o->h'.get? b=some o)->h'.get? S=some { cls:=.type "list",dict:=none,data:=.seq acc' c',slots:=#v[] } ->
   ItemsOf P acc' n->R (.ok (.ret res)) { s with heap:=h',toks:=tk })(hn:n<=FB) :
  EQ (model prog w) A.in1 (GT.List.listExtendWith (.ref S) (.ref I) res)
   (λfin s'=>match fin with | .done f=>R (.ok f) s' | .again c'=>c'.quiet=true/\codeAny (model prog w) A c' R s') (λe s'=>R (.error e) s') s:=by
 have hSI:S≠I:=λe=>Wv (e▸hI);have hTs:s.TypeIs (.ref I) "list_reverseiterator":=hT 0 _ jQ;unfold GT.List.listExtendWith;show Db (wpAny_typeOf hTs ?_);have h1:GT.List.listSameRef (.ref S) (.ref I)=false:=by simp[GT.List.listSameRef,hSI]
 have h2:(AT.type "list_reverseiterator" == AT.type "list")=false:=by decide
 have h3:(AT.type "list_reverseiterator" == AT.type "tuple")=false:=by decide
 simp only[h1,h2,h3,Bool.or_false,Bool.false_eq_true,if_false];show Db (W.self 0 _ _ _ jQ ?_);show Db (Rs ?_);unfold GT.List.listLengthHint;show Db (wpAny_specialOf hTs F.Ak ?_);change EQ _ A.in1 (specialOf (AT.ref I) (Str.ofString "__length_hint__") >>= _) _ _ _;show Db (wpAny_specialOf hTs F.CL ?_);generalize hid:("list_reverseiterator.__length_hint__":String)=id0
 wp_delta
 rw[show splitId id0=some ("list_reverseiterator","__length_hint__") from by subst hid;decide+kernel];subst hid;show Db (wpAny_isInstance (b:=true) hTs (by rw[isSubtype_type];kernel_rfl) ?_);show GM ?_;rw[if_neg ()];show GM #[plainId_quiet F.plain_extend_loop _,codeAny_extend_loopS W.toS hn _ Wv _ n 0 _ _ _ U (Z1 _) jQ hS (ItemsOf.nil P) λs' acc' c' hm hS' hacc=>?_];rw[Moved.eq_with hm];show hR s'.heap s'.toks acc' c' (λb ob hb hw e=>hm.heap b ob (λhmem=>?_) e) hS' hacc;rcases ZD.mp hmem with e' | hmem
 .exact hb e'
 .exact hw hmem
theorem om{Q:abK}(hh:A.handled=none){I l:AC}{items:Array AT}(iR:l≠I)(hit:s.heap.IsRevIter I l ((items.size:Int) - 1))(hl:s.heap.IsList l items)(hQ:∀ h' tk acc' c',(∀ b o,b≠I->s.heap.get? b=some o->h'.get? b=some o)->h'.get? ↑s=some { cls:=.type "list",dict:=none,data:=.seq acc' c',slots:=#v[] } ->
   ItemsOf (λi v=>items[items.size - 1 - i]?=some v) acc' items.size->Q (.ref ↑s) { s with heap:=h',toks:=tk })(hn:items.size<=FB) :
  EQ (model prog w) A (call (.type "list") [.ref I]) Q E s:=by
 have hIlt:I < ↑s:=by let(o,e,_):=hit;exact ZK e
 have hllt:l < ↑s:=by let(o,e,_):=hl;exact ZK e
 show callType_codes (Q₁:=λobj s₁=>obj=.ref ↑s/\s₁={ s with heap:=s.heap.push { cls:=.type "list",data:=.seq #v[] } }) F.called_list (F.typeCall_list_1 _) F.entry_list_init
  (code_list_new _ #[U,U]) λobj s₁ h₁=>?_
 let(rfl,rfl):=h₁;have hS:(s.heap.push { cls:=.type "list",data:=.seq #v[] }).get? ↑s=some { cls:=.type "list",data:=.seq #v[] }:=ZS _ U;show#[#[_,hS,U],F.args_list_init_2 _ _,?_];change EQ _ _ (do let old <- GT.List.listItems (.ref ↑s);GT.List.listUpdate (.ref ↑s) (λ_=>#v[]);letGo old.toList.reverse;GT.List.listExtendWith (.ref ↑s) (.ref I) .none) _ _ _;show Db ?_;unfold GT.List.listItems;show Db (Sc hS U (GM ?_));change EQ _ _ (updateSeq ↑s (λ_=>#v[]) >>= λ_=>letGo (#v[]:Array AT).toList.reverse >>= λ_=>GT.List.listExtendWith (.ref ↑s) (.ref I) .none) _ _ _;show Db (wpAny_updateSeq hS U ?_);have hS₂:=aau (Obj.mapSeq (λ_=>(#v[]:Array AT))) hS U;have oth:∀ b o,b≠↑s->s.heap.get? b=some o->((s.heap.push { cls:=.type "list",data:=.seq #v[] }).update ↑s (Obj.mapSeq (λ_=>(#v[]:Array AT)))).get? b=some o :=
  λb o hb e=>(ZY _ _ (Ne.symm hb)).trans (Zz _ e)
 show Db (wpAny_letGo ?_);have W:=Walks.listRev (prog:=prog) (w:=w) (A:=A.in1.in1) hh I l iR items;show uh (A:=A.in1) W (λi h st=>let #[o,e,c,_]:=st.2.1;#[o,e,c]) ↑s .none _ ?_ ?_ (by simp) hS₂ (λh' tk acc' c' kp e hacc=>?_) hn
 .refine#[Z1 _,?_,?_]
  .have e0:(items.size:Int) - 1 - ((0:Nat):Int)=(items.size:Int) - 1:=by cbv
   rw[e0];exact hit.at λo e=>oth I o (ZT hIlt) e
  .exact hl.at λo e=>oth l o (ZT hllt) e
 .intro hm;rcases ZD.mp hm with e | hm
  .exact absurd e (aah hIlt)
  .exact absurd (ZI.mp hm) (aah hllt)
 .exact#[U,hQ h' tk acc' c' (λb o hb eb=>kp b o (Nat.ne_of_lt (Ev.lt_size eb)) (by simpa using hb) (oth b o (Nat.ne_of_lt (Ev.lt_size eb)) eb)) e hacc]
end
end PySem
namespace L2
open PySem PySem.Spec PyProof.Rows
def T8(z:Str):It:=#[λi _=>i < z.cps.size,λi H x H'=>H'=H/\∃ c,z.cps[i]?=some c/\x=.str #[#v[c]],λi _=>z.cps.size<=i]
theorem uM{P:Fr}{w:Fa}{K:Frag}{tg:Da}{z:Str}{t:Tok}{it:AC}{ty:String}(hn:["enumerate","zip","dict_itemiterator","dict_reverseitemiterator","odict_iterator","itertools.zip_longest","itertools.pairwise"].contains ty=false)(SY:∀ (A:GE) (i:Nat) (s:Ch) (Q:Option AT->Ch->Prop) (E:abK),A.handled=none->s.heap.IsStrIter it ty z t i->z.cps[i]?=none->(∀ h',Ev.ExtBut it s.heap h'->Q none { s with heap:=h' })->EQ (model P w) A (pyNext (.ref it)) Q E s)(hit:∀ (A:GE) (i c:Nat) (s:Ch) (Q:Option AT->Ch->Prop) (E:abK),s.heap.IsStrIter it ty z t i->z.cps[i]?=some c->(∀ h',h'.IsStrIter it ty z t (i+1)->Ev.SameBut it s.heap h'->Q (some (.str #[#v[c]] s.toks)) { s with heap:=h',toks:=s.toks+1 })->EQ (model P w) A (pyNext (.ref it)) Q E s)(Oq:∀ (A:GE) (i:Nat) (s:Ch) (Q:abK) (E:abK),s.heap.IsStrIter it ty z t i->Q (.ref it) s->EQ (model P w) A (pyIter (.ref it)) Q E s) :
  Turn P w K tg (T8 z) [it] it (λi h=>h.IsStrIter it ty z t i) where
 mem:=by simp
 obj:=λi h st b hb=>by
  have e:b=it:=by simpa using hb
  subst e;let(o,e,c,d):=st;exact#[o,e,λv z=>by rw[d] at z;cases z]
 keep:=λi h h' st k=>by
  let(o,e,r):=st;exact#[o,k it (by simp) o e,r]
 item:=by
  intro X hP hw hK hc i Tl s O H E I hf st hg;subst hP hw hK;let(f0,f1,f2,f3,f4,f5):=hf it (by simp);obtain⟨c,hcp⟩:∃ c,z.cps[i]?=some c:=#[_,Array.getElem?_eq_getElem (show i < z.cps.size from hg)];show hit X.A i _ s _ _ st hcp λh' st' sb=>?_;have I1:Inv X Tl O H { s with heap:=h',toks:=s.toks+1 }:=I.turned (λb o hb e=>(sb.2 b hb).trans e) f0 f1 f3 f4 f5;let(o,e,cc,d):=id st';exact#[_,U,zF (s:={ s with heap:=h',toks:=s.toks+1 }) e cc d hn #[.str #[#v[c]],H,I1,#[#[_,aah I.tk],U],#[U,c,hcp,U],st',λb hb=>(hf b hb).1]]
 done:=by
  intro X hP hw hK hc i Tl s O H E I hf st hg;subst hP hw hK;have hg:z.cps.size<=i:=hg;let(f0,f1,f2,f3,f4,f5):=hf it (by simp);exact SY X.A i s _ _ (I.ok.hd hc) st (by simp[hg]) λh' kk=>#[U,I.turned (t':=s.toks) (λb o hb e=>kk b o hb e) f0 f1 f3 f4 f5]
 self:=λA i s Q E st h=>Oq A i s Q E st h
section
variable{X:Cx}{tg:Da}
def U5(tl:TE):TI:=λO H R=>tl O H λx H1=>∃ z,x=.str z/\R (T8 z) H1
theorem EG{l:Da}{tl:TE}(hl:PE X l tl):PI X tg l (U5 tl):=by
 intro Tl s O H R I h;show bQ (hl Tl s O H _ I h) λv s1 zz=>el2 zz λx H1 I1 r1 q1=>?_;let(z,e,q):=q1;subst e;let(t,rfl):=r1;have fin:∀ (b:AC),b∈[↑s1]->fE X Tl H1 b:=λb hb=>by
  have e:b=↑s1:=by simpa using hb
  subst e;exact I1.ud (ZC _) (I1.aD.fresh (ZC _))
 cases ha:z.cps.all (·< 128)
 .exact wpAny_pyIter_wide ha #[↑s1,[↑s1],_,_,H1,U,I1.kept (t':=s1.toks) λb o e=>Zz _ e,
   uM () (λA i s Q E hh st hx h=>wpAny_pyNext_wide_end hh st hx h) (λA i c s Q E st hc h=>wpAny_pyNext_wide_item st hc h) (λA i s Q E st h=>wpAny_pyIter_striter_wide st h),#[_,ZS _ U,U,U],fin,q]
 .exact wpAny_pyIter_ascii ha #[↑s1,[↑s1],_,_,H1,U,I1.kept (t':=s1.toks) λb o e=>Zz _ e,
   uM () (λA i s Q E hh st hx h=>wpAny_pyNext_ascii_end hh st hx h) (λA i c s Q E st hc h=>wpAny_pyNext_ascii_item st hc h) (λA i s Q E st h=>wpAny_pyIter_striter_ascii st h),#[_,ZS _ U,U,U],fin,q]
end
section
variable{X:Cx}
theorem range_all(bs:!Bool):((List.range bs.length).all λi=>bs.getD i false)=bs.all id:=by
 rw[aaH,ZW,ZW];constructor
 .intro h b hb;let(i,hi,rfl):=List.getElem_of_mem hb;have:=h i (aa0.mpr hi);simpa [List.getD_eq_getElem?_getD,hi] using this
 .intro h i hi;have AM:=aa0.mp hi;have:=h bs[i] (List.getElem_mem AM);simpa [List.getD_eq_getElem?_getD,AM] using this
theorem du(hc:X.calm=true):eE X (.builtin "all") (λxs H Q=>∃ (p:AC) (bs:!Bool),xs=[.ref p]/\dM X.K H p (bs.map V.bl)/\Q (.bl (bs.all id)) H):=by
 intro Tl s O H xs us Q I r h;let(p,bs,rfl,hq,q):=h;let(u,rfl,rx):=vals1 r;cases rx;let(its,rv,pl,hz):=I.list hq;have hp:p < ↑s:=by let(o,_,e,_):=pl;exact ZK e
 have hlen:its.toArray.size=bs.length:=by rw[ZV,<- rv.length,Zy]
 show gB (call_all_walk (wpAny_pyIter_list pl.isList ?_));show#[↑s,_,_,_,_,_,λi=>bs.getD i false,U,Walks.list (A:=X.A.in1) (I.ok.hd hc) ↑s p (ZT hp) its.toArray,#[#[_,ZS _ U,U,U],pl.isList.push _],?_,?_]
 .intro i v s' Q' E' hv hq';have hv':its[i]?=some v:=by simpa using hv
  have hi:i < bs.length:=by
   have:=(ZF.mp hv').1;rw[ZV] at hlen;cbv
  let(u,hu,ru):=rv.get (i:=i) (x:=V.bl bs[i]) (by simp[hi]);rw[hv'] at hu;cases hu;cases (show v=AT.bool bs[i] from ru);have e:bs.getD i false=bs[i]:=by simp[List.getD_eq_getElem?_getD,hi]
  have hq'':Q' (bs.getD i false) s':=hq';rw[e] at hq'';exact wpAny_truthy_bool hq''
 .intro h' tk kp tl;have I':Inv X Tl O H { s with heap:=h',toks:=tk }:=I.kept (t':=tk) (λb o e=>kp b o (by simpa using Nat.ne_of_lt (Ev.lt_size e)) (Ev.get?_push_of_some _ e)) (Nat.lt_of_lt_of_le I.tk tl);show#[.bl (bs.all id),H,I',?_,q];change AT.bool _=AT.bool _;rw[hlen,range_all]
def vg(K:Frag)(te:TE):TE:=λO H Q=>te O H λx H1=>∃ a xs,x=.ref a/\dM K H1 a xs/\∀ l,H1 l=none->Q (.ref l) (upd H1 l (.lst xs.reverse))
theorem Bg{items acc:Array AT}(h:ItemsOf (λi v=>items[items.size - 1 - i]?=some v) acc items.size):acc.toList=items.toList.reverse:=by
 let(h1,h2):=h;apply List.ext_getElem?;intro i;by_cases hi:i < items.size
 .have AM:i < acc.size:=by cbv
  have e:acc[i]?=some acc[i]:=by simp[AM]
  have:=h2 i _ e;rw[List.getElem?_reverse (by simpa using hi)];rw[aav,e,aa5,aav];rw[<- this]
 .rw[List.getElem?_eq_none (by simpa using (by cbv:acc.size<=i)),List.getElem?_eq_none (by simpa using (by cbv:items.size<=i))]
theorem wI{e:Da}{te:TE}{p p2 pos Dq:Pos}(hc:X.calm=true)(XM:Gl X "list")(Xg:X.mg "list"=none)(Xf:Gl X "reversed")(Ym:X.mg "reversed"=none)(he:PE X e te)(hs:(Go [.Call (.Name "reversed" p2) [e] [] Dq] X.env=[(false,eval (.Call (.Name "reversed" p2) [e] [] Dq) X.env)])⁻¹)(xh:(Go [e] X.env=[(false,eval e X.env)])⁻¹) :
  PE X (.Call (.Name "list" p) [.Call (.Name "reversed" p2) [e] [] Dq] [] pos) (vg X.K te):=by
 intro Tl s O H Q I h;show wpAny_Call_Name_kw (kf I XM Xg PyProof.Rows.boot_list ?_ () ());show PyProof.Rows.callWith_type1 ?_ hs U;rw[hs];change EQ _ _ (spliced ((false,eval (.Call (.Name "reversed" p2) [e] [] Dq) X.env)::KB pos [])) _ _ s;show Calls.spliced_cons ?_;show wpAny_Call_Name_kw (kf I Xf Ym PyProof.Rows.boot_reversed ?_ () ());show PyProof.Rows.callWith_type1 ?_ xh U;rw[xh];change EQ _ _ (spliced ((false,eval e X.env)::KB Dq [])) _ _ s;show Calls.spliced_cons (bQ (he Tl s O H _ I h) λu s1 z3q=>?_);let(x,H1,I1,r1,a,xs,ex,hq,q):=z3q;subst ex;cases r1;show Calls.spliced_nil ?_;let(its,rv,pl,hz):=I1.list hq;have hp:a < ↑s1:=by let(o,_,e,_):=pl;exact ZK e
 have hlen:=rv.length;show call_reversed_list pl.isList ?_;show Calls.spliced_nil ?_;have I2:Inv X Tl O H1 { s1 with heap:=s1.heap.push (revObj a ((its.toArray.size:Int) - 1)) }:=I1.kept (t':=s1.toks) λb o e=>Zz _ e;show gB <| om (I.ok.hd hc) (items:=its.toArray) (ZT hp) #[_,ZS _ U,U,U] (pl.isList.push _) (λh' tk acc' c' kp e hacc tl=>?_) (by rw[ZV];cbv)
 have e2:=Bg hacc;have F:fE X Tl H1 ↑s1:=I1.ud (ZC _) (I1.aD.fresh (ZC _));let(f0,f1,f2,f3,f4,f5):=F;have hk:∀ b o,s1.heap.get? b=some o->h'.get? b=some o:=λb o eb=>kp b o (ZT (ZK eb)) (Zz _ eb);show#[.ref _,_,I1.laid (t':=tk) (h':=h') (o:=.lst xs.reverse) hk (by rw[aaB];exact Nat.le_succ _) ?_ (ZL I1.tk tl),U,q _ (I1.aD.fresh (by rw[aaB];exact Nat.le_succ _))];show#[by rw[List.length_reverse];exact hz,acc'.toList,c',?_,by simpa using e];rw[e2];simpa using rv.reverse
theorem PF{ys:!Str}:∀ {us:!AT},Vals (ys.map V.str) us->∃ l:!(Str×Tok),us=strValues l/\l.map (·.1)=ys/\∀ p∈l,p.2≠0:=by
 induction ys with
 | nil=>intro us r;rw[aa2] at r;cases r;exact#[[],rfl,rfl,λ_ h=>nomatch h]
 | cons n ns ih =>
  intro us r;rw[ZG] at r;cases r with
  | cons r1 r2 =>
   let(t,e):=r1;subst e;let(l,e1,e2,e3):=ih r2;subst e1;show#[(n,t.1)::l,U,by rw[ZG,e2],λp hp=>?_];rcases ZD.mp hp with z | z
   .rw[z];exact t.2
   .exact e3 p z
def rJoin(K:Frag):V->!V->Hp->VK->Prop:=λx vs H Q=>∃ (z:Str) (p:AC) (zs:!Str),x=.str z/\vs=[.ref p]/\dM K H p (zs.map V.str)/\(zs.map (·.length)).sum+zs.length * z.length<=16777216/\Q (.str (Txt.join z zs)) H
theorem Ge:FO X "str.join" (rJoin X.K):=by
 intro Tl s O H x vs v us Q I rx rv h;let(z,p,zs,rfl,rfl,hq,hz,q):=h;let(t,rfl):=rx;let(u,rfl,ru):=rv.one;cases ru;let(its,r,pl,_):=I.list hq;let(l,e1,e2,e3):=PF r;subst e1;subst e2;exact O1 I.tk e3 pl.isList (PyProof.Rows.joinOk_of hz) λt' k hk=>#[.str _,H,I.tok k hk,#[t',U],q]
def TL:V->Option Int->Option Int->Hp->VK->Prop:=λx lo hi H Q=>∃ z,x=.str z/\z.length<=FB/\Q (.str (Txt.slice z lo hi)) H
theorem BK:PX X TL:=by
 intro Tl s O H x v vl vu lo hi sl Q I rx hs pl pu h;let(z,rfl,hz,q):=h;let(t,rfl):=rx;show#["str",_,F.slot_str_getitem.lookup,typeIs_str _ _ _,?_];have fin:∀ (t':xg) k,0 < k->EP X Tl O Q (.str (Txt.slice z lo hi) t'.1) { s with toks:=k }:=λt' k hk=>#[.str _,H,I.tok k hk,#[t',U],q];cases pl with
 | none =>
  cases pu with
  | none=>exact wpAny_getItem_str_slice (l:=none) (u:=none) (st:=none) hs U (gA I.tk fin (MT.ite t.2 trivial) (post_val_or_str #[ZH (Txt.slice_le z _ _) hz,λt' k=>#[t',U]]))
  | int j uj=>exact wpAny_getItem_str_slice (l:=none) (u:=some (j,uj)) (st:=none) hs U (gA I.tk fin (MT.ite t.2 trivial) (post_val_or_str #[ZH (Txt.slice_le z _ _) hz,λt' k=>#[t',U]]))
 | int i ui =>
  cases pu with
  | none=>exact wpAny_getItem_str_slice (l:=some (i,ui)) (u:=none) (st:=none) hs U (gA I.tk fin (MT.ite t.2 trivial) (post_val_or_str #[ZH (Txt.slice_le z _ _) hz,λt' k=>#[t',U]]))
  | int j uj=>exact wpAny_getItem_str_slice (l:=some (i,ui)) (u:=some (j,uj)) (st:=none) hs U (gA I.tk fin (MT.ite t.2 trivial) (post_val_or_str #[ZH (Txt.slice_le z _ _) hz,λt' k=>#[t',U]]))
theorem o8:iA X (P3 .Mult) (λx y H Q=>∃ z n,x=.str z/\y=.int n/\MulOk z n/\Q (.str (Txt.mul z n)) H):=by
 intro Tl s O H x y v u Q I rx ry h;let(z,n,rfl,rfl,ok,q):=h;let(t,rfl):=rx;let(t',rfl):=ry;exact Uz t.2 I.tk ok λt' k hk=>#[.str _,H,I.tok k hk,#[t',U],q]
theorem rD:iA X (PP .LtE) (λx y H Q=>∃ i j,x=.str i/\y=.str j/\Q (.bl (not (decide (j.cps.toList < i.cps.toList)))) H):=by
 intro Tl s O H x y v u Q I rx ry h;let(i,j,rfl,rfl,q):=h;let(t,rfl):=rx;let(t',rfl):=ry;exact PySem.P.le_str #[.bl _,H,I,U,q]
def Ko(K:Frag)(te:TE):TE:=λO H Q=>te O H λx H1=>∃ a xs,x=.ref a/\dM K H1 a xs/\∀ l,H1 l=none->Q (.ref l) (upd H1 l (.lst xs.reverse))
theorem Ca{e st:Da}{te:TE}{p2 pos:Pos}(he:PE X e te)(jQ:PE X st (tC (.int (-1)))):PE X (.Subscript e (.Slice none none (some st) p2) pos) (Ko X.K te):=by
 intro Tl s O H Q I h;show Subscript_ (bQ (he Tl s O H _ I h) λv s1 #[x,H1,I1,r1,a,xs,ex,hq,q]=>?_);subst ex;cases r1;show wpAny_Slice ?_;rw[evalPart_none];show GM ?_;show GM ?_;rw[evalPart_some];show bQ (jQ Tl s1 O H1 (λx H'=>x=.int (-1)/\H'=H1) I1 #[U,U]) λu s2 #[x,H2,I2,r2,ex,eH]=>?_;subst ex eH;let(t,rfl):=r2;let(its,r,ht,hz):=I2.list hq;have hlen:=r.length;have I3:Inv X Tl O H2 { s2 with heap:=s2.heap.push { cls:=.type "slice",data:=.fields #v[.none,.none,.int (-1) t] } }:=I2.kept (t':=s2.toks) λb ob q=>Zz _ q;change EQ (model X.prog X.w) X.A (subscriptTail e (.Slice none none (some st) p2) (.ref a) (.ref ↑s2)) (EP X Tl O Q) X.xe { s2 with heap:=s2.heap.push { cls:=.type "slice",data:=.fields #v[.none,.none,.int (-1) t] } };show tail_any (ops:=[.ref a,.ref ↑s2]) (ht.isList.push _).typeIs slot_list_getitem.lookup ?_ (by with_unfolding_all rfl);show wpAny_getItem_list_slice (ht.isList.push _) (Ev.IsSliceOf.new ..) .none .none (.int (-1) t) () ?_ (by rw[ZV];cbv);rw[PySem.W.krv_pick];show#[.ref _,_,I3.laid (t':=s2.toks) (o:=.lst xs.reverse) (λb ob q=>Zz _ q) (ZC _) ?_,U,q _ (I3.aD.fresh (ZC _))];exact#[by rw[List.length_reverse];exact hz,_,0,by simpa using r.reverse,Ev.get?_push_size _ U]
end
theorem Ox{H:Hp}{a:AC}{o u:HO}:upd (upd H a o) a u=upd H a u:=G8
theorem sW{nt:Nat}{us:!Nat}{O:St}{te:TE}{z:Str}{H1:Hp}{Q:VK}(f:Nat->V)(hz:z.cps.size<=FB)(Ux:0 < nt)(he:∀ c∈z.cps.toList,∀ (H:Hp) (k:VK),k (f c) H->te ((lift nt us O).set 0 (some (.str #[#v[c]]))) H k)(hQ:∀ D,H1 D=none->Q (.ref D) (upd H1 D (.lst (z.cps.toList.map f)))):pN nt us O (dJ 0) BA te (T8 z) H1 Q:=by
 intro D hD;show#[λi m ys H2=>i<=z.cps.size/\m=z.cps.size - i/\ys=(z.cps.toList.take i).map f/\H2=upd H1 D (.lst ys),#[z.cps.size,Nat.zero_le _,by simp,by simp,U],?_];rintro i m ys H2 ⟨hi,rfl,rfl,rfl⟩;show#[aj,?_];by_cases lK:i < z.cps.size
 .refine .inr #[lK,?_,?_]
  .rw[Zy,aak,aa5];cbv
  .rintro x H3 ⟨rfl,c,hc,rfl⟩;show#[vR Ux,?_];change te _ _ _;have hc':z.cps.toList[i]?=some c:=by simpa using hc
   show he c (aaA hc') _ _ #[aj,z.cps.size - (i+1),by cbv,lK,U,?_,Ox];rw[aby,hc',ZO]
   rfl
 .have e:i=z.cps.size:=by cbv
  subst e;show .inl #[ZC _,?_];have:=hQ D hD;rw[List.take_of_length_le (by simp)];exact this
theorem jV{K:Frag}{nt:Nat}{us:!Nat}{O:St}{ti:TT}{te:TE}{a:AC}{xs:!V}{H1:Hp}{Q:VK}(p:V->Bool)(f:V->V)(hx:dM K H1 a xs)(hz:xs.length<=FB)(Ux:0 < nt)(hp:∀ x∈xs,∀ (H:Hp) (k:Bool->Hp->Prop),k (p x) H->ti ((lift nt us O).set 0 (some x)) H k)(he:∀ x∈xs,p x=true->∀ (H:Hp) (k:VK),k (f x) H->te ((lift nt us O).set 0 (some x)) H k)(hQ:∀ D,H1 D=none->Q (.ref D) (upd H1 D (.lst ((xs.filter p).map f)))):pN nt us O (dJ 0) ti te (Jn K a) H1 Q:=by
 intro D hD;have hS:∀ ys,dM K (upd H1 D (.lst ys)) a xs:=λys=>cQ.seq (λb o e=>by rw[ai (au e hD)];exact e) hx;show#[λi m ys H2=>i<=xs.length/\m=xs.length - i/\ys=((xs.take i).filter p).map f/\H2=upd H1 D (.lst ys),#[xs.length,Nat.zero_le _,by simp,by simp,U],?_];rintro i m ys H2 ⟨hi,rfl,rfl,rfl⟩;show#[aj,?_];by_cases lK:i < xs.length
 .refine .inr #[#[xs,xs[i],hS _,by simp[lK]],?_,?_]
  .rw[Zy];have h1:=List.length_filter_le p (xs.take i);rw[aak] at h1;cbv
  .rintro x H3 ⟨rfl,hy⟩;have hc':xs[i]?=some x:=hy xs (hS _);have hm:=aaA hc';show#[vR Ux,hp x hm _ _ ?_];cases e:p x with
   | true =>
    rw[if_pos U];show he x hm e _ _ #[aj,xs.length - (i+1),by cbv,lK,U,?_,Ox];rw[aby,hc',List.filter_append,ZO];simp[e]
   | false =>
    rw[if_neg ZP];show#[xs.length - (i+1),by cbv,lK,U,?_,U];rw[aby,hc',List.filter_append,ZO];simp[e]
 .have e:i=xs.length:=by cbv
  subst e;show .inl #[#[xs,hS _,ZC _],?_];have:=hQ D hD;rw[aaF (ZC _)];exact this
theorem cQ.upd{H:Hp}{a:AC}{o:HO}(h:H a=none):cQ H (upd H a o):=λb u e=>by rw[ai (au e h)];exact e
theorem cQ.NN{H H':Hp}{a:AC}{o:HO}(s:cQ H H')(h:H a=none):cQ H (L2.upd H' a o):=λb u e=>by rw[ai (au e h)];exact s b u e
section
variable{X:Cx}
theorem jB{j p pos}:PE X (.UnaryOp .USub (.Constant (.int 1) j p) pos) (tC (.int (-1))):=λTl s O H Q I h=>Iq Eu bg Tl s O H Q I #[1,U,h]
def mZ:!Da->!Str
 | []=>[]
 | .Constant (.str x) _ _::r=>x::mZ r
 | _=>[]
def iX:!Da->Bool
 | []=>true
 | .Constant (.str _) _ _::r=>iX r
 | _=>false
def Py(zs:!Str):TA:=λ_ H Q=>Q (zs.map V.str) H
theorem zx:∀ {es:!Da},iX es=true->PA X es (Py (mZ es))
 | [],h=>aM
 | e::r,h=>by
  cases e with
  | Constant c j pos =>
   cases c with
   | str x=>exact ax bP (zx (es:=r) h)
   | _=>cases h
  | _=>cases h
def fA:Fk->!Da
 | .Assign _ (.List es _) _=>es
 | .Assign _ (.BinOp _ _ (.List es _) _) _=>es
 | _=>[]
def rep1:Fk->!Da->Fk
 | .Assign t (.List _ p) q,es=>.Assign t (.List es p) q
 | .Assign t (.BinOp a o (.List _ p) r) q,es=>.Assign t (.BinOp a o (.List es p) r) q
 | s,_=>s
def fu:Fk:=.Pass #[0,0,0,0]
def uY(b:!Fk)(i:Nat)(es:!Da):!Fk:=b.set i (rep1 (b.getD i fu) es)
end
end L2
namespace PySem
open Sem (wp)
section
variable{prog:Fr}{w:Fa}{A:GE}{E:abK}{h:Ev}{g:Array GenState}{d:Drawn}{t:Nat}{os:OsState}
variable{nm q:Str}{C N:AC}{bs bm L9:!AT}{O2:Bool}{sn:!Str}{sub:!AT}{ab:Bool}{col:Option Bool}{dd:Option AC}{k0 k1 k2 k3 k5:Option AT}{B Bn newId WM DU Vu:String}{WZ:!AT}
abbrev fI(h:Ev)(C:AC)(rest:!AT):Ev:=(h.push { cls:=.type "tuple",data:=.seq rest.toArray }).push { cls:=.ref C,data:=.fields #v[.ref h.objs.size,.none,.none,.none,.bool false,.none] }
theorem lH(Fn:ExcBaseFacts Bn newId Vu WZ)(QW:L9.contains (.type Bn)=true)(F:ExcBaseFacts B WM DU L9)(T:OwnTail h L9 bm){rest:!AT}{f:AC}{Q:Fin->Ch->Prop}(hC:h.get? C=some (excClassObj nm q C N bs bm O2 sn sub ab col dd k0 k1 k2 k3 k5 newId))(hl:Looks (model prog w) h (typeLookup (.ref C) "__init__") (some (.ref f)))(hb:∀ self,Looks (model prog w) h (bindSpecial (.ref f) self) (.ref f,[self]))(hq:codeAny (model prog w) A (.call (.ref f) #[.ref (h.objs.size+1)::rest,[]]) (λr s'=>match r with
   | .ok (.ret v)=>v=.none/\Q (.done (.ret (.ref (h.objs.size+1)))) s'
   | .ok _=>False
   | .error e=>E e s') #[fI h C rest,g,d,t,os])(hrest:rest.length<=FB:=by size_fits) :
  EQ (model prog w) A (GT.«type.__call__» #[.ref C::rest,[]]) Q E #[h,g,d,t,os]:=by
 repeat (first | with_reducible show wpAny_loadPart_at hC ?_ | with_reducible show wpAny_madeBy_exc hC ?_ | wp_step)
 show codeAny_call_builtin_code (Code.quiet_builtin _ Fn.quiet) (wpAny_check_new_subU Fn QW T hC ?_);show codeAny_exc_new_subU Fn QW F T hC ?_ hrest;change EQ _ _ _ _ _ _;have kk:∀ b o,h.get? b=some o->(fI h C rest).get? b=some o:=λb o e=>Zz _ (Zz _ e);have hC₁:=kk _ _ hC;have hget:(fI h C rest).get? (h.objs.size+1)=some { cls:=.ref C,data:=.fields #v[.ref h.objs.size,.none,.none,.none,.bool false,.none] }:=by heap_get
 have hcC:(AT.ref C::bm).contains (.ref C)=true:=by simp
 have T₁:=T.keeps (h':=fI h C rest) kk;have b1:=(hb (.ref (h.objs.size+1))).keeps kk;unfold isInstance
 repeat (first | with_reducible show wpAny_loadPart_at hget ?_ | (with_reducible show wpAny_isSubtype_exc hC₁ ?_;rw[hcC]) | wp_step)
 change EQ _ _ (typeLookup (.ref C) _) _ _ _;show (hl.keeps kk).at ?_;show Rs (Db (b1.at ?_));show Db (wpAny_call (codeAny_mono hq λr s' z=>?_));cases r with
 | error e=>exact z
 | ok fl =>
  cases fl with
  | ret v =>
   let(rfl,z):=z;exact GM (GM z)
  | next=>exact z.elim
  | brk=>exact z.elim
  | cont=>exact z.elim
theorem t5(Fn:ExcBaseFacts Bn newId Vu WZ)(QW:L9.contains (.type Bn)=true)(F:ExcBaseFacts B WM DU L9)(T:OwnTail h L9 bm){rest:!AT}{f:AC}{Q:abK}(hC:h.get? C=some (excClassObj nm q C N bs bm O2 sn sub ab col dd k0 k1 k2 k3 k5 newId))(hl:Looks (model prog w) h (typeLookup (.ref C) "__init__") (some (.ref f)))(hb:∀ self,Looks (model prog w) h (bindSpecial (.ref f) self) (.ref f,[self]))(hq:codeAny (model prog w) (A.under (.builtin "type.__call__" #[.ref C::rest,[]])) (.call (.ref f) #[.ref (h.objs.size+1)::rest,[]]) (λr s'=>match r with
   | .ok (.ret v)=>v=.none/\Q (.ref (h.objs.size+1)) s'
   | .ok _=>False
   | .error e=>E e s') #[fI h C rest,g,d,t,os])(hrest:rest.length<=FB:=by size_fits) :
  EQ (model prog w) A (call (.ref C) rest) Q E #[h,g,d,t,os]:=by
 have f1:=tc_lookup;have f2:=tc_bind (.ref C);have hT:(#[h,g,d,t,os]:Ch).TypeIs (.ref C) "type":=#[_,hC,U];show wpAny_call (codeAny_of_tree ?_);change EQ _ _ (callAny (.ref C) _) _ _ _
 repeat (any_goals (first | assumption | with_reducible show wpAny_loadPart_at hC ?_ | wp_step))
 show#[U,?_];show codeAny_call_builtin_at (Code.quiet_builtin _ (-())) entry_typeCall (wpAny_check_type_call_sub hC (lH (hrest:=hrest) Fn QW F T hC hl hb (codeAny_mono hq λr s' z=>?_)));cases r with
 | error e=>exact z
 | ok fl =>
  cases fl with
  | ret v=>exact z
  | next=>exact z.elim
  | brk=>exact z.elim
  | cont=>exact z.elim
end
section
variable{M:Model}{A:GE}{E:abK}{s:Ch}
structure eK(fs ch:!AC)(h h':Ev):Prop where
 keep:∀ b o,b∉fs->b∉ch->h.get? b=some o->h'.get? b=some o
 slot:∀ b o,b∈fs->h.get? b=some o->∃ sl,h'.get? b=some { o with slots:=sl }
def kT(h:Ev)(T:AC)(fl:AT):Prop:=∃ oT ts,h.get? T=some oT/\oT.data=.fields ts/\ts[3]?=some fl
theorem mM{base:Ev}{env:Env}{outer:!Env}{L e:AC}{oe:Obj}{vs:Array AT}{head:AT}{FA:Bool}{Q:Unit->Ch->Prop}(nh:A.frames=some (env::outer))(hl:s.heap.FunFrames base (env::outer))(hf:env.frame=some L)(he:s.heap.get? e=some oe)(hd:oe.data=.fields vs)(hsz:1 < vs.size)(h:∀ h' T,eK ((env::outer).filterMap (·.frame)) [e] s.heap h'->h'.get? e=some (Obj.mapFields (·.setIfInBounds 1 (.ref T)) oe)->↑s<=T->kT h' T (NE L)->h'.FunFrames base (env::outer)->Q Unit.unit { s with heap:=h' }) :
  EQ M A (do let a <- frameOf env;let pl <- entryPlaceOf L FA;let b <- EntryCells.newEntry head a .none (NE L) .none pl;setField (.ref e) 1 b) Q E s:=by
 have hene:e∉(env::outer).filterMap (·.frame):=λhm=>by
  let(_,o,ho,hnf):=hl.mem hm;rw[he] at ho;injection ho with ho;subst ho;exact hnf vs hd
 show Db (wpAny_frameOf_fun nh hl hf λh₁ hs₁=>?_);show Db (wpAny_entryPlaceOf λpl dI=>?_);unfold EntryCells.newEntry newFields;show Db (TD ?_ (dI.sizeOk5 _ _ _ _ _));have he₁:h₁.get? e=some oe:=(hs₁.2.1 e hene).trans he;have he₂:=Zz (h:=h₁) { cls:=.type "traceback",dict:=none,data:=.fields ([head,.ref L,.none,NE L,.none]++(if pl.isEmpty then List.replicate 6 AT.none else pl)).toArray } he₁;show wpAny_setField he₂ hd hsz (h _ h₁.objs.size ?_ ?_ ?_ ?_ ?_)
 .refine#[λb o h1 h2 eb=>?_,λb o hb eb=>?_]
  .have hbe:b≠e:=by simpa using h2
   rw[ZY _ _ (Ne.symm hbe)];exact Zz _ ((hs₁.2.1 b h1).trans eb)
  .have hbe:b≠e:=λq=>hene (q▸hb);let(sl,hs):=hs₁.2.2 b o eb;exact#[sl,by rw[ZY _ _ (Ne.symm hbe)];exact Zz _ hs]
 .exact aau _ he₂ (Obj.isFreed_of_fields (Obj.data_mapFields hd _))
 .exact Nat.le_of_eq hs₁.1.symm
 .have Gb:h₁.objs.size≠e:=aah (ZK he₁);show#[_,_,(ZY _ _ (Ne.symm Gb)).trans (ZS h₁ U),U,?_]
  first | (simp;done) | (rcases dI with rfl | ⟨_,_,_,_,_,_,_,rfl⟩<;>simp)
 .refine hl.of_keeps λb o hb hnf=>?_;have hbe:b≠e:=λq=>by
   rw[q,he] at hb;injection hb with hb;subst hb;exact hnf vs hd
  let(sl,hs):=hs₁.2.2 b o hb;exact#[{ o with slots:=sl },by rw[ZY _ _ (Ne.symm hbe)];exact Zz _ hs,U]
theorem Aj{base:Ev}{env:Env}{outer:!Env}{L e:AC}{oe:Obj}{vs:Array AT}{Q:Unit->Ch->Prop}(nh:A.frames=some (env::outer))(hl:s.heap.FunFrames base (env::outer))(hf:env.frame=some L)(he:s.heap.get? e=some oe)(hd:oe.data=.fields vs)(h1:vs[1]?=some .none)(h:∀ h' T,eK ((env::outer).filterMap (·.frame)) [e] s.heap h'->h'.get? e=some (Obj.mapFields (·.setIfInBounds 1 (.ref T)) oe)->↑s<=T->kT h' T (NE L)->h'.FunFrames base (env::outer)->Q Unit.unit { s with heap:=h' }) :
  EQ M A (noteFrame (.ref e) env) Q E s:=by
 unfold noteFrame;simp only[hf];show Db (Os he hd h1 ?_);rw[if_neg ()];exact mM nh hl hf he hd (Z9.mp h1).1 h
theorem Eh{base:Ev}{env:Env}{outer:!Env}{L e T0:AC}{oe:Obj}{vs:Array AT}{Q:Unit->Ch->Prop}(nh:A.frames=some (env::outer))(hl:s.heap.FunFrames base (env::outer))(hf:env.frame=some L)(he:s.heap.get? e=some oe)(hd:oe.data=.fields vs)(h1:vs[1]?=some (.ref T0))(Gb:T0≠e)(ht:kT s.heap T0 .none)(h:∀ h' T,eK ((env::outer).filterMap (·.frame)) [e,T0] s.heap h'->h'.get? e=some (Obj.mapFields (·.setIfInBounds 1 (.ref T)) oe)->↑s<=T->kT h' T (NE L)->h'.FunFrames base (env::outer)->Q Unit.unit { s with heap:=h' }) :
  EQ M A (noteFrame (.ref e) env) Q E s:=by
 let(oT,ts,hT,hdT,h3):=ht;unfold noteFrame;simp only[hf];show Db (Os he hd h1 ?_);rw[if_pos (show (AT.ref T0 != AT.none)=true from by simp)];show Db (Os hT hdT h3 ?_);rw[if_neg (show ¬ ((AT.none == NE L)=true) from by simp[NE])];show Db (wpAny_setField hT hdT (Z9.mp h3).1 ?_);have other:∀ b,b≠T0->(s.heap.update T0 (Obj.mapFields (·.setIfInBounds 3 AT.none))).get? b=s.heap.get? b:=λb hb=>ZY _ _ (Ne.symm hb);have noRecord:∀ b o,s.heap.get? b=some o->(∀ vs,o.data≠.fields vs)->b≠T0:=λb o hb hnf q=>by
  rw[q,hT] at hb;injection hb with hb;subst hb;exact hnf ts hdT
 have nfr:T0∉(env::outer).filterMap (·.frame):=λhm=>by
  let(_,o,ho,hnf):=hl.mem hm;rw[hT] at ho;injection ho with ho;subst ho;exact hnf ts hdT
 show mM nh (hl.of_keeps λb o hb hnf=>#[o,(other b (noRecord b o hb hnf)).trans hb,U]) hf ((other e (Ne.symm Gb)).trans he) hd (Z9.mp h1).1
  λh' T k1 k2 k3 k4 k5=>h h' T #[λb o hb hc eb=>?_,λb o hb eb=>?_] k2 ?_ k4 k5
 .have n1:b≠e:=λq=>hc (by simp[q]);have n2:b≠T0:=λq=>hc (by simp[q]);exact k1.keep b o hb (by simpa using n1) ((other b n2).trans eb)
 .exact k1.slot b o hb ((other b λq=>nfr (q▸hb)).trans eb)
 .exact ZH (Nat.le_of_eq (Ev.size_after_update ..).symm) k3
theorem mz{e T:AC}{oe:Obj}{vs:Array AT}{fl:AT}{fs:!AC}{Q:Unit->Ch->Prop}(he:s.heap.get? e=some oe)(hd:oe.data=.fields vs)(h1:vs[1]?=some (.ref T))(ht:kT s.heap T fl)(Zm:T∉fs)(h:∀ h',eK fs [T] s.heap h'->(∀ b o,b≠T->s.heap.get? b=some o->h'.get? b=some o)->kT h' T .none->Q Unit.unit { s with heap:=h' }):EQ M A (setFlight (.ref e) none) Q E s:=by
 let(oT,ts,hT,hdT,h3):=ht;have hsz3:3 < ts.size:=(Z9.mp h3).1;have other:∀ b o,b≠T->s.heap.get? b=some o->(s.heap.update T (Obj.mapFields (·.setIfInBounds 3 ((none:Option AC).elim AT.none λf=>NE f)))).get? b=some o :=
  λb o hb e=>(ZY _ _ (Ne.symm hb)).trans e
 unfold setFlight;show Db (Os he hd h1 ?_);rw[if_pos (show (AT.ref T != AT.none)=true from by simp)];show wpAny_setField hT hdT hsz3 (h _ #[λb o _ hc e=>other b o (by simpa using hc) e,λb o hb e=>#[o.slots,other b o (λq=>Zm (q▸hb)) e]] other ?_);exact#[_,_,Ev.get?_update_self _ hT (Obj.isFreed_of_fields (Obj.data_mapFields hdT _)),Obj.data_mapFields hdT _,by simp[hsz3]]
end
end PySem
namespace L2
open PySem PySem.Spec PyProof.Rows
abbrev jA:!AT:=[.type "ValueError",.type "Exception",.type "BaseException",.type "object"]
def xo(ea C:AC)(dd:Option AC)(fresh:Bool):HO:=.ext λh=>∃ vs:Array AT,h.get? ea=some { cls:=.ref C,dict:=dd,data:=.fields vs }/\vs.size=6/\(fresh=true->vs[1]?=some .none)
def xf(d:AC)(fs:!(Str×V)):HO:=.ext λh=>fs.length<=1000/\∃ mA,h.Ns1 d mA/\(∀ f,iH (fs.lookup f) (mA f))/\PySem.Within mA (fs.map (·.1))
section
variable{P:Fr}{w:Fa}{H:Hp}{h:Ev}{ea C d:AC}{dd:Option AC}{fr:Bool}{fs:!(Str×V)}
theorem zO{vs:Array AT}(e:h.get? ea=some { cls:=.ref C,dict:=dd,data:=.fields vs })(z:vs.size=6)(f:fr=true->vs[1]?=some .none):cy P w H h ea (xo ea C dd fr) :=
 #[#[vs,e,z,f],#[_,e],λ_ _ #[vs,e,r] k=>#[vs,k _ e,r]]
theorem kx(aD:jY P w H h)(e:H ea=some (xo ea C dd fr)):∃ vs:Array AT,h.get? ea=some { cls:=.ref C,dict:=dd,data:=.fields vs }/\vs.size=6/\(fr=true->vs[1]?=some .none) :=
 (show cy P w H h ea (xo ea C dd fr) from aD ea _ e).1
theorem CM{mA:Str->Option AT}(n:h.Ns1 d mA)(r:∀ f,iH (fs.lookup f) (mA f))(wi:PySem.Within mA (fs.map (·.1)))(hl:fs.length<=1000):cy P w H h d (xf d fs) :=
 #[#[hl,mA,n,r,wi],let #[o,_,_,e,_]:=n;#[o,e],λ_ _ #[hl,mA,n,r] k=>#[hl,mA,n.at k,r]]
theorem xC(aD:jY P w H h)(e:H d=some (xf d fs)):fs.length<=1000/\∃ mA,h.Ns1 d mA/\(∀ f,iH (fs.lookup f) (mA f))/\PySem.Within mA (fs.map (·.1)) :=
 (show cy P w H h d (xf d fs) from aD d _ e).1
theorem CP(e:H ea=some (xo ea C dd fr)):KO (H ea):=by rw[e];exact True.intro
theorem CK(e:H d=some (xf d fs)):KO (H d):=by rw[e];exact True.intro
end
def Kb(es:Array SL):Bool:=es.toList.all λe=>match e.key with | .str _ _=>true | _=>false
theorem Ax{es:Array SL}(h:Kb es=true):StrKeys es:=λe he=>by
 have q:=ZW.mp h e (abH.mpr he);cases k:e.key with
 | str z t=>exact#[z,t,U]
 | _=>rw[k] at q;cases q
structure ExC(K:Frag)(C:AC):Prop where
 cls:∃ (nm q:Str) (N S:AC) (bs:!AT) (sn:!Str) (sub:!AT) (ab:Bool) (col:Option Bool) (dd:Option AC) (k0 k1 k2 k3 k5:Option AT) (cS:AT) (dS:Option AC) (IJ:ClassData) (QC:Array (Option AT))
  (cN:AT) (dN:Option AC) (es:Array SL) (ep:Nat) (QJ:Array (Option AT)),K.lookup C=some (excClassObj nm q C N bs (.ref S::jA) true sn sub ab col dd k0 k1 k2 k3 k5 "ValueError.__new__") /\
  K.lookup S=some #[cS,dS,.cls IJ,QC]/\K.lookup IJ.ns=some #[cN,dN,.dict es ep,QJ]/\Kb es=true/\nsFind es "__init__"=none
 sa:findIn K (.ref C) "__setattr__"=some (some (.builtin "object.__setattr__"))
 ga:findIn K (.ref C) "__getattribute__"=some (some (.builtin "BaseException.__getattribute__"))
 gt:findIn K (.ref C) "__getattr__"=some none
structure Nv(K:Frag)(C f:AC):Prop extends ExC K C where
 X0:findIn K (.ref C) "__init__"=some (some (.ref f))
 fn:typeIn K (.ref f)=some (.type "function")
 kp:keepIn K (.ref C)=true
structure Hu(K:Frag)(C:AC)(f:Str):Prop where
 no:findIn K (.ref C) f=some none
theorem ExC.at{K:Frag}{C:AC}{h:Ev}(c:ExC K C)(X:K.In h):∃ (nm q:Str) (N S:AC) (bs:!AT) (sn:!Str) (sub:!AT) (ab:Bool) (col:Option Bool) (dd:Option AC) (k0 k1 k2 k3 k5:Option AT),
  h.get? C=some (excClassObj nm q C N bs (.ref S::jA) true sn sub ab col dd k0 k1 k2 k3 k5 "ValueError.__new__")/\OwnTail h jA (.ref S::jA) /\
  PySem.W.clsIn K C=some { name:=nm,bases:=bs,mro:=.ref C::.ref S::jA,ns:=N,qualname:=q,hasDict:=true,slotNames:=sn,subclasses:=sub,abstract:=ab,collection:=col,hasDel:=false }:=by
 let(nm,q,N,S,bs,sn,sub,ab,col,dd,k0,k1,k2,k3,k5,cS,dS,IJ,QC,cN,dN,es,ep,QJ,h1,h2,h3,h4,h5):=c.cls;show#[nm,q,N,S,bs,sn,sub,ab,col,dd,k0,k1,k2,k3,k5,X _ _ h1,.own (X _ _ h2) #[_,es,ep,X _ _ h3,U,Ax h4,λ_=>rfl] h5 .base,?_];unfold PySem.W.clsIn;rw[h1]
def Jv(C:AC)(sp:Sp)(t:TA):TE:=λO H Q=>t O H λvs H1=>vs.length<=1000/\∀ x,H1 x=none->sp (.ref x::vs) (upd H1 x (xo x C none true)) (λv H2=>v=.bX/\Q (.ref x) H2) E0
section
variable{X:Cx}{Tl:abL}{O:St}{H:Hp}{s:Ch}{C f:AC}{k:Nat}{fd:IR}{ps:!Str}{sp:Sp}{x:Str}{p pos:Pos}{e:Da}{es:!Da}{t:TA}
theorem Bj{Q:VK}{us:!AT}{vs:!V}(M:Nv X.K C f)(F:br X.prog X.w X.K X.mg X.base aV k f fd ps sp)(hr:bF (k+1) X.A)(hb:Binds X.K fd ps [])(I:Inv X Tl O H s)(r:Vals vs us)(hz:vs.length<=1000)(h:∀ x,H x=none->sp (.ref x::vs) (upd H x (xo x C none true)) (λv H2=>v=.bX/\Q (.ref x) H2) E0) :
  EQ (model X.prog X.w) X.A (call (.ref C) us) (EP X Tl O Q) X.xe s:=by
 let(nm,q,N,S,bs,sn,sub,ab,col,dd,k0,k1,k2,k3,k5,hC,T,hcl):=M.toExC.at I.iW;have hq:=h (↑s+1) (I.aD.fresh (Nat.le_succ _));have kk:∀ b o,s.heap.get? b=some o->(fI s.heap C us).get? b=some o:=λb o e=>Zz _ (Zz _ e);have hget:(fI s.heap C us).get? (↑s+1)=some { cls:=.ref C,data:=.fields #v[.ref ↑s,.none,.none,.none,.bool false,.none] }:=by heap_get
 have I2:Inv X Tl O (upd H (↑s+1) (xo (↑s+1) C none true)) { s with heap:=fI s.heap C us } :=
  I.laid (a:=↑s+1) (t':=s.toks) kk (Nat.le_succ _) (zO hget U λ_=>rfl)
 have r2:Vals (V.ref (↑s+1)::vs) (AT.ref (↑s+1)::us):=.cons U r;have hl:(AT.ref (↑s+1)::us++[]).length=ps.length:=by
  have e:=r2.length;rw[F.len _ _ _ _ hq] at e;rw[ZM];exact e.symm
 have hus:us.length<=FB:=by rw[<- r.length];exact abp (me hz)
 have KH:=hb { s with heap:=fI s.heap C us } (AT.ref (↑s+1)::us) I2.iW hl;rw[ZM] at KH;let(hh,g,d,t,os):=s;show PySem.t5 (hrest:=hus) abh () abh T hC (abd I.iW M.X0) (λself=>PySem.W.bind_fn I.iW self M.fn) ?_;show sG <| codeAny_mono (F.run _ X.stack _ _ #[AT.ref (hh.objs.size+1)::us,[]] (AT.ref (hh.objs.size+1)::us) _ _ E0 (hr.make C us []) (I2.KC.make C us []) KH r2 hq) λr s' hq' tl=>?_
 cases r with
 | error e=>exact False.elim hq'
 | ok fl =>
  cases fl with
  | ret u =>
   let(v,H',I3,rv,ev,q3):=I2.after hq' tl;subst ev;exact#[rv,#[V.ref (hh.objs.size+1),H',I3,U,q3]]
  | next=>exact False.elim hq'
  | brk=>exact False.elim hq'
  | cont=>exact False.elim hq'
theorem C9(M:Nv X.K C f)(F:br X.prog X.w X.K X.mg X.base aV k f fd ps sp)(hr:bF (k+1) X.A)(hg:Gl X x)(hm:X.mg x=some (.ref C))(hb:Binds X.K fd ps [])(ha:PA X (e::es) t)(fM: ~~~(abP x))(he:(abN X.env e es)⁻¹)(dI:(abO X.env pos es)⁻¹) :
  PE X (.Call (.Name x p) (e::es) [] pos) (Jv C sp t):=by
 intro Tl s O H Q I h;show wpAny_Call_Name_kw (jD I hg hm ?_ fM);show abq (h₀:=X.base) I.ok.mod.Mb M.kp (bQ (ha pos Tl s O H _ I h) λus s1 #[vs,H1,I1,r,z,q]=>#[I1.iW,?_]) he dI;exact Bj M F hr hb I1 r z q
end
section
variable{X:Cx}{Tl:abL}{O:St}{H:Hp}{s:Ch}{ea C d:AC}{dd:Option AC}{fr:Bool}{fs:!(Str×V)}{f:Str}{v:V}{A:GE}{E:abK}
theorem Hm{us:!AT}{Q:abK}(I:Inv X Tl O H s)(e:H ea=some (xo ea C dd fr))(c:ExC X.K C)(hz:us.length<=1000)(h:∀ s',Inv X Tl O H s'->Q .none s') :
  EQ (model X.prog X.w) A (call (.builtin "ValueError.__init__") (.ref ea::us)) Q E s:=by
 let(nm,q,N,S,bs,sn,sub,ab,col,dd',k0,k1,k2,k3,k5,hC,T,hcl):=c.at I.iW;let(vs,he,h6,hf):=kx I.aD e;have hus:us.length<=FB:=abp (me hz);let(hh,g,d,t,os):=s;show wpAny_call (codeAny_call_builtin PySem.F.excBase_ValueError.init.plain PySem.F.excBase_ValueError.initEntry (wpAny_check_init_subU abh T hC he U ?_));unfold GT.«BaseException.__init__»;have ne:ea≠hh.objs.size:=ZT (ZK he);have Nd:(hh.push { cls:=.type "tuple",data:=.seq us.toArray }).get? ea=some { cls:=.ref C,dict:=dd,data:=.fields vs }:=Zz _ he;obtain⟨x0,hx0⟩:∃ x0,vs[0]?=some x0:=#[vs[0]'(by cbv),by simp[h6]];have fin:∀ t',0 < t'->Inv X Tl O H #[(hh.push { cls:=.type "tuple",data:=.seq us.toArray }).update ea (Obj.mapFields (·.setIfInBounds 0 (.ref hh.objs.size))),g,d,t',os]:=λt' ht=>by
  have hu:=aau (Obj.mapFields (·.setIfInBounds 0 (.ref hh.objs.size))) Nd (Obj.isFreed_of_fields (Obj.data_mapFields U _));have ke:upd H ea (xo ea C dd fr)=H:=by funext b;by_cases hb:b=ea<;>simp[upd,hb,e]
  have J:=I.write (x:=ea) (e:=ea) (o:=xo ea C dd fr) (t':=t') (h':=(hh.push { cls:=.type "tuple",data:=.seq us.toArray }).update ea (Obj.mapFields (·.setIfInBounds 0 (.ref hh.objs.size)))) (CP e) (.inl U)
   (λb u hb q=>(Ev.get?_update_other _ _ (Ne.symm hb)).trans (Ev.get?_push_of_some _ q)) #[_,hu] (zO hu (by simp[h6]) (λz=>by rw[Array.getElem?_setIfInBounds_ne ()];exact hf z))
  rw[ke] at J;exact J
 show Db (wpAny_newTuple ?_);unfold GT.BaseException.bexcPut;show Db (Db (Os Nd U hx0 (Db (wpAny_setField Nd U (by cbv) ?_))));cases x0<;>first
  | exact GM (GM (h _ (fin _ I.tk)))
  | exact wpAny_letGo (GM (h _ (fin _ I.tk)))
structure IL(K:Frag)(S:AC):Prop where
 sp:specialIn K (.ref S) "__getattribute__"=some (some (.builtin "type.__getattribute__"))
 rd:PySem.W.readsIn K S (.type "type")=true
 fd:PySem.W.findCls K (.ref S) (.type "type") "__init__"=some (.val (.builtin "ValueError.__init__"))
theorem sD:PySem.W.handedIn (.builtin "ValueError.__init__")=true:=by decide+kernel
def Kn(K:Frag)(t:TA):TE:=λO H Q=>t O H λvs H1=>∃ ea rest C dd fr,vs=.ref ea::rest/\H1 ea=some (xo ea C dd fr)/\ExC K C/\rest.length<=1000/\Q .bX H1
theorem Di{S:AC}{x:Str}{p apos pos:Pos}{e:Da}{es:!Da}{t:TA}{pl:Sem Bool}(B:IL X.K S)(hg:Gl X x)(hm:X.mg x=some (.ref S))(ha:PA X (e::es) t)(fM: ~~~(abP x))(he:(abN X.env e es)⁻¹)(dI:(abO X.env pos es)⁻¹)(ht:(eval (.Call (.Attribute (.Name x p) "__init__" apos) (e::es) [] pos) X.env=(do
   let ov <- eval (.Name x p) X.env
   standAt apos.atName
   let (f,first) <- holding [ov] (getMethod ov "__init__" pl)
   callWith pos f first (KB pos (Go (e::es) X.env)) (ST pos (SZ [] X.env))))⁻¹) :
  PE X (.Call (.Attribute (.Name x p) "__init__" apos) (e::es) [] pos) (Kn X.K t):=by
 intro Tl s O H Q I h;show PySem.W.methodCall_KW (pl:=pl) (jD I hg hm ?_ fM) ht;show PySem.W.method_cls I.iW B.sp (PySem.W.cls_value (mc:=.type "type") I.iW B.rd B.fd sD ?_);have I0:=I.tok (s.toks+1);change EQ _ _ (callWith pos (.builtin "ValueError.__init__") [] (KB pos (Go (e::es) X.env)) []) _ _ _;show PyProof.Rows.callWith_builtin1 (bQ (ha pos Tl _ O H _ I0 h) λus s1 #[vs,H1,I1,r,ea,rest,C,dd,fr,ev,eo,c,z,q]=>?_) he dI;subst ev;cases r with
 | @cons _ u _ us' ru rr =>
  obtain rfl:u=AT.ref ea:=ru;exact Hm I1 eo c (by rw[<- rr.length];exact z) λs' I'=>#[.bX,H1,I',U,q]
theorem yc(self:AT)(C S:AC):refuseLoop self "__setattr__" (.ref C::.ref S::jA)=pure Unit.unit:=by
 rw[refuseLoop_ref,refuseLoop_ref]
 kernel_rfl
theorem zS{prog:Fr}{w:Fa}{K:Frag}{x:AC}{ox:Obj}{od:Option Obj}{name:Str}{tk:Tok}{u:AT}{R:Result->Ch->Prop}(X:K.In s.heap)(I:InstAt s.heap x ox C od)(c:ExC K C)(n:Hu K C name)(h:∀ b,EQ (model prog w) A.in1 (GT.ObjectAttr.storeInOwnDict (.ref x) (.ref C) (.str name tk) name u b)
   (λfin s'=>match fin with | .done f=>R (.ok f) s' | .again c'=>c'.quiet=true/\codeAny (model prog w) A c' R s') (λe s'=>R (.error e) s') s) :
  codeAny (model prog w) A (.call (.builtin "object.__setattr__") #[[.ref x,.str name tk,u],[]]) R s:=by
 have SF:=PySem.F.store_object;let(nm,q,N,S,bs,sn,sub,ab,col,dd',k0,k1,k2,k3,k5,hC,T,hcl):=c.at X;have sb:Looks (model prog w) s.heap (isInstance (.ref x) (.type "object")) true:=I.type.andThen (PySem.W.looks_mroIn X (by unfold PySem.W.mroIn;rw[hcl,Option.bind_some];rfl));show codeAny_call_builtin SF.slot.plain SF.entry (@PySem.W.check_slot (model prog w) _ _ s "object.__setattr__" "object" "__setattr__" (.ref x) [.str name tk,u] [] _ SF.kind SF.split sb (SF.args (.ref x) (.str name tk) u) ?_);have hm:Looks (model prog w) s.heap (mroOf (.ref C)) (.ref C::.ref S::jA):=(PySem.W.looks_clsIn X hcl).andThen .now;rw[PySem.W.osa_eq,refuse_eq];show Db (Db (I.type.here (Db (hm.here ?_))));rw[yc];show GM (Db (I.type.here (Db ((abd X n.no).here (Db (GM ?_))))));exact h _
theorem Qd{y:V}{u:AT}{Q:Unit->Ch->Prop}(I:Inv X Tl O H s)(e:H ea=some (xo ea C none fr))(c:ExC X.K C)(n:Hu X.K C f)(ry:RelV y u)(h:∀ d s',H d=none->d≠ea->Inv X Tl O (upd (upd H ea (xo ea C (some d) fr)) d (xf d [(f,y)])) s'->Q Unit.unit s'):EQ (model X.prog X.w) A (setAttr (.ref ea) f u) Q E s:=by
 let(nm,q,N,S,bs,sn,sub,ab,col,dd',k0,k1,k2,k3,k5,hC,T,hcl):=c.at I.iW;let(vs,he,h6,hf):=kx I.aD e;have J:InstAt s.heap ea { cls:=.ref C,dict:=none,data:=.fields vs } C none:=#[he,U,U,True.intro];show PySem.W.set_plain I.iW J c.sa (zS (s:={ s with toks:=s.toks+1 }) I.iW J c n λb=>?_);show Db (GM (Db (Db (wpAny_loadPart he (Db (Looks.here (s:={ s with toks:=s.toks+1 }) (PySem.W.looks_clsIn I.iW hcl) ?_))))));have hxs:ea≠↑s:=ZT (ZK he);have hx₁:(s.heap.push { cls:=.type "dict",data:=.dict #v[] }).get? ea=some { cls:=.ref C,dict:=none,data:=.fields vs }:=Zz _ he;rw[if_neg (show ¬ ((not true)=true) from by decide)];dsimp only;rw[if_neg (by simp[typeHasDict])];show Db (wpAny_alloc' ?_);show Db (wpAny_update' hx₁ ?_);show GM ?_;have hu:((s.heap.push { cls:=.type "dict",data:=.dict #v[] }).update ea λo=>{ cls:=o.cls,dict:=some ↑s,data:=o.data,slots:=o.slots }).get? ea=some { cls:=.ref C,dict:=some ↑s,data:=.fields vs } :=
  aau _ hx₁ U
 have hgd:((s.heap.push { cls:=.type "dict",data:=.dict #v[] }).update ea λo=>{ cls:=o.cls,dict:=some ↑s,data:=o.data,slots:=o.slots }).get? ↑s=some { cls:=.type "dict",data:=.dict #v[] } :=
  (ZY _ _ hxs).trans (Ev.get?_push_at U U)
 have hJ:((s.heap.push { cls:=.type "dict",data:=.dict #v[] }).update ea λo=>{ cls:=o.cls,dict:=some ↑s,data:=o.data,slots:=o.slots }).Ns ↑s (λ_=>none) :=
  #[_,#v[],_,hgd,U,λe he=>absurd he (by simp),λ_=>rfl]
 have k1:∀ b o,b≠ea->s.heap.get? b=some o->((s.heap.push { cls:=.type "dict",data:=.dict #v[] }).update ea λo=>{ cls:=o.cls,dict:=some ↑s,data:=o.data,slots:=o.slots }).get? b=some o :=
  λb o hb z=>(ZY _ _ (Ne.symm hb)).trans (Zz _ z)
 change EQ _ _ (GT.ObjectAttr.storeInDict ↑s (.str f s.toks) f u) _ _ _;unfold GT.ObjectAttr.storeInDict GT.ObjectAttr.newKeyGuard;show Db (GM (Db (wpAny_nsSet1 (Ev.Ns1.of_empty hJ) λh' hn' hs=>?_)));let(oD,esD,epD,hoD,R5,hcD):=hn'.count (PySem.Within.cons f u PySem.Within.nil);show Db (wpAny_lookBehind hoD (by rw[R5];exact pastItsLine_dict (ZH hcD (by rw[ZJ,List.length_nil,sizeLine_eq];cbv))) ?_);show GM (h ↑s _ (I.aD.fresh (ZC _)) (Ne.symm hxs) ?_);have ed:(s.heap.push { cls:=.type "dict",data:=.dict #v[] }).get? ↑s=some { cls:=.type "dict",data:=.dict #v[] }:=Ev.get?_push_at U U;have Ia:=I.laid (a:=↑s) (o:=xf ↑s []) (h':=s.heap.push { cls:=.type "dict",data:=.dict #v[] }) (t':=s.toks+1) (λb o z=>Zz _ z) (ZC _)
  (CM (mA:=λ_=>none) (Ev.Ns1.of_empty #[_,#v[],_,ed,U,λe he=>absurd he (by simp),λ_=>rfl]) (λ_=>True.intro) (λy hy=>absurd U hy) (Nat.zero_le _))
 have e1:upd H ↑s (xf ↑s []) ea=some (xo ea C none fr):=by rw[ai hxs];exact e
 have Ib:=Ia.write (x:=ea) (e:=ea) (o:=xo ea C (some ↑s) fr) (t':=s.toks+1) (CP e1) (.inl U) (λb o hb z=>(ZY _ _ (Ne.symm hb)).trans z) #[_,hu] (zO hu h6 hf);have e2:upd (upd H ↑s (xf ↑s [])) ea (xo ea C (some ↑s) fr) ↑s=some (xf ↑s []):=by rw[ai (Ne.symm hxs)];exact aj
 have Ic:=Ib.write (x:=↑s) (e:=↑s) (o:=xf ↑s [(f,y)]) (h':=h') (t':=s.toks+1+1) (CK e2) (.inl U) (λb o hb z=>(hs.2 b hb).trans z) #[_,hoD]
  (CM hn' (λg=>by
   change iH (List.lookup g [(f,y)]) (if g=f then some u else none);by_cases q:g=f
   .have hb:(g == f)=true:=beq_iff_eq.mpr q;simp only[List.lookup,hb,if_pos q];exact ry
   .have hb:(g == f)=false:=beq_eq_false_iff_ne.mpr q;simp only[List.lookup,hb,if_neg q];exact True.intro) (PySem.Within.cons f u PySem.Within.nil) (by change 1<=1000;decide))
 have ke:upd (upd (upd H ↑s (xf ↑s [])) ea (xo ea C (some ↑s) fr)) ↑s (xf ↑s [(f,y)])
   = upd (upd H ea (xo ea C (some ↑s) fr)) ↑s (xf ↑s [(f,y)]):=by
  funext b
  by_cases h1:b=↑s
  .subst h1;rw[aj,aj]
  .rw[ai h1,ai h1];by_cases h2:b=ea
   .subst h2;rw[aj,aj]
   .rw[ai h2,ai h2,ai h1]
 rw[ke] at Ic;exact Ic
theorem Mn{y:V}{u:AT}{Q:Unit->Ch->Prop}(I:Inv X Tl O H s)(e:H ea=some (xo ea C (some d) fr))(ed:H d=some (xf d fs))(iR:d≠ea)(hl:fs.length < 1000)(c:ExC X.K C)(n:Hu X.K C f)(ry:RelV y u)(h:∀ s',Inv X Tl O (upd H d (xf d (jR f y fs))) s'->Q Unit.unit s'):EQ (model X.prog X.w) A (setAttr (.ref ea) f u) Q E s:=by
 let(nm,q,N,S,bs,sn,sub,ab,col,dd',k0,k1,k2,k3,k5,hC,T,hcl):=c.at I.iW;let(vs,he,h6,hf):=kx I.aD e;let(_,mA,hn,r,wi):=xC I.aD ed;let(od,hod,_):=qV hn;have J:InstAt s.heap ea { cls:=.ref C,dict:=some d,data:=.fields vs } C (some od):=#[he,U,U,hod];show PySem.W.set_plain I.iW J c.sa (zS (s:={ s with toks:=s.toks+1 }) I.iW J c n λb=>?_);show Db (GM (Db (Db (wpAny_loadPart he (Db (Looks.here (s:={ s with toks:=s.toks+1 }) (PySem.W.looks_clsIn I.iW hcl) ?_))))));rw[if_neg (show ¬ ((not true)=true) from by decide)];show GM (a:=some d) (Db (GM (Db ?_)));show wpAny_nsSet1 (s:={ s with toks:=s.toks+1 }) hn λh' HQ xh=>?_;let(oD,esD,epD,hoD,R5,hcD):=HQ.count (PySem.Within.cons f u wi);have hz:(fs.map (·.1)).length<=1000:=by rw[Zy];cbv
 show Db (wpAny_lookBehind hoD (by rw[R5];exact pastItsLine_dict (ZH hcD (by rw[ZJ,sizeLine_eq];cbv))) ?_);show GM (h _ ?_);show I.write (x:=d) (e:=d) (CK ed) (.inl U) (λb o hb z=>(xh.2 b hb).trans z) #[_,hoD] (CM HQ (λg=>?_) (λg hg=>?_) ?_)
 .show iH ((jR f y fs).lookup g) (if g=f then some u else mA g);rw[nq];by_cases q:g=f
  .rw[if_pos q,if_pos q];exact ry
  .rw[if_neg q,if_neg q];exact r g
 .by_cases q:g=f
  .rw[q];exact (mi f y fs).1
  .refine (mi f y fs).2 g (wi g λz=>hg ?_);change (if g=f then some u else mA g)=none;rw[if_neg q];exact z
 .have:=nI f y fs;cbv
theorem RB{u:AT}{b:Bool}{Q:abK}(I:Inv X Tl O H s)(e:H ea=some (xo ea C (some d) fr))(ed:H d=some (xf d fs))(c:ExC X.K C)(n:Hu X.K C f)(l:fs.lookup f=some v)(h:∀ u s',Inv X Tl O H s'->RelV v u->Q u s'):EQ (model X.prog X.w) A (getAttr (.ref ea) f b) Q E s:=by
 let(nm,q,N,S,bs,sn,sub,ab,col,dd',k0,k1,k2,k3,k5,hC,T,hcl):=c.at I.iW;let(vs,he,h6,hf):=kx I.aD e;let(_,mA,hn,r,wi):=xC I.aD ed;let(u,hu,ru):=iH.some_of (v:=v) (o:=mA f) (by rw[<- l];exact r f);let(od,hod,hlk):=qV hn;have J:InstAt s.heap ea { cls:=.ref C,dict:=some d,data:=.fields vs } C (some od):=#[he,U,U,hod];have hfo:PySem.W.findObj X.K C (some od) f=some (.value u):=PySem.W.findObj_own (by unfold PySem.W.hasDictIn;rw[hcl];rfl) n.no U (by rw[hlk,hu]);have LT:=J.type (M:=model X.prog X.w);have LF:=PySem.W.looks_find (M:=model X.prog X.w) I.iW J hfo;have LB:Looks (model X.prog X.w) s.heap (isInstance (.ref ea) (.type "BaseException")) true:=LT.andThen (PySem.W.looks_mroIn I.iW (by unfold PySem.W.mroIn;rw[hcl,Option.bind_some];rfl));have hx2:(AT.builtin "BaseException.__getattribute__" == AT.builtin "object.__getattribute__")=false:=by decide+kernel
 show Db (wpAny_mkText (Rs (Db (LT _ _ _ _ (λ_ _ e=>e) (Db (abd I.iW c.ga _ _ _ _ (λ_ _ e=>e) ?_))))));dsimp only;rw[hx2,Bool.and_false,if_neg ()];show Db (PySem.W.looks_hook (mc:=.ref C) I.iW c.gt _ _ _ _ (λ_ _ e=>e) (Db (wpAny_attempt (Rs ?_))));unfold callGetattribute;rw[show (b&&onTheHeap (AT.builtin "BaseException.__getattribute__"))=false from Bool.and_false _,if_neg ()];unfold boundAndCalled;rw[PySem.F.attr_ValueError.ga.bind];show Db (GM ?_);change EQ _ _ (call (.builtin "BaseException.__getattribute__") [.ref ea,.str f s.toks]) _ _ _;show wpAny_call (codeAny_call_builtin PySem.F.attr_ValueError.ga.plain PySem.F.entry_bexc_ga ?_);show @PySem.W.check_slot (model X.prog X.w) _ _ { s with toks:=s.toks+1 } "BaseException.__getattribute__" "BaseException" "__getattribute__" (.ref ea) [.str f s.toks] [] _ (-()) (-()) LB (PySem.F.args_bexc_ga (.ref ea) (.str f s.toks)) ?_;show Db (GM (Db (GM (Db (LT _ _ _ _ (λ_ _ e=>e) (Db (LF _ _ _ _ (λ_ _ e=>e) ?_)))))));show GM ?_;change EQ _ _ (handedOut u) _ _ _;rw[PySem.W.handedOut_of (Au ru)];exact GM (h u _ (I.tok _) ru)
end
theorem By:specialIn [] (.builtin "object.__class__") "__get__"=some (some (.builtin "getset_descriptor.__get__")):=by decide+kernel
theorem Ai:PySem.W.takesIn [] (.builtin "object.__class__")=some true:=by decide+kernel
section
variable{K:Frag}
theorem vf{x C:AC}{ox:Obj}{od:Option Obj}(c:ExC K C)(ha:findIn K (.ref C) "__class__"=some (some (.builtin "object.__class__"))):PySem.W.KitX K (.ref x) (.ref C) (λh=>InstAt h x ox C od) where
 ty:=λ_ _ _ I=>I.type
 it:=λ_ _ X _=>by
  let(nm,q,N,S,bs,sn,sub,ab,col,dd',k0,k1,k2,k3,k5,hC,T,hcl):=c.at X;intro A' Q' E' s' k q;unfold isType loadHead;exact Db (wpAny_loadPart (k _ _ hC) (GM q))
 ne:=λh tp dd its n sl X htp=>by
  let(nm,q,N,S,bs,sn,sub,ab,col,dd',k0,k1,k2,k3,k5,hC,T,hcl):=c.at X;show Bool.eq_false_iff.mpr λq=>?_;have e:C=tp:=AT.ref.inj (beq_iff_eq.mp q);subst e;have z:Data.cls _=Data.seq its.toArray n:=congrArg Obj.data (Z7 (hC.symm.trans htp));cases z
 ca:=λ{prog w A E Q s} X I k=>by
  let(nm,q,N,S,bs,sn,sub,ab,col,dd',k0,k1,k2,k3,k5,hC,T,hcl):=c.at X;have hf:PySem.W.findObj K C od "__class__"=some (.bind (.builtin "getset_descriptor.__get__") (.builtin "object.__class__")):=by
   have h1:specialIn K (.builtin "object.__class__") "__get__"=some (some (.builtin "getset_descriptor.__get__")):=By;have h2:PySem.W.takesIn K (.builtin "object.__class__")=some true:=Ai;unfold PySem.W.findObj;rw[hcl,aaP,ha,aaP];simp[h1,h2]
  have LT:=I.type (M:=model prog w);have LF:=PySem.W.looks_find (M:=model prog w) X I hf;have LB:Looks (model prog w) s.heap (isInstance (.ref x) (.type "BaseException")) true:=LT.andThen (PySem.W.looks_mroIn X (by unfold PySem.W.mroIn;rw[hcl,Option.bind_some];rfl));have hx2:(AT.builtin "BaseException.__getattribute__" == AT.builtin "object.__getattribute__")=false:=by decide+kernel
  show Db (wpAny_mkText (Db (wpAny_attempt ?_)));show Rs (Db (LT _ _ _ _ (λ_ _ e=>e) (Db (abd X c.ga _ _ _ _ (λ_ _ e=>e) ?_))));dsimp only;rw[hx2,Bool.and_false,if_neg ()];show Db (PySem.W.looks_hook (mc:=.ref C) X c.gt _ _ _ _ (λ_ _ e=>e) (Db (wpAny_attempt (Rs ?_))));unfold callGetattribute;rw[show (false&&onTheHeap (AT.builtin "BaseException.__getattribute__"))=false from U,if_neg ()];unfold boundAndCalled;rw[PySem.F.attr_ValueError.ga.bind];show Db (GM ?_);change EQ _ _ (call (.builtin "BaseException.__getattribute__") [.ref x,.str "__class__" s.toks]) _ _ _;show wpAny_call (codeAny_call_builtin PySem.F.attr_ValueError.ga.plain PySem.F.entry_bexc_ga ?_);show @PySem.W.check_slot (model prog w) _ _ { s with toks:=s.toks+1 } "BaseException.__getattribute__" "BaseException" "__getattribute__" (.ref x) [.str "__class__" s.toks] [] _ (-()) (-()) LB (PySem.F.args_bexc_ga (.ref x) (.str "__class__" s.toks)) ?_;show Db (GM (Db (GM (Db (LT _ _ _ _ (λ_ _ e=>e) (Db (LF _ _ _ _ (λ_ _ e=>e) ?_)))))));change EQ _ _ (GT.ObjectAttr.bindTo _ _ _ _) _ _ _;unfold GT.ObjectAttr.bindTo;dsimp only;show Db (Rs (wpAny_call (PySem.W.class_get (s:={ s with toks:=s.toks+1 }) (ox:=ox) (od:=od) X I (by unfold PySem.W.mroIn;rw[hcl,Option.bind_some];rfl) ?_)));show GM ?_;change EQ _ _ (handedOut (.ref C)) _ _ _;exact PySem.W.handed_on U (GM k)
end
section
variable{X:Cx}{Tl:abL}{O:St}{H:Hp}{s:Ch}{ea C d:AC}{dd:Option AC}{fr:Bool}{fs:!(Str×V)}{f:Str}{v:V}{A:GE}{E:abK}
structure Pj(K:Frag)(C:AC):Prop extends ExC K C where
 cc:findIn K (.ref C) "__class__"=some (some (.builtin "object.__class__"))
theorem zJ(I:Inv X Tl O H s)(e:H ea=some (xo ea C dd fr))(hd:∀ d,dd=some d->∃ o,s.heap.get? d=some o):∃ ox od,InstAt s.heap ea ox C od:=by
 let(vs,he,h6,hf):=kx I.aD e;cases dd with
 | none=>exact#[_,none,he,U,U,True.intro]
 | some d =>
  let(o,ho):=hd d U;exact#[_,some o,he,U,U,ho]
def eX(H:Hp)(dd:Option AC):Prop:=∀ d,dd=some d->∃ fs,H d=some (xf d fs)
theorem eX.at(D:eX H dd)(I:Inv X Tl O H s):∀ d,dd=some d->∃ o,s.heap.get? d=some o:=λd e=>by
 let(fs,h):=D d e;let(_,mA,(o,_,_,h1,_),_):=xC I.aD h;exact#[o,h1]
def Nh(K:Frag)(c:AT):!V->Hp->VK->Prop:=λxs H Q=>∃ ea C dd fr b cv,xs=[.ref ea,cv]/\RelV cv c/\H ea=some (xo ea C dd fr)/\eX H dd/\Pj K C/\kitOne K (.ref C) c=some b/\Q (.bl b) H
theorem wA{K:Frag}{c:AT}(hK:X.K=K)(hc:∀ (cv:V) (u:AT),RelV cv c->RelV cv u->u=c):eE X (.builtin "isinstance") (Nh K c):=by
 subst hK;intro Tl s O H xs us Q I r h;let(ea,C,dd,fr,b,cv,rfl,rc,e,D,t,k,q):=h;cases r with
 | @cons _ u _ us' ru rr =>
  cases rr with
  | @cons _ u2 _ us2 ru2 rr2 =>
   cases rr2;obtain rfl:u=AT.ref ea:=ru;obtain rfl:=hc cv u2 rc ru2;let(ox,od,J):=zJ I e (D.at I);exact gB (PySem.W.kia_one (vf t.toExC t.cc) I.iW J k (λz=>nomatch z) λtk tl=>#[.bl b,H,I.tok _ (ZL I.tk tl),U,q])
def IK(K:Frag)(ta:TE)(f:Str):TE:=λO H Q=>ta O H λx H1=>∃ ea C d fr fs v,x=.ref ea/\H1 ea=some (xo ea C (some d) fr)/\H1 d=some (xf d fs)/\ExC K C/\Hu K C f/\fs.lookup f=some v/\Q v H1
theorem zW{K:Frag}{e:Da}{ta:TE}{pos:Pos}(hK:X.K=K)(he:PE X e ta)(hb:attributeBase e f X.env (eval e X.env)=eval e X.env):PE X (.Attribute e f pos) (IK K ta f):=by
 subst hK;intro Tl s O H Q I h;show Gs hb (bQ (he Tl s O H _ I h) λu s1 z8q=>?_);let(x,H1,I1,rx,ea,C,d,fr,fs,v,ex,e1,e2,c,n,l,q):=z8q;subst ex;obtain rfl:u=AT.ref ea:=rx;exact RB (u:=.none) I1 e1 e2 c n l λu' s2 I2 ru=>#[v,H1,I2,ru,q]
def O3(K:Frag)(ta tv:TE)(f:Str):TS:=λD O H=>tv O H λy H1=>ta O H1 λx H2=>∃ ea C fr,x=.ref ea/\ExC K C/\Hu K C f /\
 ((H2 ea=some (xo ea C none fr)/\∀ d,H2 d=none->d≠ea->D.nx O (upd (upd H2 ea (xo ea C (some d) fr)) d (xf d [(f,y)]))) \/
  ∃ d fs,H2 ea=some (xo ea C (some d) fr)/\H2 d=some (xf d fs)/\d≠ea/\fs.length < 1000/\D.nx O (upd H2 d (xf d (jR f y fs))))
theorem Gf{o value:Da}{ta tv:TE}{pos pos':Pos}(ha:PE X o ta)(hv:PE X value tv)(hs:swapsWith value (some (.Attribute o f pos')) pos.line X.env=pure false):PS X (.Assign [.Attribute o f pos'] value pos) (O3 X.K ta tv f):=by
 intro Tl s O H D I h;show plainObj_wpAny_Assign_Attribute (bQ (hv Tl s O H _ I h) λu s1 zz=>el2 zz λy H1 I1 ry q=>bQ (ha Tl s1 O H1 _ I1 q) λov s2 #[x,H2,I2,rx,ea,C,fr,ex,c,n,q2]=>?_) hs;subst ex;obtain rfl:ov=AT.ref ea:=rx;rcases q2 with ⟨e,q3⟩ | ⟨d,fs,e,e2,ne,hl,q3⟩
 .exact Qd I2 e c n ry λd s3 hd iR I3=>#[O,_,I3,q3 d hd iR]
 .exact Mn I2 e e2 ne hl c n ry λs3 I3=>#[O,_,I3,q3]
end
structure vG(X:Cx)(Tl:abL)(H:Hp)(s:Ch)(ea C:AC)(dd:Option AC)(T:AC):Prop where
 ex:∃ vs:Array AT,s.heap.get? ea=some { cls:=.ref C,dict:=dd,data:=.fields vs }/\vs.size=6/\vs[1]?=some (.ref T)
 tb:kT s.heap T .none
 at_:H ea=some (xo ea C dd false)
 free:H T=none
 new:X.s₀.heap.objs.size<=T
 nl:T≠X.env.locals
 nc:∀ x c,X.env.cells.lookup x=some c->c≠T
 np:∀ p∈X.pn++Tl,p.1≠T
 nf:T∉X.fs
section
variable{X:Cx}{Tl:abL}{O:St}{H:Hp}{s:Ch}{ea C T:AC}{dd:Option AC}{fr:Bool}{A:GE}{E:abK}{h':Ev}
theorem u3{b:AC}{o:HO}(e:H ea=some (xo ea C dd fr))(h:H b=some o)(n:∀ φ,o≠.ext φ):b≠ea:=DY h e λz=>n _ z
theorem Inv.apart(I:Inv X Tl O H s)(h:↑s<=T):X.s₀.heap.objs.size<=T/\T≠X.env.locals/\(∀ x c,X.env.cells.lookup x=some c->c≠T)/\(∀ p∈X.pn++Tl,p.1≠T)/\T∉X.fs :=
 #[ZH I.sz h,aah (ZL I.lt h),λx c e=>by
  let(_,o,ho,_):=I.cell x c e;exact ZT (ZL (ZK ho) h),λp hp=>ZT (ZL (ZK (I.pin p hp).1) h),I.ML h]
theorem kg{ch:!AC}{Ig:Array AT}(I:Inv X Tl O H s)(hs:X.stack=X.env::X.outer)(hf:X.env.frame=some X.env.locals)(e:H ea=some (xo ea C dd fr))(P:eK ((X.env::X.outer).filterMap (·.frame)) (ea::ch) s.heap h')(uI:∀ b∈ch,H b=none/\X.s₀.heap.objs.size<=b/\b≠X.env.locals/\(∀ x c,X.env.cells.lookup x=some c->c≠b)/\∀ p∈X.pn++Tl,p.1≠b)(oO:h'.get? ea=some { cls:=.ref C,dict:=dd,data:=.fields Ig })(h6:Ig.size=6):Inv X Tl O (upd H ea (xo ea C dd false)) { s with heap:=h' }:=by
 have nh:(X.env::X.outer).filterMap (·.frame)=X.env.locals::X.fs:=by rw[abi,hf];rfl
 rw[nh] at P;have frN:∀ b,b∈X.env.locals::X.fs->H b=none:=λb hb=>I.sX b (by rw[hs];change b∈(X.env::X.outer).filterMap (·.frame);rw[nh];exact hb);show I.step (g':=s.gens) (t':=s.toks) (d':=s.drawn) (ch:=ch) (λb hb=>#[.inr (uI b hb).2.1,(uI b hb).2.2.1,(uI b hb).2.2.2.1,(uI b hb).2.2.2.2]) (λb o hL hb hc e1 n=>?_) (λb o hL hb hc e1 n=>?_) (λb o hc e1 n=>?_) (λb o hc e1=>?_)
  (λb xs q=>?_) (λb o u q=>?_) (λb ps q=>?_) (λm hm=>?_) (λb u q=>?_) I.bare I.tk
 .refine P.keep b o (λz=>(ZD.mp z).elim hL hb) (λz=>(ZD.mp z).elim (λq=>?_) hc) e1;rw[q,e] at n;cases n
 .exact P.slot b o (Zw _ hb) e1
 .rw[ai λq=>by rw[q,e] at n;cases n];exact n
 .by_cases q:b=ea
  .exact#[_,by rw[q];exact oO]
  .by_cases z:b∈X.env.locals::X.fs
   .let(sl,h1):=P.slot b o z e1;exact#[_,h1]
   .exact#[o,P.keep b o z (λy=>(ZD.mp y).elim q hc) e1]
 .rw[ai (u3 e q λφ z=>nomatch z)];exact q
 .rw[ai (u3 e q λφ z=>nomatch z)];exact q
 .exact#[#v[],by rw[ai (u3 e q λφ z=>nomatch z),q];simp]
 .let(o,es,ep,ho,r):=hm;let(sl,h1):=P.slot _ o Zx ho;exact#[_,es,ep,h1,r]
 .by_cases hb:b=ea
  .subst hb;rw[aj] at q;cases q;exact zO oO h6 λz=>nomatch z
  .rw[ai hb] at q;have own:∀ c,H c=some (.own b)->c≠ea:=λc r=>u3 e r λφ z=>nomatch z;show (I.aD b u q).sv (λc v hc r=>P.keep c v (λz=>?_) (λz=>?_) r) (λc r=>by rw[ai (own c r)];exact r) λc xs r=>by rw[ai (u3 e r λφ z=>nomatch z)];exact r
   .have n:=frN c z;rcases hc with rfl | hc
    .rw[q] at n;cases n
    .rw[hc] at n;cases n
   .rcases ZD.mp z with z | z
    .rcases hc with rfl | hc
     .exact hb z
     .exact own c hc z
    .have n:=(uI c z).1;rcases hc with rfl | hc
     .rw[q] at n;cases n
     .rw[hc] at n;cases n
theorem uS{o:HO}(e:H ea=some o):upd H ea o=H:=by funext b;by_cases hb:b=ea<;>simp[upd,hb,e]
theorem kr(vs:Array AT)(v:AT):Obj.mapFields (·.setIfInBounds 1 v) { cls:=.ref C,dict:=dd,data:=.fields vs }={ cls:=.ref C,dict:=dd,data:=.fields (vs.setIfInBounds 1 v) }:=rfl
theorem AO{Q:Unit->Ch->Prop}(I:Inv X Tl O H s)(hA:A.frames=some X.stack)(hs:X.stack=X.env::X.outer)(hf:X.env.frame=some X.env.locals)(e:H ea=some (xo ea C dd true))(h:∀ s2 T2,Inv X Tl O (upd H ea (xo ea C dd false)) s2->vG X Tl (upd H ea (xo ea C dd false)) s2 ea C dd T2->Q Unit.unit s2) :
  EQ (model X.prog X.w) A (noteFrame (.ref ea) X.env) (λ_ s1=>EQ (model X.prog X.w) A (setFlight (.ref ea) none) Q E s1) E s:=by
 let(vs,he,h6,h1):=kx I.aD e;have fun1:=I.stack;rw[hs] at hA fun1;show Aj hA fun1 hf he U (h1 U) λha T2 P oO hT ht _=>?_;rw[kr] at oO;have hv1:(vs.setIfInBounds 1 (AT.ref T2))[1]?=some (.ref T2):=by rw[aaK (by cbv)]
 show mz (fs:=[]) oO U hv1 ht (by simp) λhb P2 k2 ht2=>?_;have lt:∀ b o,s.heap.get? b=some o->b≠T2:=λb o q=>ZT (ZL (ZK q) hT);have hea2:=k2 _ _ (lt _ _ he) oO;have P':eK ((X.env::X.outer).filterMap (·.frame)) (ea::[]) s.heap hb:=#[λb o n1 n2 q=>k2 b o (lt b o q) (P.keep b o n1 n2 q),λb o n1 q=>by
  let(sl,r):=P.slot b o n1 q;exact#[sl,k2 b _ (lt b o q) r]]
 have I2:=kg I hs hf e P' (λb z=>nomatch z) hea2 (by simp[h6]);let(a1,a2,a3,a4,a5):=I.apart hT;exact h _ T2 I2 #[#[_,hea2,by simp[h6],hv1],ht2,aj,by rw[ai (Ne.symm (lt _ _ he))];exact I.aD.fresh hT,a1,a2,a3,a4,a5]
theorem uQ{Q:Unit->Ch->Prop}(I:Inv X Tl O H s)(hA:A.frames=some X.stack)(hs:X.stack=X.env::X.outer)(hf:X.env.frame=some X.env.locals)(F:vG X Tl H s ea C dd T)(h:∀ s2 T2,Inv X Tl O H s2->vG X Tl H s2 ea C dd T2->Q Unit.unit s2) :
  EQ (model X.prog X.w) A (noteFrame (.ref ea) X.env) (λ_ s1=>EQ (model X.prog X.w) A (setFlight (.ref ea) none) Q E s1) E s:=by
 let(vs,he,h6,h1):=F.ex;have fun1:=I.stack;rw[hs] at hA fun1;have Gb:T≠ea:=λq=>by have:=F.free;rw[q,F.at_] at this;cases this
 show Eh hA fun1 hf he U h1 Gb F.tb λha T2 P oO hT ht _=>?_;rw[kr] at oO;have hv1:(vs.setIfInBounds 1 (AT.ref T2))[1]?=some (.ref T2):=by rw[aaK (by cbv)]
 show mz (fs:=[]) oO U hv1 ht (by simp) λhb P2 k2 ht2=>?_;have lt:∀ b o,s.heap.get? b=some o->b≠T2:=λb o q=>ZT (ZL (ZK q) hT);have hea2:=k2 _ _ (lt _ _ he) oO;have P':eK ((X.env::X.outer).filterMap (·.frame)) (ea::[T]) s.heap hb:=#[λb o n1 n2 q=>k2 b o (lt b o q) (P.keep b o n1 n2 q),λb o n1 q=>by
  let(sl,r):=P.slot b o n1 q;exact#[sl,k2 b _ (lt b o q) r]]
 have I2:=kg I hs hf F.at_ P' (λb z=>by
  have q:b=T:=ZI.mp z;rw[q];exact#[F.free,F.new,F.nl,F.nc,F.np]) hea2 (by simp[h6])
 rw[uS F.at_] at I2;let(a1,a2,a3,a4,a5):=I.apart hT;exact h _ T2 I2 #[#[_,hea2,by simp[h6],hv1],ht2,F.at_,I.aD.fresh hT,a1,a2,a3,a4,a5]
theorem FW{Q:Unit->Ch->Prop}(I:Inv X Tl O H s)(F:vG X Tl H s ea C dd T)(h:∀ s2,Inv X Tl O H s2->vG X Tl H s2 ea C dd T->Q Unit.unit s2):EQ (model X.prog X.w) A (setFlight (.ref ea) none) Q E s:=by
 let(vs,he,h6,h1):=F.ex;have Gb:T≠ea:=λq=>by have:=F.free;rw[q,F.at_] at this;cases this
 show mz (fs:=[]) he U h1 F.tb (by simp) λhb _ k2 ht2=>?_;exact h _ (I.turned (t':=s.toks) k2 F.free F.nl (.inr F.new) F.nc F.np) #[#[vs,k2 _ _ (Ne.symm Gb) he,h6,h1],ht2,F.at_,F.free,F.new,F.nl,F.nc,F.np,F.nf]
end
def cA(P:Fr)(w:Fa):u4:=λouter H s E e s'=>∃ (ea C:AC) (dd:Option AC) (T:AC) (H':Hp),e=.ref ea/\s'.os=s.os/\AllBare s'.gens/\Un (Bu outer) [] H H' s.heap s'.heap/\jY P w H' s'.heap/\H' ea=some (xo ea C dd false) /\
 (∃ vs:Array AT,s'.heap.get? ea=some { cls:=.ref C,dict:=dd,data:=.fields vs }/\vs.size=6/\vs[1]?=some (.ref T))/\kT s'.heap T .none/\H' T=none/\↑s<=T/\E (.ref C) dd H'
section
variable{X:Cx}{Tl:abL}{O:St}{H:Hp}{s s':Ch}{ea C T:AC}{dd:Option AC}{E:XK}{e:AT}
theorem DC(I:Inv X Tl O H s)(tl:s.toks<=s'.toks)(h:cA X.prog X.w X.stack H s E e s'):∃ ea C dd T H',e=.ref ea/\Inv X Tl O H' s'/\vG X Tl H' s' ea C dd T/\E (.ref C) dd H':=by
 let(ea,C,dd,T,H',rfl,os,bare,un,aD,at_,ex,tb,free,new,q):=h;let(a1,a2,a3,a4,a5):=I.apart new;exact#[ea,C,dd,T,H',U,I.yB (ch:=[]) os un aD bare (λb z=>nomatch z) (ZL I.tk tl),#[ex,tb,at_,free,a1,a2,a3,a4,a5],q]
end
section
variable{P:Fr}{w:Fa}{K:Frag}{mg:Str->Option AT}{base:Ev}{N:!Str}{qual:Str}{scope:Scope}{f:AC}{cd:AT}{A:GE}{outer:!Env}{s:Ch}{H:Hp}{E E':XK}
abbrev JD(P:Fr)(w:Fa)(K:Frag)(mg:Str->Option AT)(base:Ev)(N:!Str)(qual:Str)(scope:Scope)(f:AC)(cd:AT)(A:GE)(outer:!Env)(s:Ch)(H:Hp)(E:XK):Cx :=
 jO (cA P w) P w K mg base N qual scope f cd A outer s H E
theorem aA(h:∀ c dd H',E' c dd H'->E c dd H'):Passes (cA P w) (JD P w K mg base N qual scope f cd A outer s H E) E':=λTl O H1 s1 e s' I tl hx=>by
 let(ea,C,dd,T,H',rfl,I1,F,q):=DC (X:=JD P w K mg base N qual scope f cd A outer s H E) I tl hx;change EQ _ _ (leaving _ _) _ _ _;unfold leaving;show Db (uQ I1 I1.ok.frames U U F λs2 T2 I2 F2=>?_);exact#[ea,C,dd,T2,H',U,I2.os,I2.bare,I2.base,I2.aD,F2.at_,F2.ex,F2.tb,F2.free,F2.new,h _ _ _ q]
def Raises(X:Cx)(E:XK):Prop:=∀ (Tl:abL) (O:St) (H:Hp) (s:Ch) (ea C:AC) (dd:Option AC),Inv X Tl O H s->H ea=some (xo ea C dd true)->E (.ref C) dd (upd H ea (xo ea C dd false))->X.xe (.ref ea) s
theorem AL:Raises (JD P w K mg base N qual scope f cd A outer s H E) E:=λTl O H1 s1 ea C dd I e q=>by
 change EQ _ _ (leaving _ _) _ _ _;unfold leaving;show Db (AO I I.ok.frames U U e λs2 T2 I2 F2=>?_);exact#[ea,C,dd,T2,_,U,I2.os,I2.bare,I2.base,I2.aD,F2.at_,F2.ex,F2.tb,F2.free,F2.new,q]
end
section
variable{X:Cx}{Tl:abL}{O:St}{H:Hp}{s:Ch}{ea C:AC}{dd:Option AC}{fr:Bool}
theorem ya{M:Model}{A:GE}{env:Env}{E:abK}{s:Ch}{x:Sem AT}{K:Frag}{Q:Flow->Ch->Prop}(hh:A.handled=none)(h:EQ M A x (λv s₁=>∃ e C dd vs,v=.ref e/\K.In s₁.heap/\ExC K C/\s₁.heap.get? e=some { cls:=.ref C,dict:=dd,data:=.fields vs }/\vs[1]?=some .none/\E (.ref e) s₁) E s) :
  EQ M A (raiseStmt env (some x) none) Q E s:=by
 unfold raiseStmt;show Db (KM h (λv s₁ h₁=>?_) λ_ _ x=>x);let(e,C,dd,vs,rfl,X,c,he,hv,hE):=h₁;let(nm,q,N,S,bs,sn,sub,ab,col,dd',k0,k1,k2,k3,k5,hC,T,hcl):=c.at X;have hcB:(AT.ref C::AT.ref S::jA).contains (.type "BaseException")=true:=by simp[jA]
 let(hp,g,d,tk,os):=s₁
 repeat (first | with_reducible show wpAny_loadPart_at he ?_ | with_reducible show wpAny_loadPart_at hC ?_ | (with_reducible show wpAny_isSubtype_exc hC ?_;rw[hcB]) | wp_step)
 rw[hv];show GM ?_;rw[if_neg ()];exact GM (wpAny_raiseNew_none hh hE)
def Kf(K:Frag)(E:XK)(te:TE):TS:=λ_ O H=>te O H λx H1=>∃ ea C dd,x=.ref ea/\H1 ea=some (xo ea C dd true)/\ExC K C/\E (.ref C) dd (upd H1 ea (xo ea C dd false))
theorem Cb{E:XK}{e:Da}{te:TE}{pos:Pos}(hc:X.calm=true)(hr:Raises X E)(he:PE X e te):PS X (.Raise (some e) none pos) (Kf X.K E te):=by
 intro Tl s O H D I h;rw[arm_exec_Raise];show Db (wpAny_standAt (ya (K:=X.K) (I.ok.hd hc) ?_));show Db (KM (he Tl s O H _ I h) (λv s1 h1=>Db (wpAny_standAt (GM ?_))) λ_ _ x=>x);let(x,H1,I1,rx,ea,C,dd,ex,e1,c,q):=h1;subst ex;obtain rfl:v=AT.ref ea:=rx;let(vs,h1,_,h2):=kx I1.aD e1;exact#[ea,C,dd,vs,U,I1.iW,c,h1,h2 U,hr Tl O H1 s1 ea C dd I1 e1 q]
end
abbrev Cx.hand(X:Cx)(ev:AT):Cx:={ X with A:=X.A.mark (some ev),calm:=false,xe:=λ_ _=>False }
section
variable{X:Cx}{Tl:abL}{O:St}{H:Hp}{s:Ch}{ev:AT}
theorem wo{A:GE}{l:!Env}(h:A.frames=some l):(A.mark (some ev)).frames=some l:=h
theorem Inv.hand(I:Inv X Tl O H s):Inv (X.hand ev) Tl O H s :=
 #[#[I.ok.mod,I.ok.kind,I.ok.glob,I.ok.blt,I.ok.above,I.ok.inj,I.ok.has,I.ok.Ma,(λz=>nomatch z),wo I.ok.frames,I.ok.Nq,I.ok.Kl,I.ok.bs,I.ok.EN,I.ok.AF,I.ok.xK,I.ok.lY,I.ok.Hy],
  I.os,I.bare,I.base,I.loc,I.cell,I.free,I.gq,I.pin,I.aD,I.len,I.tk]
theorem Inv.mH(ok:X.Ok)(I:Inv (X.hand ev) Tl O H s):Inv X Tl O H s:=#[ok,I.os,I.bare,I.base,I.loc,I.cell,I.free,I.gq,I.pin,I.aD,I.len,I.tk]
theorem SP.mH{D:Ends}{f:Flow}(ok:X.Ok)(h:SP (X.hand ev) Tl D f s):SP X Tl D f s:=by
 cases f with
 | next=>let(O',H',I,q):=h;exact#[O',H',I.mH ok,q]
 | brk=>let(O',H',I,q):=h;exact#[O',H',I.mH ok,q]
 | cont=>let(O',H',I,q):=h;exact#[O',H',I.mH ok,q]
 | ret u=>let(v,O',H',I,r,q):=h;exact#[v,O',H',I.mH ok,r,q]
theorem jI{M:Model}{A:GE}{E:abK}{i:Nat}{n:Str}{pos:Pos}{Q:Unit->Ch->Prop}(I:Inv X Tl O H s)(hN:X.N.Nodup)(hi:X.N[i]?=some n)(hl:X.env.kindOf n=some .local)(h:∀ s',Inv X Tl (O.set i none) H s'->Q Unit.unit s'):EQ M A (do bindName X.env n .none;unbindBehindTheSuite X.env n pos) Q E s:=by
 let(m,hn,hm):=id I.loc;let(oL,_,_,hoL,_):=id hn;have hcls:(X.env.scope.kind == .class||(X.env.scope.kind == .module&&X.env.locals != X.env.globals))=false:=by rw[I.ok.kind];rfl
 show gB <| wpAny_nameGoes_keeps hl hn hcls λh' v hn' hs tl=>h _ ?_
 have ne:∀ b o,X.s₀.heap.get? b=some o->b≠X.env.locals:=λb o e=>ZT (ZL (ZK e) I.ok.above);show#[I.ok,I.os,I.bare,#[λb o e n hb hx=>?_,λb o e n hb hx=>?_,I.base.free,λb o e hx=>?_,I.base.t6,I.base.qM,I.base.tL],#[_,hn',λj y v' e1 e2 e3=>?_],λy c e=>?_,I.free,I.gq,λp hp=>?_,λb ob e=>?_,by rw[aab];exact I.len,ZL I.tk tl]
 .exact (hs.2 b (ne b o e)).trans (I.base.keep b o e n hb hx)
 .let(sl,e1):=I.base.slot b o e n hb hx;exact#[sl,(hs.2 b (ne b o e)).trans e1]
 .let(o',e1):=I.base.there b o e hx;exact#[o',(hs.2 b (ne b o e)).trans e1]
 .by_cases hj:j=i
  .subst hj;have lK:j < O.length:=by rw[I.len];exact (ZF.mp hi).1
   rw[aae lK] at e2;cases e2
  .rw[ZU (Ne.symm hj)] at e2;let(u',r',q):=hm j y v' e1 e2 e3;show#[u',r',?_];have hy:y≠n:=λe=>hj (qt hN e1 (e▸hi));rcases q with ⟨k,e⟩ | ⟨k,c,e,z⟩
   .exact .inl #[k,by change (if y=n then v else m y)=some u';rw[if_neg hy];exact e]
   .exact .inr #[k,c,e,z.sameBut hs (I.FV y c e)]
 .let(w',z):=I.cell y c e;exact#[w',z.sameBut hs (I.FV y c e)]
 .let(e,n,ne,nf,d):=I.pin p hp;exact#[(hs.2 p.1 ne).trans e,n,ne,nf,d]
 .refine (I.aD b ob e).sv (λc w' hc q=>(hs.2 c ?_).trans q) (λ_ q=>q) λ_ _ q=>q;rintro rfl;rcases hc with rfl | hc
  .rw[I.free] at e;cases e
  .rw[I.free] at hc;cases hc
abbrev EU:=AC->Option AC->AC->Ends->St->Hp->Prop
def PH(X:Cx)(hs:!ExceptHandler)(t:EU):Prop:=∀ (Tl:abL) (s:Ch) (O:St) (H:Hp) (D:Ends) (ea C:AC) (dd:Option AC) (T:AC),Inv X Tl O H s->vG X Tl H s ea C dd T->t C dd ea D O H ->
 EQ (model X.prog X.w) X.A (handleBy (.ref ea) X.env hs) (SP X Tl D) X.xe s
def MS:EU:=λ_ _ _ _ _ _=>False
theorem Jt:PH X [] MS:=λ_ _ _ _ _ _ _ _ _ _ _ h=>h.elim
theorem vG.ty{M:Model}{ea C T:AC}{dd:Option AC}(F:vG X Tl H s ea C dd T):Looks M s.heap (typeOf (.ref ea)) (.ref C):=by
 let(vs,he,_):=F.ex;exact (Looks.ld he).andThen .now
def VR(i:Nat)(D:Ends):Ends:={ nx:=λO' H'=>D.nx (O'.set i none) H',rt:=D.rt,bk:=λO' H'=>D.bk (O'.set i none) H',ct:=λO' H'=>D.ct (O'.set i none) H' }
def Wx(K:Frag)(c:AT)(i:Nat)(ts:TS)(tr:EU):EU:=λC dd ea D O H=>∃ b,PySem.W.exmOne K (.ref C) c=some b/\if b=true then ts (VR i D) (O.set i (some (.ref ea))) H else tr C dd ea D O H
theorem Oh{x n:Str}{i:Nat}{p pos:Pos}{c:AT}{b₀:Fk}{lq:!Fk}{rest:!ExceptHandler}{ts:TS}{tr:EU}(hg:Gl X x)(hm:X.mg x=some c)(hN:X.N.Nodup)(hi:X.N[i]?=some n)(hl:X.env.scope.names.lookup n=some .local)(hb:∀ ev,nX (X.hand ev) (b₀::lq) ts)(hr:PH X rest tr)(hd: ~~~(abP x)):PH X (.ExceptHandler (some (.Name x p)) (some n) (b₀::lq) pos::rest) (Wx X.K c i ts tr):=by
 intro Tl s O H D ea C dd T I F h;let(b,eb,q):=h;show wpAny_handleBy_cons (codeAny_handlers_test (jD (X:=X.hand (.ref ea)) I.hand hg hm ((PySem.W.exm_one I.iW F.ty eb).here ?_) hd)) (by intro z;cases z);cases b with
 | false=>exact hr Tl s O H D ea C dd T I F q
 | true =>
  show codeAny_handlers_suite_as (FW I F λs2 I2 F2=>?_);show pY (v:=.ref ea) I2 hN hi (.inl hl) U (λs3 I3=>?_) (.inr hl);show KM (hb (.ref ea) Tl s3 _ H (VR i D) I3.hand q) (λf s4 h4=>?_) λ_ _ z=>z.elim;have h5:=SP.mH I.ok h4;cases f with
  | next=>let(O',H',J,q):=h5;exact jI J hN hi hl λs5 J5=>#[_,H',J5,q]
  | brk=>let(O',H',J,q):=h5;exact jI J hN hi hl λs5 J5=>#[_,H',J5,q]
  | cont=>let(O',H',J,q):=h5;exact jI J hN hi hl λs5 J5=>#[_,H',J5,q]
  | ret u=>let(v,O',H',J,r,q):=h5;exact jI J hN hi hl λs5 J5=>#[v,_,H',J5,r,q]
abbrev XR:=AC->Option AC->AC->St->Hp->Prop
def XP(X:Cx)(Tl:abL)(R:XR)(e:AT)(s':Ch):Prop:=∃ ea C dd T O H,e=.ref ea/\Inv X Tl O H s'/\vG X Tl H s' ea C dd T/\R C dd ea O H
abbrev QN:=Ends->XR->St->Hp->Prop
abbrev RC:=St->Hp->VK->XR->Prop
def RF(X:Cx)(st:!Fk)(t:QN):Prop:=∀ (Tl:abL) (s:Ch) (O:St) (H:Hp) (D:Ends) (R:XR),Inv X Tl O H s->t D R O H->EQ (model X.prog X.w) X.A (execs st X.env) (SP X Tl D) (XP X Tl R) s
def VA(X:Cx)(e:Da)(t:RC):Prop:=∀ (Tl:abL) (s:Ch) (O:St) (H:Hp) (Q:VK) (R:XR),Inv X Tl O H s->t O H Q R->EQ (model X.prog X.w) X.A (eval e X.env) (EP X Tl O Q) (XP X Tl R) s
def Vd(tb:QN)(th:EU):TS:=λD O H=>tb D (λC dd ea O' H'=>th C dd ea D O' H') O H
theorem Je{body:!Fk}{h₀:ExceptHandler}{hs:!ExceptHandler}{pos:Pos}{tb:QN}{th:EU}(h1:X.stack=X.env::X.outer)(h2:X.env.frame=some X.env.locals)(hb:RF X body tb)(hh:PH X (h₀::hs) th) :
  PS X (.Try body (h₀::hs) [] [] pos) (Vd tb th):=by
 intro Tl s O H D I h;show wpAny_Try_except (KM (hb Tl s O H D _ I h) (λf s1 h1=>?_) λe s1 hx=>?_)
 .cases f with
  | next=>exact wpAny_execs_nil h1
  | brk=>exact h1
  | cont=>exact h1
  | ret u=>exact h1
 .let(ea,C,dd,T,O',H',rfl,J,F,q):=hx;exact uQ J J.ok.frames h1 h2 F λs2 T2 J2 F2=>hh Tl s2 O' H' D ea C dd T2 J2 F2 q
def KL(sp:Sp)(t:TA):RC:=λO H Q R=>t O H λvs H1=>sp vs H1 Q λc dd H'=>∃ C,c=.ref C/\∀ ea,H' ea=some (xo ea C dd false)->R C dd ea O H'
theorem Fj{Q:VK}{R:XR}{us:!AT}{vs:!V}{k:Nat}{f:AC}{fd:IR}{ps:!Str}{sp:Sp}(F:br X.prog X.w X.K X.mg X.base (cA X.prog X.w) k f fd ps sp)(hr:bF k X.A)(hb:Binds X.K fd ps [])(I:Inv X Tl O H s)(r:Vals vs us)(h:sp vs H Q λc dd H'=>∃ C,c=.ref C/\∀ ea,H' ea=some (xo ea C dd false)->R C dd ea O H'):EQ (model X.prog X.w) X.A (call (.ref f) us) (EP X Tl O Q) (XP X Tl R) s:=by
 have hl:(us++[]).length=ps.length:=by rw[ZM,<- r.length];exact F.len _ _ _ _ h
 have KH:=hb s us I.iW hl;rw[ZM] at KH;show wpAny_call (sG <| codeAny_mono (F.run X.A X.stack s H #[us,[]] us vs Q _ hr I.KC KH r h) λr s' hq tl=>?_);cases r with
 | error e =>
  let(ea,C,dd,T,H',rfl,J,Fl,C',ec,q):=DC I tl (show cA X.prog X.w X.stack H s (λc dd H'=>∃ C,c=.ref C/\∀ ea,H' ea=some (xo ea C dd false)->R C dd ea O H') e s' from hq);cases ec;exact#[ea,C,dd,T,O,H',U,J,Fl,q ea Fl.at_]
 | ok fl =>
  cases fl with
  | ret u=>exact I.after hq tl
  | next=>exact False.elim hq
  | brk=>exact False.elim hq
  | cont=>exact False.elim hq
theorem BQ{k:Nat}{f:AC}{fd:IR}{ps:!Str}{sp:Sp}{x:Str}{p pos:Pos}{e:Da}{es:!Da}{t:TA}(F:br X.prog X.w X.K X.mg X.base (cA X.prog X.w) k f fd ps sp)(hr:bF k X.A)(hg:Gl X x)(hm:X.mg x=some (.ref f))(hk:keepIn X.K (.ref f)=true)(hb:Binds X.K fd ps [])(ha:PA X.wD (e::es) t)(fM: ~~~(abP x))(he:(abN X.env e es)⁻¹)(dI:(abO X.env pos es)⁻¹) :
  VA X (.Call (.Name x p) (e::es) [] pos) (KL sp t):=by
 intro Tl s O H Q R I h;show wpAny_Call_Name_kw (jD I hg hm ?_ fM);show abq (h₀:=X.base) I.ok.mod.Mb hk (KM (ha pos Tl s O H _ (I.kF _) h) (λus s1 #[vs,H1,I1,r,q]=>#[I1.iW,?_]) λ_ _ z=>False.elim z) he dI;exact Fj F hr hb I1.e9 r q
theorem Dn{st:Fk}{t:QN}(h:∀ (Tl:abL) (s:Ch) (O:St) (H:Hp) (D:Ends) (R:XR),Inv X Tl O H s->t D R O H->EQ (model X.prog X.w) X.A (exec st X.env) (SP X Tl D) (XP X Tl R) s):RF X [st] t:=by
 intro Tl s O H D R I h1;show wpAny_execs_cons (bQ (h Tl s O H D R I h1) λf s1 q=>?_);cases f with
 | next=>exact wpAny_execs_nil q
 | ret v=>exact q
 | brk=>exact q
 | cont=>exact q
theorem EF{e:Da}{te:RC}{pos:Pos}(he:VA X e te)(hs:(swapsWith e none pos.line X.env=pure false)⁻¹):RF X [.Expr e pos] (λD R O H=>te O H (λ_ H1=>D.nx O H1) R) :=
 Dn λTl s O H D R I h=>wpAny_Expr_any (bQ (he Tl s O H _ R I h) λv s1 zz=>el2 zz λx H1 I1 r1 q1=>#[O,H1,I1,q1]) I.quiet hs
end
section
variable{P:Fr}{w:Fa}{K:Frag}{mg:Str->Option AT}{base:Ev}
theorem pJ.WE{x qual:Str}{st:Fk}{f:AC}{fd:IR}{N ps:!Str}{k:Nat}{sp:Sp}(F:pJ K x qual st f fd)(S:ar N ps (ag st))(len:∀ vs H Q E,sp vs H Q E->vs.length=ps.length)(pU:∀ (bp:AT) (A:GE) (outer:!Env) (s:Ch) (H:Hp) (vs:!V) (Q:VK) (E:XK),bF k (A.deeper (envOfC qual (ag st) ↑s f bp))->sp vs H Q E ->
   ∃ t,nX (JD P w K mg base N qual (ag st) f bp A outer s H E) (aq st) t/\t { nx:=λ_ H'=>Q .bX H',rt:=Q } (start N vs) H):br P w K mg base (cA P w) (k+1) f fd ps sp:=by
 let(oc,od,kV,doc,pm,an,bp,ct,vv,rfl,lk,rB):=F.ex;exact Dz lk rB S len λA outer s H vs Q E hr Br=>pU bp A outer s H vs Q E hr Br
end
section
variable{X:Cx}
def Ii(i j:Int):Prop:=0 < j/\j < 9223372036854775808
theorem wb:iA X (P3 .FloorDiv) (rI Ii λi j=>.int (i / j)):=Qv λi j _ _ _ _ _ hc q=>by
 have h1:(0:Int) < j:=hc.1;have h2:j < 9223372036854775808:=hc.2;show floordiv_int (by cbv) (by rw[Int.fdiv_eq_ediv_of_nonneg i (by cbv)];exact q) (.inl (PyProof.noPylong_of_log2 ?_));have h3:j.natAbs < 2 ^ 63:=by
  have:(2:Nat) ^ 63=9223372036854775808:=by decide
  cbv
 have h4:j.natAbs.log2 < 63:=(Nat.log2_lt (by cbv)).mpr h3;cbv
end
end L2
namespace cj
open PySem L2
abbrev kS:Key:=Sum.inr "seed"
abbrev kN:Key:=Sum.inr "number"
abbrev kL:Key:=Sum.inr "left"
theorem sn:¬ kS=kN:=by decide+kernel
theorem sl:¬ kS=kL:=by decide+kernel
theorem nl:¬ kN=kL:=by decide+kernel
def cz(a b:Int)(l:AC):!(Key×V):=[(kS,.int a),(kN,.int b),(kL,.ref l)]
theorem B2(a b:Int)(l:AC):hZ (cz a b l) (kS)=some (.int a):=fT U
theorem wR(a b:Int)(l:AC):hZ (cz a b l) (kN)=some (.int b):=by
 unfold cz;rw[dU sn];exact fT U
theorem C7(a b:Int)(l:AC):hZ (cz a b l) (kL)=some (.ref l):=by
 unfold cz;rw[dU sl,dU nl];exact fT U
theorem Er(a b c:Int)(l:AC):putK (cz a b l) (kS) (.int c)=cz c b l:=by
 unfold cz putK;simp only[List.any_cons,List.any_nil,List.map_cons,List.map_nil,decide_true,Bool.true_or,if_true,if_neg (Ne.symm sn),if_neg (Ne.symm sl)]
theorem xD(a b c:Int)(l:AC):putK (cz a b l) (kN) (.int c)=cz a c l:=by
 unfold cz putK;simp only[List.any_cons,List.any_nil,List.map_cons,List.map_nil,decide_true,Bool.true_or,Bool.or_true,if_true,if_neg sn,if_neg (Ne.symm nl)]
theorem J7(a b:Int)(l:AC):gC [] (cz a b l)=cz a b l:=by
 have e1:putK [] kS (V.int a)=[(kS,V.int a)]:=oP _ qp;have e2:putK [(kS,V.int a)] kN (V.int b)=[(kS,V.int a),(kN,V.int b)]:=oP _ (by rw[dU sn];exact qp);have e3:putK [(kS,V.int a),(kN,V.int b)] kL (V.ref l)=[(kS,V.int a),(kN,V.int b),(kL,V.ref l)]:=oP _ (by rw[dU sl,dU nl];exact qp);unfold gC cz;simp only[List.foldl_cons,List.foldl_nil];rw[e1,e2,e3]
section
variable{H:Hp}{d l:AC}{a b:Int}
theorem qh(h:H d=some (.dK (cz a b l))):iI H d (.str "seed") (some (.int a)):=by
 have q:=iI.k (k:=kS) h;rw[B2] at q;exact q
theorem o6(h:H d=some (.dK (cz a b l))):iI H d (.str "number") (some (.int b)):=by
 have q:=iI.k (k:=kN) h;rw[wR] at q;exact q
theorem vM(h:H d=some (.dK (cz a b l))):iI H d (.str "left") (some (.ref l)):=by
 have q:=iI.k (k:=kL) h;rw[C7] at q;exact q
theorem AB{c:Int}(h:H d=some (.dK (cz a b l))):uX H d (.str "seed") (.int c) (upd H d (.dK (cz c b l))):=by
 have q:=uX.k (k:=kS) (v:=.int c) h (by change 3 < FB;decide);rw[Er] at q;exact q
theorem nA{c:Int}(h:H d=some (.dK (cz a b l))):uX H d (.str "number") (.int c) (upd H d (.dK (cz a c l))):=by
 have q:=uX.k (k:=kN) (v:=.int c) h (by change 3 < FB;decide);rw[xD] at q;exact q
end
structure At(H:Hp)(d l:AC):Prop where
 ex:∃ (a b:Int) (ns:!Int),H d=some (.dK (cz a b l))/\H l=some (.lst (ns.map V.int))/\0<=a/\a < 2147483647/\0<=b/\∀ n∈ns,0<=n
def LK(d l:AC)(H H':Hp):Prop:=∀ c o,H c=some o->c≠d->c≠l->H' c=some o
theorem LK.refl(d l:AC)(H:Hp):LK d l H H:=λ_ _ h _ _=>h
theorem At.ne{H:Hp}{d l:AC}(h:At H d l):d≠l:=by
 let(a,b,ns,h1,h2,r):=h.ex;exact DY h1 h2 (by intro z;cases z)
def xM:Sp:=λvs H Q _=>∃ (d l:AC) (m:Int),vs=[.ref d,.int m]/\At H d l/\0 < m/\m < 9223372036854775808/\∀ (r:Int) (H':Hp),0<=r->r < m->At H' d l->LK d l H H'->Q (.int r) H'
def wW(K:Frag):Sp:=λvs H Q _=>∃ (a:AC) (ns:!Int) (base:Int),vs=[.ref a,.int base]/\dM K H a (ns.map V.int)/\ns.length<=63/\0<=base/\base < 1000000/\∀ (d l:AC) (H':Hp),H d=none->H l=none->At H' d l->cQ H H'->Q (.ref d) H'
section
variable{P:Fr}{w:Fa}{K:Frag}{mg:Str->Option AT}{base:Ev}
def vE:TS :=
 oR (jh (m8 (bO 0) (tC (.str "number"))) (dJ 2))
  (oR (PM (o5 (jw (tD λi j=>.bl (decide (j < i))) (bO 2) (tC (.int 0))))
    (oR (z9 (bO 0) (tC (.str "number")) (jw (rI Ii λi j=>.int (i / j)) (bO 2) (bO 1))) (E9 (jw (rI (λ_ j=>0 < j) λi j=>.int (i % j)) (bO 2) (bO 1)))) Iy)
  (oR (jh (jw (rI (λ_ j=>0 < j) λi j=>.int (i % j)) (jw (tD λi j=>.int (i+j)) (jw (rI tj λi j=>.int (i * j)) (m8 (bO 0) (tC (.str "seed"))) (tC (.int 48271))) (tC (.int 7919))) (tC (.int 2147483647))) (dJ 3))
  (oR (z9 (bO 0) (tC (.str "seed")) (jw (rI (λ_ j=>0 < j) λi j=>.int (i % j)) (jw (tD λi j=>.int (i+j)) (jw (rI tj λi j=>.int (i * j)) (bO 3) (tC (.int 40692))) (tC (.int 104729))) (tC (.int 2147483399))))
  (oR (jh (jw (rI (λ_ j=>0 < j) λi j=>.int (i % j)) (jw (rI tj λi j=>.int (i * j)) (m8 (bO 0) (tC (.str "seed"))) (m8 (bO 0) (tC (.str "seed")))) (tC (.int 2147483563))) (dJ 4))
  (E9 (jw (rI (λ_ j=>0 < j) λi j=>.int (i % j)) (jw (tD λi j=>.int (i+j)) (jw (rI tj λi j=>.int (i * j)) (jw (rI (λ_ j=>0 < j) λi j=>.int (i % j)) (jw (rI tj λi j=>.int (i * j)) (bO 3) (bO 3)) (tC (.int 2147483629))) (tC (.int 2147483563))) (bO 4)) (bO 1)))))))
def NI(K:Frag):TS :=
 oR (Ej (MM (o5 (jw RZ (m8 (bO 0) (tC (.str "number"))) (tC (.int 0)))) (o5 (jw (tD λi j=>.bl (decide (j < i))) (HY (λxs H Q=>∃ p ys,xs=[.ref p]/\(dM K H p ys\/ja K H p ys)/\Q (.int ys.length) H) (lD (m8 (bO 0) (tC (.str "left"))) Ay)) (tC (.int 0)))))
  (z9 (bO 0) (tC (.str "number")) (K3 K "list" K4 (m8 (bO 0) (tC (.str "left")))))) vE
abbrev nL:!Str:=["_law_script","_law_base","_law_some","_law_number","_law_one"]
def Rt:!V->Hp->VK->Prop:=λxs H Q=>∃ i j,xs=[.int i,.int j]/\Q (.int (if j > i then j else i)) H
def Nw(K:Frag):TS :=
 oR (jh (qA 1 [] (zM K (WA (OD K) (bO 0) (C0 (bO 1)) (C0 (tC (.int 63))))) (dJ 0) BA (HY Rt (lD (bO 0) (lD (jw (tD λi j=>.int (i - j)) (tC (.int 0)) (bO 0)) Ay)))) (dJ 2))
 (oR (jh (jw (tD λi j=>.int (i+j)) (tC (.int 7919)) (bO 1)) (dJ 3))
 (oR (MC (zM K (bO 2)) (dJ 4) (jh (jw (rI (λ_ j=>0 < j) λi j=>.int (i % j)) (jw (tD λi j=>.int (i+j)) (jw (rI tj λi j=>.int (i * j)) (bO 3) (tC (.int 48271))) (jw (rI (λ_ j=>0 < j) λi j=>.int (i % j)) (bO 4) (tC (.int 2147483629)))) (tC (.int 2147483647))) (dJ 3)))
 (E9 (Iz [(tC (.str "seed"),bO 3),(tC (.str "number"),tC (.int 0)),(tC (.str "left"),vg K (qA 1 [] (zM K (bO 2)) (dJ 0) (o5 (jw (tD λi j=>.bl (decide (j<=i))) (bO 0) (jw (rI Mz λi j=>.int (i ^ j.toNat)) (tC (.int 10)) (tC (.int 18))))) (bO 0)))]))))
theorem FD(ns:!Int)(lo hi:Option Int):∃ ms:!Int,ph (ns.map V.int) lo hi=ms.map V.int/\ms.length<=ns.length:=by
 show#[(ns.drop (HT.ck ns.length 0 lo)).take (HT.ck ns.length ns.length hi - HT.ck ns.length 0 lo),?_,?_]
 .unfold ph;rw[Zy,<- List.map_drop,<- List.map_take]
 .rw[aak,Z3];cbv
def oj(i:Int):Int:=if 0 - i > i then 0 - i else i
theorem FY(i:Int):0<=oj i:=by
 unfold oj;split<;>cbv
def Ih:V->V
 | .int i=>.int (oj i)
 | v=>v
def KU:V->Bool
 | .int i=>decide ((10:Int) ^ (18:Int).toNat<=i)
 | _=>false
theorem GW{st:Fk}{f:AC}{fd:IR}(F:pJ K "_law_deal" "_law_deal" st f fd)(sc:ar nL ["_law_script","_law_base"] (ag st))(hb:∀ (bp:AT) (A:GE) (outer:!Env) (s:Ch) (H:Hp) (E:XK),nX (jO aV P w K mg base nL "_law_deal" (ag st) f bp A outer s H E).wD (aq st) (Nw K)) :
  br P w K mg base aV 1 f fd ["_law_script","_law_base"] (wW K):=by
 show F.ok sc (λvs H Q E h=>?_) (λbp A outer s H vs Q E hr h=>?_)
 .let(a,ns,bs,rfl,_):=h
  rfl
 .let(a,ns,bs,rfl,hS,hn,hb0,hb1,k):=h;show#[_,hb _ _ _ _ _ _,?_];let(ms,ems,hms):=FD ns (some bs) (some 63);show#[_,U,_,U,_,U,_,U,a,_,U,hS,λp hp=>#[p,U,#[_,dM.of aj],?_]];rw[ems];show jV (xs:=ms.map V.int) (λ_=>true) Ih (dM.of aj) (by rw[Zy];exact ZH (ZH hms hn) ()) () (λx hx H1 k1 q=>q) (λx hx _ H1 k1 q=>?_) (λD hD=>?_)
  .let(i,_,rfl):=Z5.mp hx;exact#[_,U,_,U,_,_,U,U,_,_,U,q]
  .have hD0:H D=none:=(cQ.upd hp).free hD;have e1:((ms.map V.int).filter λ_=>true).map Ih=(ms.map oj).map V.int:=by
    rw[List.filter_eq_self.mpr (by simp),List.map_map,List.map_map]
    rfl
   rw[e1];have s1:cQ H (upd (upd H p (.lst (ms.map V.int))) D (.lst ((ms.map oj).map V.int))):=(cQ.upd hp).trans (cQ.upd hD);generalize hH2:upd (upd H p (.lst (ms.map V.int))) D (.lst ((ms.map oj).map V.int))=H2 at s1;have hD2:H2 D=some (.lst ((ms.map oj).map V.int)):=by rw[<- hH2];exact aj
   -- number=7919+base
   show#[_,U,_,_,U,U,?_]
   -- for
   show#[_,U,D,U,#[_,dM.of hD2],pd (K:=K) (a:=D) (xs:=(ms.map oj).map V.int) (λi O H3=>∃ (n:Int) (v:Option V),O=[some (.ref a),some (.int bs),some (.ref D),some (.int n),v]/\0<=n/\n < 2147483647/\H3=H2)
    #[7919+bs,none,U,by cbv,by cbv,U] (λi O H3 _ #[_,_,_,_,_,e]=>by rw[e];exact dM.of hD2) ?_ ?_]
   .rintro i y O H3 hi ⟨n,v,rfl,h0,h1,rfl⟩;let(j,_,rfl):=Z5.mp (aaA hi);show#[_,U,_,_,U,U,.inr #[by decide,by decide],_,U,_,_,U,U,(by change (0:Int) < 2147483629;decide),_,_,U,U,_,_,U,U,(by change (0:Int) < 2147483647;decide),?_];exact#[_,_,U,aaW _ (),aaT _ (),U]
   .rintro O H3 ⟨n,v,rfl,h0,h1,rfl⟩
    -- the dict
    intro d hd;have hd0:H d=none:=s1.free hd;have hDd:(upd H3 d (.dK [])) D=some (.lst ((ms.map oj).map V.int)):=by rw[ai (au hD2 hd)];exact hD2
    show#[_,U,_,U,D,U,#[_,dM.of hDd],?_];show jV (xs:=(ms.map oj).map V.int) KU id (dM.of hDd) (by rw[Zy,Zy];exact ZH (ZH hms hn) ()) () (λx hx H1 k1 q=>?_) (λx hx _ H1 k1 q=>#[_,U,q]) (λD2 hD2'=>?_)
    .let(i,_,rfl):=Z5.mp hx;exact#[_,U,_,_,U,U,#[by decide,by decide,by decide],_,_,U,U,_,U,q]
    .refine#[D2,_,U,dM.of aj,λl hl=>?_];have ndD2:d≠D2:=au aj hD2';have ndl:d≠l:=au (H:=upd (upd H3 d (.dK [])) D2 _) (by rw[ai ndD2];exact aj) hl;show#[by rw[ai ndl,ai ndD2];exact aj,cz n 0 l,U,(by change 3<=15;decide),?_];rw[J7];have hD20:H D2=none:=(s1.trans (cQ.upd hd)).free hD2';have hl0:H l=none:=((s1.trans (cQ.upd hd)).trans (cQ.upd hD2')).free hl;have e3:∃ ks:!Int,((((ms.map oj).map V.int).filter KU).map id).reverse=ks.map V.int/\∀ n∈ks,0<=n:=by
      show#[((ms.map oj).filter λi=>KU (.int i)).reverse,?_,?_]
      .rw[abA,List.filter_map,List.map_reverse]
       rfl
      .intro n hn';let(i,_,rfl):=Z5.mp (List.mem_filter.mp (abB.mp hn')).1;exact FY i
     let(ks,e3,hks):=e3;rw[e3];show k d l _ hd0 hl0 #[n,0,ks,aj,by rw[ai (Ne.symm ndl)];exact aj,h0,h1,Int.le_refl _,hks] ?_;exact (((s1.trans (cQ.upd hd)).trans (cQ.upd hD2')).NN hl0).NN hd0
end
theorem ju(c:Nat):(#[#v[c]]:Str).length=1:=rfl
theorem cp(x y:Str):(x++y).length=x.length+y.length:=by
 first
  | exact Str.length_append x y
  | (show (x.cps++y.cps).size=x.cps.size+y.cps.size;exact Array.size_append)
theorem join_ones:∀ (cs:!Nat),(Txt.join ("":Str) (cs.map λc=>(#[#v[c]]:Str))).length<=cs.length
 | []=>ZC _
 | [c]=>ZC _
 | c::d::r=>by
  have ih:=join_ones (d::r);have e:(Txt.join ("":Str) ((c::d::r).map λc=>(#[#v[c]]:Str)))=(#[#v[c]]:Str)++("":Str)++Txt.join ("":Str) ((d::r).map λc=>(#[#v[c]]:Str)):=by
   unfold Txt.join;rw[aaU,aaU]
   rfl
  rw[e,cp,cp];have:("":Str).length=0:=rfl;rw[ju];change _<=(d::r).length+1;cbv
theorem vq:∀ (cs:!Nat),((cs.map λc=>(#[#v[c]]:Str)).map (·.length)).sum=cs.length
 | []=>rfl
 | c::r=>by
  rw[ZG,ZG,aaL,vq r,ZJ];have:(#[#v[c]]:Str).length=1:=rfl;cbv
abbrev P9:Str:="abcdefghijklmnopqrstuvwxyz"
def near:!Str:=["lets","asks","maker","tabs","too","news","zeros","casey","madex","defa","num","askedx"]
end cj
namespace DL
open PySem PySem.Spec L2
open PyProof.Rows hiding St
theorem eF{α β γ δ:Type}{P Q R:α->β->γ->δ->Prop}{C:Prop}(h:∃ a b c d,P a b c d/\Q a b c d/\R a b c d)(k:∀ a b c d,P a b c d->Q a b c d->R a b c d->C):C:=by
 let(a,b,c,d,h1,h2,h3):=h;exact k a b c d h1 h2 h3
set_option genInjectivity true in inductive D where
 | bX | bl (b:Bool) | int (i:Int) | str (x:Str) | hJ (a:AC) | ty (n:String)
 | tup (ds:!D) | lst (ds:!D) | DM (ks:!Key) (vs:!D) | EV (ks:!(!Key)) (vs:!D)
 | JM (ks:!(!Key)) (vs:!D)
def Jd(o:Obj)(ts:!AC):Prop:=o.ExactDict/\∃ es ep,o.data=.dict es ep/\es.toList.map (·.key)=ts.map AT.ref
def TupAt(_K:Frag)(H:Hp)(M:AC->Prop)(a:AC)(xs:!V):Prop:=M a/\H a=some (.tup xs)
theorem TupAt.sq{K:Frag}{H:Hp}{M:AC->Prop}{a:AC}{xs:!V}(h:TupAt K H M a xs):ja K H a xs:=.of h.2
section
variable(K:Frag)(H:Hp)(M:AC->Prop)
mutual
noncomputable def Rep:D->V->Prop
 | .bX,v=>v=.bX
 | .bl b,v=>v=.bl b
 | .int i,v=>v=.int i
 | .str x,v=>v=.str x
 | .hJ a,v=>v=.ref a
 | .ty n,v=>v=.ty n
 | .tup ds,v=>∃ a xs,v=.ref a/\TupAt K H M a xs/\av ds xs
 | .lst ds,v=>∃ a xs,v=.ref a/\(M a/\H a=some (.lst xs))/\av ds xs
 | .DM ks vs,v=>∃ (a:AC) (az:!(Key×V)),v=.ref a/\(M a/\H a=some (.dK az))/\az.map (·.1)=ks/\av vs (az.map (·.2))
 | .EV ks vs,v=>∃ (a:AC) (az:!(!Key×V)),v=.ref a/\(M a/\H a=some (.dT az))/\az.map (·.1)=ks/\av vs (az.map (·.2))
 | .JM ks vs,v=>∃ (a:AC) (o:Obj) (az:!(!Key×V)) (ts:!AC),v=.ref a/\(M a/\H a=some (.vi o (.dT az)))/\Jd o ts/\Paired (λk t=>M t/\H t=some (.tup (k.map kV))) ks ts/\az.map (·.1)=ks/\av vs (az.map (·.2))
noncomputable def av:!D->!V->Prop
 | [],xs=>xs=[]
 | d::ds,xs=>∃ x r,xs=x::r/\Rep d x/\av ds r
end
def cx:D->HO->Prop
 | .lst ds,.lst xs=>av K H M ds xs
 | .DM ks vs,.dK az=>az.map (·.1)=ks/\av K H M vs (az.map (·.2))
 | .EV ks vs,.dT az=>az.map (·.1)=ks/\av K H M vs (az.map (·.2))
 | _,_=>False
end
section
variable{K:Frag}{H H':Hp}{M M':AC->Prop}
theorem TupAt.mono(hM:∀ b,M b->M' b)(hH:∀ b o,M b->H b=some o->H' b=some o){a:AC}{xs:!V}(h:TupAt K H M a xs):TupAt K H' M' a xs:=#[hM a h.1,hH a _ h.1 h.2]
mutual
theorem Rep.mono(hM:∀ b,M b->M' b)(hH:∀ b o,M b->H b=some o->H' b=some o):∀ (d:D) (v:V),Rep K H M d v->Rep K H' M' d v
 | .bX,v,h=>h
 | .bl b,v,h=>h
 | .int i,v,h=>h
 | .str x,v,h=>h
 | .hJ a,v,h=>h
 | .ty n,v,h=>h
 | .tup ds,v,h=>by
  let(a,xs,e,t,r):=h;exact#[a,xs,e,t.mono hM hH,av.mono hM hH ds xs r]
 | .lst ds,v,h=>by
  let(a,xs,e,(m,t),r):=h;exact#[a,xs,e,#[hM a m,hH a _ m t],av.mono hM hH ds xs r]
 | .DM ks vs,v,h=>by
  let(a,xs,e,(m,t),k,r):=h;exact#[a,xs,e,#[hM a m,hH a _ m t],k,av.mono hM hH vs _ r]
 | .EV ks vs,v,h=>by
  let(a,xs,e,(m,t),k,r):=h;exact#[a,xs,e,#[hM a m,hH a _ m t],k,av.mono hM hH vs _ r]
 | .JM ks vs,v,h=>by
  let(a,o,xs,ts,e,(m,t),q,p,k,r):=h;exact#[a,o,xs,ts,e,#[hM a m,hH a _ m t],q,L2.Paired.Hb p λk t z=>#[hM t z.1,hH t _ z.1 z.2],k,av.mono hM hH vs _ r]
theorem av.mono(hM:∀ b,M b->M' b)(hH:∀ b o,M b->H b=some o->H' b=some o):∀ (ds:!D) (vs:!V),av K H M ds vs->av K H' M' ds vs
 | [],vs,h=>h
 | d::ds,vs,h=>by
  let(x,r,e,h1,h2):=h;exact#[x,r,e,Rep.mono hM hH d x h1,av.mono hM hH ds r h2]
end
theorem cx.mono(hM:∀ b,M b->M' b)(hH:∀ b o,M b->H b=some o->H' b=some o){d:D}{o:HO}(h:cx K H M d o):cx K H' M' d o:=by
 unfold cx at h ⊢;split at h
 .exact av.mono hM hH _ _ h
 .exact#[h.1,av.mono hM hH _ _ h.2]
 .exact#[h.1,av.mono hM hH _ _ h.2]
 .exact h.elim
theorem av.length:∀ {ds:!D} {vs:!V},av K H M ds vs->vs.length=ds.length
 | [],vs,h=>by
  have h:vs=[]:=h;rw[h];rfl
 | d::ds,vs,h=>by
  let(x,r,e,h1,h2):=h;rw[e,ZJ,ZJ,av.length h2]
theorem av.get:∀ {ds:!D} {vs:!V} {i:Nat} {d:D},av K H M ds vs->ds[i]?=some d->∃ v,vs[i]?=some v/\Rep K H M d v
 | [],vs,i,d,h,e=>by simp at e
 | c::ds,vs,0,d,h,e=>by
  let(x,r,rfl,h1,h2):=h;simp at e;subst e;exact#[x,U,h1]
 | c::ds,vs,i+1,d,h,e=>by
  let(x,r,rfl,h1,h2):=h;let(v,h3,h4):=av.get (i:=i) (d:=d) h2 (by simpa using e);exact#[v,by simpa using h3,h4]
theorem av.Nt:∀ {ds:!D} {vs:!V} {i:Nat} {v:V},av K H M ds vs->vs[i]?=some v->∃ d,ds[i]?=some d/\Rep K H M d v
 | [],vs,i,d,h,e=>by
  have h:vs=[]:=h;rw[h] at e;simp at e
 | c::ds,vs,0,d,h,e=>by
  let(x,r,rfl,h1,h2):=h;simp at e;subst e;exact#[c,U,h1]
 | c::ds,vs,i+1,d,h,e=>by
  let(x,r,rfl,h1,h2):=h;let(v,h3,h4):=av.Nt (i:=i) (v:=d) h2 (by simpa using e);exact#[v,by simpa using h3,h4]
theorem av.append:∀ {ds es:!D} {vs ws:!V},av K H M ds vs->av K H M es ws->av K H M (ds++es) (vs++ws)
 | [],es,vs,ws,h,h'=>by
  have h:vs=[]:=h;rw[h];exact h'
 | d::ds,es,vs,ws,h,h'=>by
  let(x,r,rfl,h1,h2):=h;exact#[x,r++ws,U,h1,av.append h2 h']
theorem av.take:∀ {ds:!D} {vs:!V} (n:Nat),av K H M ds vs->av K H M (ds.take n) (vs.take n)
 | [],vs,n,h=>by
  have h:vs=[]:=h;rw[h];simp[av]
 | d::ds,vs,0,h=>by simp[av]
 | d::ds,vs,n+1,h=>by
  let(x,r,rfl,h1,h2):=h;exact#[x,r.take n,U,h1,av.take n h2]
theorem av.drop:∀ {ds:!D} {vs:!V} (n:Nat),av K H M ds vs->av K H M (ds.drop n) (vs.drop n)
 | [],vs,n,h=>by
  have h:vs=[]:=h;rw[h];simp[av]
 | d::ds,vs,0,h=>h
 | d::ds,vs,n+1,h=>by
  let(x,r,rfl,h1,h2):=h;exact av.drop n h2
theorem av.one{d:D}{v:V}(h:Rep K H M d v):av K H M [d] [v]:=#[v,[],U,h,U]
theorem av.reverse:∀ {ds:!D} {vs:!V},av K H M ds vs->av K H M ds.reverse vs.reverse
 | [],vs,h=>by
  have h:vs=[]:=h;rw[h]
  rfl
 | d::ds,vs,h=>by
  let(x,r,rfl,h1,h2):=h;rw[aba,aba];exact av.append (av.reverse h2) (av.one h1)
theorem av.set{d:D}{v:V}(r:Rep K H M d v):∀ {ds:!D} {vs:!V} (i:Nat),av K H M ds vs->av K H M (ds.set i d) (vs.set i v)
 | [],vs,i,h=>by
  have h:vs=[]:=h;rw[h]
  rfl
 | c::ds,vs,0,h=>by
  let(x,r',rfl,h1,h2):=h;exact#[v,r',U,r,h2]
 | c::ds,vs,i+1,h=>by
  let(x,r',rfl,h1,h2):=h;exact#[x,r'.set i v,U,h1,av.set r i h2]
theorem av.eraseIdx:∀ {ds:!D} {vs:!V} (i:Nat),av K H M ds vs->av K H M (ds.eraseIdx i) (vs.eraseIdx i)
 | [],vs,i,h=>by
  have h:vs=[]:=h;rw[h]
  rfl
 | c::ds,vs,0,h=>by
  let(x,r',rfl,h1,h2):=h;exact h2
 | c::ds,vs,i+1,h=>by
  let(x,r',rfl,h1,h2):=h;exact#[x,r'.eraseIdx i,U,h1,av.eraseIdx i h2]
end
structure Ba where
 own:AC->Prop
 inv:Hp->Prop
 loc:∀ H H',inv H->(∀ b o,(own b\/∃ φ,o=HO.ext φ)->H b=some o->H' b=some o)->inv H'
 Js:∀ H b,inv H->own b->∃ o,H b=some o
 nt:∀ H b xs,inv H->own b->H b≠some (.tup xs)
 kc:!AC:=[]
def Ba.no:Ba:=#[λ_=>False,λ_=>True,λ_ _ _ _=>trivial,λ_ _ _ h=>h.elim,λ_ _ _ _ h=>h.elim,[]]
def Nu(H:Hp)(b:AC):Prop:=H b=none\/∃ xs,H b=some (.tup xs)
def bH(d l:AC):Ba where
 own:=λb=>b=d\/b=l
 inv:=λH=>cj.At H d l
 loc:=λH H' h k=>by
  let(a,b,ns,h1,h2,r):=h.ex;exact#[a,b,ns,k _ _ (.inl (.inl U)) h1,k _ _ (.inl (.inr U)) h2,r]
 Js:=λH b h e=>by
  let(a,_,ns,h1,h2,r):=h.ex;rcases e with rfl | rfl
  .exact#[_,h1]
  .exact#[_,h2]
 nt:=λH b xs h e=>by
  let(a,_,ns,h1,h2,r):=h.ex;rcases e with rfl | rfl
  .rw[h1];intro z;cases z
  .rw[h2];intro z;cases z
structure Ent where
 g:Ba
 M0:AC->Prop
 H0:Hp
structure Base(c:Ent)(M:AC->Prop)(H:Hp):Prop where
 lQ:c.g.inv H
 fr:∀ b o,c.H0 b=some o->¬ c.g.own b->H b=some o
 md:∀ b,M b->∃ o,H b=some o
 mo:∀ b,M b->¬ c.g.own b
 m0:∀ b,c.M0 b->M b
 mn:∀ b,M b->c.M0 b\/Nu c.H0 b
set_option genInjectivity true in inductive Sl where
 | no | dat (d:D) | own (k:Nat)
structure DS where
 sl:!Sl
 os:!(Option D)
def dY(s:DS)(as:!AC)(b:AC):Prop:=∃ (k:Nat) (d:D),s.os[k]?=some (some d)/\as[k]?=some b
structure aB(K:Frag)(c:Ent)(M:AC->Prop)(s:DS)(as:!AC)(O:St)(H:Hp):Prop where
 base:Base c M H
 len:s.sl.length=O.length
 e8:as.length=s.os.length
 dat:∀ (i:Nat) (d:D),s.sl[i]?=some (.dat d)->∃ v,O[i]?=some (some v)/\Rep K H M d v
 own:∀ (i k:Nat),s.sl[i]?=some (.own k)->∃ a,as[k]?=some a/\O[i]?=some (some (.ref a))
 obj:∀ (k:Nat) (d:D) (a:AC),s.os[k]?=some (some d)->as[k]?=some a->(∃ o,H a=some o/\cx K H M d o)/\¬ M a/\¬ c.g.own a/\c.H0 a=none
 inj:∀ (k l:Nat) (d e:D) (a:AC),s.os[k]?=some (some d)->s.os[l]?=some (some e)->as[k]?=some a->as[l]?=some a->k=l
 lt:∀ (k:Nat) (a:AC),c.g.kc[k]?=some a->as[k]?=some a
structure Ext(c:Ent)(as:!AC)(M:AC->Prop)(s:DS)(H:Hp)(M':AC->Prop)(s':DS)(H':Hp):Prop where
 sub:∀ b,M b->M' b
 new:∀ b,M' b->M b\/Nu H b\/dY s as b
 keep:∀ b o,H b=some o->¬ c.g.own b->¬ dY s as b->H' b=some o
 iY:∀ b,dY s' as b->dY s as b
section
variable{K:Frag}{c:Ent}{M M' M1 M2:AC->Prop}{s s' s1 s2:DS}{as:!AC}{O:St}{H H' H1 H2:Hp}{a p:AC}{o:HO}{d:D}{v:V}
theorem aB.nM(L:aB K c M s as O H)(h:dY s as a):¬ M a/\¬ c.g.own a/\c.H0 a=none/\∃ o,H a=some o:=by
 let(k,d,h1,h2):=h;let((o,q,_),q1,q2,q3):=L.obj k d a h1 h2;exact#[q1,q2,q3,o,q]
theorem Base.lI(B:Base c M H)(h:H a=none):c.H0 a=none:=by
 cases e:c.H0 a with
 | none=>rfl
 | some o =>
  exfalso;by_cases q:c.g.own a
  .let(o',h'):=c.g.Js H a B.lQ q;rw[h] at h';cases h'
  .have:=B.fr a o e q;rw[h] at this;cases this
theorem Ext.Ei(E:Ext c as M s H M' s' H')(L:aB K c M s as O H):∀ b o,M b->H b=some o->H' b=some o:=λb o m h =>
 E.keep b o h (L.base.mo b m) λq=>(L.nM q).1 m
theorem Ext.rep(E:Ext c as M s H M' s' H')(L:aB K c M s as O H)(r:Rep K H M d v):Rep K H' M' d v:=Rep.mono E.sub (E.Ei L) d v r
theorem Ext.qN(E:Ext c as M s H M' s' H')(L:aB K c M s as O H){ds:!D}{vs:!V}(r:av K H M ds vs):av K H' M' ds vs:=av.mono E.sub (E.Ei L) ds vs r
theorem Ext.refl:Ext c as M s H M s H:=#[λ_ h=>h,λ_ h=>.inl h,λ_ _ h _ _=>h,λ_ h=>h]
theorem Ext.trans(E1:Ext c as M s H M1 s1 H1)(B1:Base c M1 H1)(E2:Ext c as M1 s1 H1 M2 s2 H2):Ext c as M s H M2 s2 H2 where
 sub:=λb h=>E2.sub b (E1.sub b h)
 new:=λb h=>by
  rcases E2.new b h with h | h | h
  .exact E1.new b h
  .cases q:H b with
   | none=>exact .inr (.inl (.inl q))
   | some o =>
    by_cases g:c.g.own b
    .rcases h with h | ⟨xs,h⟩
     .let(o',h'):=c.g.Js H1 b B1.lQ g;rw[h] at h';cases h'
     .exact absurd h (c.g.nt H1 b xs B1.lQ g)
    .by_cases w:dY s as b
     .exact .inr (.inr w)
     .have:=E1.keep b o q g w;rcases h with h | ⟨xs,h⟩
      .rw[h] at this;cases this
      .rw[h] at this;cases this;exact .inr (.inl (.inr #[xs,q]))
  .exact .inr (.inr (E1.iY b h))
 keep:=λb o h g w=>E2.keep b o (E1.keep b o h g w) g λq=>w (E1.iY b q)
 iY:=λb h=>E1.iY b (E2.iY b h)
theorem aB.laid(L:aB K c M s as O H)(hp:H p=none):aB K c M s as O (upd H p o):=by
 have kp:∀ b u,H b=some u->upd H p o b=some u:=λb u e=>by rw[ai (au e hp)];exact e
 show#[#[c.g.loc H _ L.base.lQ λb u _ e=>kp b u e,λb u e g=>kp b u (L.base.fr b u e g),λb m=>?_,L.base.mo,L.base.m0,L.base.mn],L.len,L.e8,λi d e=>?_,L.own,λk d a e1 e2=>?_,L.inj,L.lt]
 .let(u,e):=L.base.md b m;exact#[u,kp b u e]
 .let(v,h1,h2):=L.dat i d e;exact#[v,h1,Rep.mono (λ_ h=>h) (λb u _ e=>kp b u e) d v h2]
 .let((u,q,r),q1):=L.obj k d a e1 e2;exact#[#[u,kp _ _ q,cx.mono (λ_ h=>h) (λb u _ e=>kp b u e) r],q1]
theorem Ext.laid(hp:H p=none):Ext c as M s H M s (upd H p o):=#[λ_ h=>h,λ_ h=>.inl h,λb u e _ _=>by rw[ai (au e hp)];exact e,λ_ h=>h]
theorem aB.J6(L:aB K c M s as O H)(ha:H a=some o)(g:¬ c.g.own a)(w:¬ dY s as a)(h0:Nu c.H0 a):aB K c (λb=>M b\/b=a) s as O H:=by
 have mk:∀ b u,M b->H b=some u->H b=some u:=λ_ _ _ e=>e;show#[#[L.base.lQ,L.base.fr,λb m=>?_,λb m=>?_,λb m=>.inl (L.base.m0 b m),λb m=>?_],L.len,L.e8,λi d e=>?_,L.own,λk d b e1 e2=>?_,L.inj,L.lt]
 .rcases m with m | rfl
  .exact L.base.md b m
  .exact#[o,ha]
 .rcases m with m | rfl
  .exact L.base.mo b m
  .exact g
 .rcases m with m | rfl
  .exact L.base.mn b m
  .exact .inr h0
 .let(v,h1,h2):=L.dat i d e;exact#[v,h1,Rep.mono (λ_ h=>.inl h) mk d v h2]
 .let((u,q,r),q1,q2):=L.obj k d b e1 e2;show#[#[u,q,cx.mono (λ_ h=>.inl h) mk r],λm=>?_,q2];rcases m with m | rfl
  .exact q1 m
  .exact w #[k,d,e1,e2]
theorem aB.grown(L:aB K c M s as O H)(ha:H a=some o)(g:¬ c.g.own a)(w:¬ dY s as a)(h0:c.H0 a=none):aB K c (λb=>M b\/b=a) s as O H:=L.J6 ha g w (.inl h0)
theorem cx.FZ{xs:!V}(h:cx K H M d (.tup xs)):False:=by cases d<;>exact h
theorem cx.next{φ:Ev->Prop}(h:cx K H M d (.ext φ)):False:=by cases d<;>exact h
theorem aB.fresh(L:aB K c M s as O H)(hp:H p=none):aB K c (λb=>M b\/b=p) s as O (upd H p o):=by
 show (L.laid (o:=o) hp).grown aj (λg=>?_) (λw=>?_) (L.base.lI hp)
 .let(u,e):=c.g.Js H p L.base.lQ g;rw[hp] at e;cases e
 .let(_,_,_,u,e):=L.nM w;rw[hp] at e;cases e
theorem Ext.fresh(hp:H p=none):Ext c as M s H (λb=>M b\/b=p) s (upd H p o):=#[λ_ h=>.inl h,λb h=>by
 rcases h with h | rfl
 .exact .inl h
 .exact .inr (.inl (.inl hp)),λb u e _ _=>by rw[ai (au e hp)];exact e,λ_ h=>h]
theorem DR(hp:H p=none)(r:Rep K H M d v):Rep K (upd H p o) (λb=>M b\/b=p) d v:=Rep.mono (λ_ h=>.inl h) (λb u _ e=>by rw[ai (au e hp)];exact e) d v r
theorem oG(hp:H p=none){ds:!D}{vs:!V}(r:av K H M ds vs):av K (upd H p o) (λb=>M b\/b=p) ds vs:=av.mono (λ_ h=>.inl h) (λb u _ e=>by rw[ai (au e hp)];exact e) ds vs r
theorem cx.rep(h:cx K H M d o)(ha:H a=some o)(m:M a):Rep K H M d (.ref a):=by
 unfold cx at h;split at h
 .exact#[a,_,U,#[m,ha],h]
 .exact#[a,_,U,#[m,ha],h.1,h.2]
 .exact#[a,_,U,#[m,ha],h.1,h.2]
 .exact h.elim
end
abbrev bA:=DS->(D->DS->Prop)->Prop
abbrev nK:=DS->(Bool->DS->Prop)->Prop
abbrev eQ:=DS->(!D->DS->Prop)->Prop
structure gD where
 nx:DS->Prop
 rt:D->Prop
 rf:D->Prop:=λ_=>False
 bk:DS->Prop:=λ_=>False
 ct:DS->Prop:=λ_=>False
 rs:D->DS->Prop:=λ_ _=>False
abbrev jX:=gD->DS->Prop
section
variable(K:Frag)(c:Ent)
def tE(t:bA):TE:=λO H Q=>∃ M s as R,aB K c M s as O H/\t s R/\∀ d s',R d s'->∀ M' H' v,aB K c M' s' as O H'->Ext c as M s H M' s' H'->Rep K H' M' d v->Q v H'
def tN(t:bA):TE:=λO H Q=>∃ M s as R,aB K c M s as O H/\t s R/\∀ d s',R d s'->∀ M' H' a o,aB K c M' s' as O H'->Ext c as M s H M' s' H'->H' a=some o->cx K H' M' d o->¬ M' a->¬ c.g.own a->¬ dY s' as a->c.H0 a=none->(H a=none\/dY s as a)->Q (.ref a) H'
def tT(t:nK):TT:=λO H Q=>∃ M s as R,aB K c M s as O H/\t s R/\∀ b s',R b s'->∀ M' H',aB K c M' s' as O H'->Ext c as M s H M' s' H'->Q b H'
def tA(n:Nat)(t:eQ):TA:=λO H Q=>∃ M s as R,aB K c M s as O H/\t s R/\∀ ds s',R ds s'->∀ M' H' vs,aB K c M' s' as O H'->Ext c as M s H M' s' H'->av K H' M' ds vs->ds.length=n->Q vs H'
def eC(M:AC->Prop)(H:Hp)(M':AC->Prop)(H':Hp):Prop:=∀ b,M b->M' b/\∀ o,H b=some o->H' b=some o
structure we(M:AC->Prop)(H:Hp)(R:gD)(E:Ends):Prop where
 nx:∀ s as M' O H',R.nx s->aB K c M' s as O H'->eC M H M' H'->E.nx O H'
 bk:∀ s as M' O H',R.bk s->aB K c M' s as O H'->eC M H M' H'->E.bk O H'
 ct:∀ s as M' O H',R.ct s->aB K c M' s as O H'->eC M H M' H'->E.ct O H'
 rt:∀ d M' H' v,R.rt d->Base c M' H'->Rep K H' M' d v->E.rt v H'
 rf:∀ d M' H' a o,R.rf d->Base c M' H'->H' a=some o->cx K H' M' d o->¬ M' a->¬ c.g.own a->c.H0 a=none->E.rt (.ref a) H'
 rs:∀ d s as M' O H' v,R.rs d s->aB K c M' s as O H'->Rep K H' M' d v->E.rt v H'
def tS(t:jX):TS:=λE O H=>∃ M s as R,aB K c M s as O H/\t R s/\we K c M H R E
end
structure DE(X:Cx)(c:Ent)(e:Da)(t:bA):Prop where
 pe:PE X e (tE X.K c t)
structure DN(X:Cx)(c:Ent)(e:Da)(t:bA):Prop where
 pe:PE X e (tN X.K c t)
structure DT(X:Cx)(c:Ent)(e:Da)(t:nK):Prop where
 pt:PT X e (tT X.K c t)
structure DW(X:Cx)(c:Ent)(e:Da)(t:nK):Prop where
 pw:PW X e (tT X.K c t)
structure DA(X:Cx)(c:Ent)(es:!Da)(t:eQ):Prop where
 pa:PA X es (tA X.K c es.length t)
structure qH(X:Cx)(c:Ent)(st:Fk)(t:jX):Prop where
 ps:PS X st (tS X.K c t)
structure vW(X:Cx)(c:Ent)(st:!Fk)(t:jX):Prop where
 ps:nX X st (tS X.K c t)
section
variable{X:Cx}
theorem _root_.L2.PE.imp{e:Da}{t t':TE}(h:PE X e t)(w:∀ O H Q,t' O H Q->t O H Q):PE X e t':=λTl s O H Q I q=>h Tl s O H Q I (w O H Q q)
theorem _root_.L2.PT.imp{e:Da}{t t':TT}(h:PT X e t)(w:∀ O H Q,t' O H Q->t O H Q):PT X e t':=λTl s O H Q I q=>h Tl s O H Q I (w O H Q q)
theorem _root_.L2.PW.imp{e:Da}{t t':TT}(h:PW X e t)(w:∀ O H Q,t' O H Q->t O H Q):PW X e t':=λwh Tl s O H Q I q=>h wh Tl s O H Q I (w O H Q q)
theorem _root_.L2.PA.imp{es:!Da}{t t':TA}(h:PA X es t)(w:∀ O H Q,t' O H Q->t O H Q):PA X es t':=λpos Tl s O H Q I q=>h pos Tl s O H Q I (w O H Q q)
theorem _root_.L2.PS.imp{st:Fk}{t t':TS}(h:PS X st t)(w:∀ E O H,t' E O H->t E O H):PS X st t':=λTl s O H E I q=>h Tl s O H E I (w E O H q)
theorem _root_.L2.nX.imp{st:!Fk}{t t':TS}(h:nX X st t)(w:∀ E O H,t' E O H->t E O H):nX X st t':=λTl s O H E I q=>h Tl s O H E I (w E O H q)
end
section
variable{X:Cx}{c:Ent}{a b e:Da}{es:!Da}{ta tb te:bA}{t:eQ}{pos:Pos}
theorem Ext.plus{as:!AC}{M M':AC->Prop}{s s':DS}{H H':Hp}{a:AC}(E:Ext c as M s H M' s' H')(n:H a=none\/dY s as a):Ext c as M s H (λb=>M' b\/b=a) s' H' :=
 #[λb h=>.inl (E.sub b h),λb h=>by
  rcases h with h | rfl
  .exact E.new b h
  .exact .inr (n.imp .inl id),E.keep,E.iY]
theorem DN.de(h:DN X c e te):DE X c e te:=#[h.pe.imp λO H Q zz=>eF zz λM s as R L q k =>
 #[M,s,as,R,L,q,λd s' r M' H' a o L' E ha ro nm ng nw h0 hn =>
  k d s' r _ H' (.ref a) (L'.grown ha ng nw h0) (E.plus hn) ((ro.mono (λ_ h=>.inl h) λ_ _ _ e=>e).rep ha (.inr U))]]
def MG(i:Nat):bA:=λs Q=>∃ d,s.sl[i]?=some (.dat d)/\Q d s
theorem dv{i:Nat}(h:PE X e (bO i)):DE X c e (MG i):=#[h.imp λO H Q z6q=>by
 let(M,s,as,R,L,(d,e,q),k):=z6q;let(v,h1,h2):=L.dat i d e;exact#[v,h1,k d s q M H v L .refl h2]]
def uu(d:D):bA:=λs Q=>Q d s
def Rv:D->V->Prop
 | .bX,v=>v=.bX
 | .bl b,v=>v=.bl b
 | .int i,v=>v=.int i
 | .str x,v=>v=.str x
 | .hJ a,v=>v=.ref a
 | .ty n,v=>v=.ty n
 | _,_=>False
theorem Rv.rep{d:D}{v:V}{K:Frag}{H:Hp}{M:AC->Prop}(h:Rv d v):Rep K H M d v:=by
 cases d<;>first | exact h | exact h.elim
theorem dc{d:D}{v:V}(h:PE X e (tC v))(r:Rv d v):DE X c e (uu d):=#[h.imp λO H Q zz=>eF zz λM s as R L q k=>k d s q M H v L .refl r.rep]
theorem ao{i j}:DE X c (.Constant (.int i) j pos) (uu (.int i)):=dc bg U
theorem GH{i j}:DE X c (.Constant (.bool i) j pos) (uu (.bl i)):=dc Cn U
theorem gh{j}:DE X c (.Constant .none j pos) (uu .bX):=dc Jb U
theorem ah{i j}:DE X c (.Constant (.str i) j pos) (uu (.str i)):=dc bP U
def B9:eQ:=λs Q=>Q [] s
def mP(ta:bA)(tr:eQ):eQ:=λs Q=>ta s λd s1=>tr s1 λds s2=>Q (d::ds) s2
theorem ae:DA X c [] B9:=#[aM.imp λO H Q zz=>eF zz λM s as R L q k=>k [] s q M H [] L .refl U U]
theorem aa(ha:DE X c e te)(hr:DA X c es t)(hs:(abN X.env e es)⁻¹):DA X c (e::es) (mP te t) :=
 #[(ax ha.pe hr.pa hs).imp λO H Q zz=>eF zz λM s as R L q k =>
   #[M,s,as,_,L,q,λd s1 q1 M1 H1 x L1 E1 r1=>#[M1,s1,as,_,L1,q1,λds s2 q2 M2 H2 xs Lb E2 r2 hl =>
    k _ s2 q2 M2 H2 _ Lb (E1.trans L1.base E2) #[x,xs,U,E2.rep L1 r1,r2] (by rw[ZJ,ZJ,hl])]]]
def ND(t:eQ):bA:=λs Q=>t s λds s1=>Q (.tup ds) s1
def HZ(t:eQ):bA:=λs Q=>t s λds s1=>Q (.lst ds) s1
theorem QU{n:Nat}(h:(n<=1000:Bool)=true):n<=FB:=ZH (of_decide_eq_true h) ()
theorem bZ{x1}(h:DA X c es t)(hn:((es.length<=1000:Bool)=true)⁻¹):DE X c (.Tuple es x1 pos) (ND t):=#[(Ex h.pa).imp λO H Q zz=>eF zz λM s as R L q k =>
 #[M,s,as,_,L,q,λds s1 q1 M1 H1 xs L1 E1 r1 hl=>#[by rw[r1.length,hl];exact QU hn,λp hp =>
  k _ s1 q1 _ _ _ (L1.fresh hp) (E1.trans L1.base (Ext.fresh hp)) #[p,xs,U,#[.inr U,aj],oG hp r1]]]]
theorem notM{K:Frag}{M:AC->Prop}{s:DS}{as:!AC}{O:St}{H:Hp}{p:AC}(L:aB K c M s as O H)(hp:H p=none):¬ M p/\¬ c.g.own p/\¬ dY s as p/\c.H0 p=none:=by
 show#[λm=>?_,λg=>?_,λw=>?_,L.base.lI hp]
 .let(u,e):=L.base.md p m;rw[hp] at e;cases e
 .let(u,e):=c.g.Js H p L.base.lQ g;rw[hp] at e;cases e
 .let(_,_,_,u,e):=L.nM w;rw[hp] at e;cases e
theorem mX{K:Frag}{as:!AC}{M M1:AC->Prop}{s s1:DS}{O:St}{H H1:Hp}{p:AC}{o:HO}{Q:VK}{d:D}(L:aB K c M s as O H)(L1:aB K c M1 s1 as O H1)(E1:Ext c as M s H M1 s1 H1)(hp:H1 p=none)(r:cx K H1 M1 d o)(k:∀ M' H' a o,aB K c M' s1 as O H'->Ext c as M s H M' s1 H'->H' a=some o->cx K H' M' d o->¬ M' a->¬ c.g.own a->¬ dY s1 as a->c.H0 a=none->(H a=none\/dY s as a)->Q (.ref a) H'):Q (.ref p) (upd H1 p o):=by
 let(n1,n2,n3,n4):=notM L1 hp;show k M1 (upd H1 p o) p o (L1.laid hp) (E1.trans L1.base (Ext.laid hp)) aj (r.mono (λ_ h=>h) λb u _ e=>by rw[ai (au e hp)];exact e) n1 n2 n3 n4 ?_;cases q:H p with
 | none=>exact .inl U
 | some u =>
  by_cases w:dY s as p
  .exact .inr w
  .have:=E1.keep p u q n2 w;rw[hp] at this;cases this
theorem aL(h:DA X c es t)(hn:((es.length<=1000:Bool)=true)⁻¹):DN X c (.List es pos) (HZ t):=#[(j8 h.pa).imp λO H Q zz=>eF zz λM s as R L q k =>
 #[M,s,as,_,L,q,λds s1 q1 M1 H1 xs L1 E1 r1 hl=>#[by rw[r1.length,hl];exact QU hn,λp hp =>
  mX L L1 E1 hp (d:=.lst ds) r1 (k _ s1 q1)]]]
def XQ(C:D->(D->Prop)->Prop)(ta:bA):bA:=λs Q=>ta s λa s1=>C a λd=>Q d s1
def ER(C:D->D->(D->Prop)->Prop)(ta tb:bA):bA:=λs Q=>ta s λa s1=>tb s1 λb s2=>C a b λd=>Q d s2
def qI(X:Cx)(c:Ent)(r:R2)(C:D->D->(D->Prop)->Prop):Prop:=∀ (M:AC->Prop) (s:DS) (as:!AC) (O:St) (H:Hp) (x y:V) (dx dy:D) (k:D->Prop) (Q:VK),aB X.K c M s as O H->Rep X.K H M dx x->Rep X.K H M dy y->C dx dy k ->
 (∀ d,k d->∀ M' H' v,aB X.K c M' s as O H'->Ext c as M s H M' s H'->Rep X.K H' M' d v->Q v H')->r x y H Q
def Kw(X:Cx)(c:Ent)(r:R2)(C:D->D->(D->Prop)->Prop):Prop:=∀ (M:AC->Prop) (s:DS) (as:!AC) (O:St) (H:Hp) (x y:V) (dx dy:D) (k:D->Prop) (Q:VK),aB X.K c M s as O H->Rep X.K H M dx x->Rep X.K H M dy y->C dx dy k ->
 (∀ d,k d->∀ p o,H p=none->cx X.K H M d o->Q (.ref p) (upd H p o))->r x y H Q
theorem GR{r:R2}{C:D->D->(D->Prop)->Prop}(k:qI X c r C){O:St}{H:Hp}{Q:VK}:tE X.K c (ER C ta tb) O H Q->jw r (tE X.K c ta) (tE X.K c tb) O H Q:=λzz=>eF zz λM s as R L q kk =>
 #[M,s,as,_,L,q,λda s1 q1 M1 H1 x L1 E1 r1=>#[M1,s1,as,_,L1,q1,λdb s2 q2 M2 H2 y Lb E2 r2 =>
  k M2 s2 as O H2 x y da db (λd=>R d s2) Q Lb (E2.rep L1 r1) r2 q2 λd rd M' H' v L' E' rv=>kk d s2 rd M' H' v L' ((E1.trans L1.base E2).trans Lb.base E') rv]]
theorem Tt{r:R2}{C:D->D->(D->Prop)->Prop}(k:Kw X c r C){O:St}{H:Hp}{Q:VK}:tN X.K c (ER C ta tb) O H Q->jw r (tE X.K c ta) (tE X.K c tb) O H Q:=λzz=>eF zz λM s as R L q kk =>
 #[M,s,as,_,L,q,λda s1 q1 M1 H1 x L1 E1 r1=>#[M1,s1,as,_,L1,q1,λdb s2 q2 M2 H2 y Lb E2 r2 =>
  k M2 s2 as O H2 x y da db (λd=>R d s2) Q Lb (E2.rep L1 r1) r2 q2 λd rd p o hp ro=>mX L Lb (E1.trans L1.base E2) hp ro (kk d s2 rd)]]
theorem bR{op:Operator}{r:R2}{C:D->D->(D->Prop)->Prop}(ho:iA X (P3 op) r)(k:qI X c r C)(ha:DE X c a ta)(hb:DE X c b tb):DE X c (.BinOp a op b pos) (ER C ta tb):=#[(cH ho ha.pe hb.pe).imp λ_ _ _=>GR k]
theorem bJ{op:Operator}{r:R2}{C:D->D->(D->Prop)->Prop}(ho:iA X (P3 op) r)(k:Kw X c r C)(ha:DE X c a ta)(hb:DE X c b tb):DN X c (.BinOp a op b pos) (ER C ta tb):=#[(cH ho ha.pe hb.pe).imp λ_ _ _=>Tt k]
theorem dH{op:CmpOp}{r:R2}{C:D->D->(D->Prop)->Prop}(ho:iA X (PP op) r)(k:qI X c r C)(ha:DE X c a ta)(hb:DE X c b tb)(hm:behindInMarks op b=false):DE X c (.Compare a [op] [b] pos) (ER C ta tb):=#[(jy ho ha.pe hb.pe hm).imp λ_ _ _=>GR k]
theorem xX{r:R2}{C:D->D->(D->Prop)->Prop}(ho:LW X r)(k:qI X c r C)(ha:DE X c a ta)(hb:DE X c b tb)(hs:oA b):DE X c (.Subscript a b pos) (ER C ta tb):=#[(nH ho ha.pe hb.pe hs).imp λ_ _ _=>GR k]
def PJ(t:bA):nK:=λs Q=>t s λd s1=>∃ k,d=.bl k/\Q k s1
theorem tZ{t:bA}{t':TE}(h:∀ {O H Q},tE X.K c t O H Q->t' O H Q){O:St}{H:Hp}{Q:Bool->Hp->Prop}:tT X.K c (PJ t) O H Q->o5 t' O H Q:=λzz=>eF zz λM s as R L q kk =>
 h #[M,s,as,_,L,q,λd s1 z3r M' H' v L' E' rv=>by
  let(k,e,r):=z3r;subst e;exact#[k,rv,kk k s1 r M' H' L' E']]
theorem aH{op:CmpOp}{r:R2}{C:D->D->(D->Prop)->Prop}(ho:iA X (PP op) r)(k:qI X c r C)(ha:DE X c a ta)(hb:DE X c b tb)(hm:behindInMarks op b=false):DT X c (.Compare a [op] [b] pos) (PJ (ER C ta tb)) :=
 #[(hU ho ha.pe hb.pe hm).imp λ_ _ _=>tZ (GR k)]
theorem d5(h:DE X c e te)(he:∀ whole,isTrue e X.env whole=(do let v <- whole;standAt e.pos;holding [v] (truthy v)):=by intro _;rfl):DT X c e (PJ te):=#[(ED h.pe he).imp λ_ _ _=>tZ λq=>q]
def ME(t:nK):nK:=λs Q=>t s λb s1=>Q (not b) s1
theorem xG{t:nK}(h:DT X c e t):DT X c (.UnaryOp .Not e pos) (ME t):=#[(xO h.pt).imp λO H Q zz=>eF zz λM s as R L q k=>#[M,s,as,_,L,q,λb s1 r M' H' L' E'=>k _ s1 r M' H' L' E']]
def OY(t u:nK):nK:=λs Q=>t s λb s1=>if b=true then u s1 Q else Q false s1
def torD(t u:nK):nK:=λs Q=>t s λb s1=>if b=true then Q true s1 else u s1 Q
theorem DW.dt{t:nK}(h:DW X c e t):DT X c e t:=#[h.pw.pt]
section
variable{tA tB:nK}{rest:!Da}
theorem jG(h:DT X c a tA):DW X c (.BoolOp .And [a] pos) tA:=#[pw_and1 h.pt]
theorem ka(h:DT X c a tA):DW X c (.BoolOp .Or [a] pos) tA:=#[pw_or1 h.pt]
theorem mW(ha:DT X c a tA)(hb:DW X c (.BoolOp .And (b::rest) pos) tB):DW X c (.BoolOp .And (a::b::rest) pos) (OY tA tB):=#[(pw_and ha.pt hb.pw).imp λO H Q zz=>eF zz λM s as R L q k =>
 #[M,s,as,_,L,q,λx s1 r M1 H1 L1 E1=>by
  cases x with
  | true=>exact oi #[M1,s1,as,_,L1,(by simpa using r),λy s2 r2 M2 H2 Lb E2=>k y s2 r2 M2 H2 Lb (E1.trans L1.base E2)]
  | false=>exact ue (k false s1 (by simpa using r) M1 H1 L1 E1)]]
theorem iL(ha:DT X c a tA)(hb:DW X c (.BoolOp .Or (b::rest) pos) tB):DW X c (.BoolOp .Or (a::b::rest) pos) (torD tA tB):=#[(pw_or ha.pt hb.pw).imp λO H Q zz=>eF zz λM s as R L q k =>
 #[M,s,as,_,L,q,λx s1 r M1 H1 L1 E1=>by
  cases x with
  | true=>exact oi (k true s1 (by simpa using r) M1 H1 L1 E1)
  | false=>exact ue #[M1,s1,as,_,L1,(by simpa using r),λy s2 r2 M2 H2 Lb E2=>k y s2 r2 M2 H2 Lb (E1.trans L1.base E2)]]]
def Ny(ta tb:bA):bA:=λs Q=>ta s λx s1=>∃ k,x=.bl k/\if k=true then tb s1 Q else Q (.bl false) s1
def torV(ta tb:bA):bA:=λs Q=>ta s λx s1=>∃ k,x=.bl k/\if k=true then Q (.bl true) s1 else tb s1 Q
def OE(ta:bA):bA:=λs Q=>ta s λx s1=>∃ k,x=.bl k/\Q (.bl (not k)) s1
theorem jZ{op}(h:DE X c a ta):DE X c (.BoolOp op [a] pos) ta:=#[ur h.pe]
theorem iK(ha:DE X c a ta)(hb:DE X c (.BoolOp .And (b::rest) pos) tb):DE X c (.BoolOp .And (a::b::rest) pos) (Ny ta tb):=#[(xT ha.pe hb.pe).imp λO H Q zz=>eF zz λM s as R L q k =>
 #[M,s,as,_,L,q,λx s1 z4r M1 H1 v L1 E1 rv=>by
  let(b,e,r):=z4r;subst e;show#[b,rv,?_];cases b with
  | true=>exact oi #[M1,s1,as,_,L1,(by simpa using r),λy s2 r2 M2 H2 w Lb E2 rw=>k y s2 r2 M2 H2 w Lb (E1.trans L1.base E2) rw]
  | false=>exact ue (k (.bl false) s1 (by simpa using r) M1 H1 _ L1 E1 U)]]
theorem O0(ha:DE X c a ta)(hb:DE X c (.BoolOp .Or (b::rest) pos) tb):DE X c (.BoolOp .Or (a::b::rest) pos) (torV ta tb):=#[(IC ha.pe hb.pe).imp λO H Q zz=>eF zz λM s as R L q k =>
 #[M,s,as,_,L,q,λx s1 z5r M1 H1 v L1 E1 rv=>by
  let(b,e,r):=z5r;subst e;show#[b,rv,?_];cases b with
  | true=>exact oi (k (.bl true) s1 (by simpa using r) M1 H1 _ L1 E1 U)
  | false=>exact ue #[M1,s1,as,_,L1,(by simpa using r),λy s2 r2 M2 H2 w Lb E2 rw=>k y s2 r2 M2 H2 w Lb (E1.trans L1.base E2) rw]]]
theorem OL(ha:DE X c a ta):DE X c (.UnaryOp .Not a pos) (OE ta):=#[(Lg ha.pe).imp λO H Q zz=>eF zz λM s as R L q k =>
 #[M,s,as,_,L,q,λx s1 z6r M1 H1 v L1 E1 rv=>by
  let(b,e,r):=z6r;subst e;exact#[b,rv,k _ s1 r M1 H1 _ L1 E1 U]]]
end
end
section
variable{K:Frag}{c:Ent}{M M' M1:AC->Prop}{s s' s1:DS}{as:!AC}{O:St}{H H' H1:Hp}{a p:AC}{o:HO}{d:D}{v:V}
theorem eC.refl:eC M H M H:=λb m=>#[m,λ_ e=>e]
theorem eC.trans{M2:AC->Prop}{H2:Hp}(g1:eC M H M1 H1)(g2:eC M1 H1 M2 H2):eC M H M2 H2:=λb m=>#[(g2 b (g1 b m).1).1,λo e=>(g2 b (g1 b m).1).2 o ((g1 b m).2 o e)]
theorem Ext.grow(E:Ext c as M s H M' s' H')(L:aB K c M s as O H):eC M H M' H':=λb m=>#[E.sub b m,λo e=>E.Ei L b o m e]
theorem eC.qN(G:eC M H M' H'){ds:!D}{vs:!V}(r:av K H M ds vs):av K H' M' ds vs:=av.mono (λb m=>(G b m).1) (λb o m e=>(G b m).2 o e) ds vs r
theorem we.grow{R:gD}{E:Ends}(k:we K c M H R E)(G:eC M H M1 H1):we K c M1 H1 R E :=
 #[λs as M' O H' r L g=>k.nx s as M' O H' r L (G.trans g),λs as M' O H' r L g=>k.bk s as M' O H' r L (G.trans g),λs as M' O H' r L g=>k.ct s as M' O H' r L (G.trans g),k.rt,k.rf,k.rs]
def DS.set(s:DS)(i:Nat)(x:Sl):DS:=#[s.sl.set i x,s.os]
def DS.put(s:DS)(k:Nat)(d:D):DS:=#[s.sl,s.os.set k (some d)]
theorem bG{α:Type}{l:!α}{i j:Nat}{x y:α}(h:(l.set i x)[j]?=some y):(i=j/\j < l.length/\y=x)\/(i≠j/\l[j]?=some y):=by
 by_cases e:i=j
 .subst e;by_cases hl:i < l.length
  .rw[aae hl] at h;exact .inl #[U,hl,(Z7 h).symm]
  .rw[List.getElem?_eq_none (by rw[aab];cbv)] at h;cases h
 .rw[ZU e] at h;exact .inr #[e,h]
theorem aB.JW(L:aB K c M s as O H)(i:Nat)(r:Rep K H M d v):aB K c M (s.set i (.dat d)) as (O.set i (some v)) H where
 base:=L.base
 len:=by change (s.sl.set i _).length=_;rw[aab,aab];exact L.len
 e8:=L.e8
 dat:=λj e h=>by
  rcases bG h with ⟨rfl,hl,q⟩ | ⟨ne,q⟩
  .cases q;exact#[v,aae (by rw[<- L.len];exact hl),r]
  .let(w,h1,h2):=L.dat j e q;exact#[w,by rw[ZU ne];exact h1,h2]
 own:=λj k h=>by
  rcases bG h with ⟨rfl,hl,q⟩ | ⟨ne,q⟩
  .cases q
  .let(w,h1,h2):=L.own j k q;exact#[w,h1,by rw[ZU ne];exact h2]
 obj:=L.obj
 inj:=L.inj
 lt:=L.lt
def noRef(k:Nat):Nat->!Sl->Bool
 | _,[]=>true
 | 0,_::r=>noRef k (r.length+1) r
 | i+1,.own j::r=>(j != k)&&noRef k i r
 | i+1,_::r=>noRef k i r
theorem rp{k:Nat}:∀ {l:!Sl} {i j:Nat},l.length<=i->noRef k i l=true->l[j]?≠some (.own k)
 | [],i,j,hl,h,e=>by simp at e
 | x::r,0,j,hl,h,e=>by simp at hl
 | x::r,i+1,0,hl,h,e=>by
  simp at e;subst e;simp[noRef] at h
 | x::r,i+1,j+1,hl,h,e=>by
  show rp (l:=r) (i:=i) (j:=j) (by simpa using hl) ?_ (by simpa using e);cases x with
  | own q=>simp[noRef] at h;exact h.2
  | no=>exact h
  | dat q=>exact h
theorem wm{k:Nat}:∀ {l:!Sl} {i j:Nat},noRef k i l=true->i≠j->l[j]?≠some (.own k)
 | [],i,j,h,ne,e=>by simp at e
 | x::r,0,0,h,ne,e=>ne U
 | x::r,0,j+1,h,ne,e=>by
  have e':r[j]?=some (.own k):=by simpa using e
  exact rp (l:=r) (i:=r.length+1) (by cbv) h e'
 | x::r,i+1,0,h,ne,e=>by
  simp at e;subst e;simp[noRef] at h
 | x::r,i+1,j+1,h,ne,e=>by
  show wm (l:=r) (i:=i) (j:=j) ?_ (by cbv) (by simpa using e);cases x with
  | own q=>simp[noRef] at h;exact h.2
  | no=>exact h
  | dat q=>exact h
theorem aB.Ue(L:aB K c M s as O H)(i k:Nat)(hk:k < s.os.length)(nr:noRef k i s.sl=true)(ha:H a=some o)(r:cx K H M d o)(nm:¬ M a)(ng:¬ c.g.own a)(nw:¬ dY s as a)(h0:c.H0 a=none)(lK:c.g.kc.length<=k) :
  aB K c M #[s.sl.set i (.own k),s.os.set k (some d)] (as.set k a) (O.set i (some (.ref a))) H where
 base:=L.base
 len:=by change (s.sl.set i _).length=_;rw[aab,aab];exact L.len
 e8:=by change (as.set k a).length=(s.os.set k _).length;rw[aab,aab];exact L.e8
 dat:=λj e h=>by
  rcases bG h with ⟨rfl,hl,q⟩ | ⟨ne,q⟩
  .cases q
  .let(w,h1,h2):=L.dat j e q;exact#[w,by rw[ZU ne];exact h1,h2]
 own:=λj l h=>by
  rcases bG h with ⟨rfl,hl,q⟩ | ⟨ne,q⟩
  .cases q;exact#[a,aae (by rw[L.e8];exact hk),aae (by rw[<- L.len];exact hl)]
  .let(w,h1,h2):=L.own j l q;show#[w,?_,by rw[ZU ne];exact h2];have:k≠l:=λz=>by
    subst z;exact wm nr ne q
   rw[ZU this];exact h1
 obj:=λl e b h1 h2=>by
  rcases bG h1 with ⟨rfl,hl,q⟩ | ⟨ne,q⟩
  .cases q;rw[aae (by rw[L.e8];exact hl)] at h2;cases h2;exact#[#[o,ha,r],nm,ng,h0]
  .rw[ZU ne] at h2;exact L.obj l e b q h2
 inj:=λl m e f b h1 h2 g1 g2=>by
  rcases bG h1 with ⟨rfl,hl,q⟩ | ⟨ne,q⟩
  .rcases bG h2 with ⟨rfl,hl',q'⟩ | ⟨ne',q'⟩
   .rfl
   .rw[aae (by rw[L.e8];exact hl)] at g1;cases g1;rw[ZU ne'] at g2;exact absurd #[m,f,q',g2] nw
  .rcases bG h2 with ⟨rfl,hl',q'⟩ | ⟨ne',q'⟩
   .rw[aae (by rw[L.e8];exact hl')] at g2;cases g2;rw[ZU ne] at g1;exact absurd #[l,e,q,g1] nw
   .rw[ZU ne] at g1;rw[ZU ne'] at g2;exact L.inj l m e f b q q' g1 g2
 lt:=λl b h=>by
  have h1:=L.lt l b h;have hl:l < c.g.kc.length:=(ZF.mp h).1;rw[ZU (by cbv)];exact h1
theorem aB.xQ{d0:D}{k:Nat}(L:aB K c M s as O H)(hk:s.os[k]?=some (some d0))(ha:as[k]?=some a)(r:cx K H M d o):aB K c M (s.put k d) as O (upd H a o):=by
 let((o0,q0,r0),nm,ng,h0):=L.obj k d0 a hk ha;have kp:∀ b u,b≠a->H b=some u->upd H a o b=some u:=λb u ne e=>by rw[ai ne];exact e
 have km:∀ b u,M b->H b=some u->upd H a o b=some u:=λb u m e=>kp b u (λz=>nm (z▸m)) e;show#[#[c.g.loc H _ L.base.lQ λb u g e=>kp b u (λz=>g.elim (λg=>ng (z▸g)) λ#[φ,f]=>by subst f;rw[z,q0] at e;cases e;exact r0.next) e,λb u e g=>?_,λb m=>?_,L.base.mo,L.base.m0,L.base.mn],L.len,?_,λi e h=>?_,L.own,λl e b h1 h2=>?_,λl m e f b h1 h2 g1 g2=>?_,L.lt]
 .exact kp b u (λz=>by rw[z,h0] at e;cases e) (L.base.fr b u e g)
 .let(u,e):=L.base.md b m;exact#[u,km b u m e]
 .show as.length=(s.os.set k _).length;rw[aab];exact L.e8
 .let(w,h1,h2):=L.dat i e h;exact#[w,h1,Rep.mono (λ_ m=>m) km e w h2]
 .rcases bG h1 with ⟨rfl,hl,q⟩ | ⟨ne,q⟩
  .cases q;rw[ha] at h2;cases h2;exact#[#[o,aj,r.mono (λ_ m=>m) km],nm,ng,h0]
  .let((u,q1,q2),q3):=L.obj l e b q h2;show#[#[u,kp b u (λz=>?_) q1,q2.mono (λ_ m=>m) km],q3];subst z;exact ne (L.inj k l d0 e b hk q ha h2)
 .have back:∀ {l:Nat} {e:D},(s.put k d).os[l]?=some (some e)->∃ e',s.os[l]?=some (some e'):=λ{l e} h=>by
   rcases bG h with ⟨rfl,hl,q⟩ | ⟨ne,q⟩
   .exact#[d0,hk]
   .exact#[e,q]
  let(e',q1):=back h1;let(f',q2):=back h2;exact L.inj l m e' f' b q1 q2 g1 g2
theorem Ext.xQ{d0:D}{k:Nat}(hk:s.os[k]?=some (some d0))(ha:as[k]?=some a):Ext c as M s H M (s.put k d) (upd H a o) where
 sub:=λ_ m=>m
 new:=λ_ m=>.inl m
 keep:=λb u e g w=>by
  have ne:b≠a:=λz=>by
   subst z;exact w #[k,d0,hk,ha]
  rw[ai ne];exact e
 iY:=λb z7r=>by
  let(l,e,h1,h2):=z7r;rcases bG h1 with ⟨rfl,hl,q⟩ | ⟨ne,q⟩
  .exact#[k,d0,hk,h2]
  .exact#[l,e,q,h2]
theorem aB.slot{i k:Nat}{d0:D}(L:aB K c M s as O H)(hi:s.sl[i]?=some (.own k))(hk:s.os[k]?=some (some d0)):∃ a o,as[k]?=some a/\O[i]?=some (some (.ref a))/\H a=some o/\cx K H M d0 o:=by
 let(a,h1,h2):=L.own i k hi;let((o,q1,q2),_):=L.obj k d0 a hk h1;exact#[a,o,h1,h2,q1,q2]
end
section
variable{X:Cx}{c:Ent}{a b e:Da}{es:!Da}{ta tb te:bA}{st:Fk}{M7:!Fk}{t u:jX}{pos:Pos}
def Eo:jX:=λR s=>R.nx s
def rR(t u:jX):jX:=λR s=>t { R with nx:=u R } s
theorem aP:vW X c [] Eo:=#[kQ.imp λE O H zz=>eF zz λM s as R L q k=>k.nx s as M O H q L .refl]
theorem af(h1:qH X c st t)(h2:vW X c M7 u):vW X c (st::M7) (rR t u):=#[(aI h1.ps h2.ps).imp λE O H zz=>eF zz λM s as R L q k =>
 #[M,s,as,{ R with nx:=u R },L,q,#[λs' qP M' O' H' r L' G=>#[M',s',qP,R,L',r,k.grow G],k.bk,k.ct,k.rt,k.rf,k.rs]]]
theorem ak(h1:qH X c st t):vW X c [st] t:=#[bI h1.ps]
def DH(te:bA):jX:=λR s=>te s λ_ s1=>R.nx s1
theorem yk(he:DE X c e te)(hs:(swapsWith e none pos.line X.env=pure false)⁻¹):qH X c (.Expr e pos) (DH te):=#[(ff he.pe hs).imp λE O H zz=>eF zz λM s as R L q k =>
 #[M,s,as,_,L,q,λd s1 r M' H' v L' E' rv=>k.nx s1 as M' O H' r L' (E'.grow L)]]
def Mr(te:bA):jX:=λR s=>te s λd _=>R.rt d
theorem aF(he:DE X c e te):qH X c (.Return (some e) pos) (Mr te):=#[(eI he.pe).imp λE O H zz=>eF zz λM s as R L q k =>
 #[M,s,as,_,L,q,λd s1 r M' H' v L' E' rv=>k.rt d M' H' v r L'.base rv]]
def IX(te:bA):jX:=λR s=>te s λd _=>R.rf d
theorem iy(he:DN X c e te):qH X c (.Return (some e) pos) (IX te):=#[(eI he.pe).imp λE O H zz=>eF zz λM s as R L q k =>
 #[M,s,as,_,L,q,λd s1 r M' H' a o L' E' ha ro nm ng nw h0 hn=>k.rf d M' H' a o r L'.base ha ro nm ng h0]]
def Jg(i:Nat):jX:=λR s=>∃ k d,s.sl[i]?=some (.own k)/\s.os[k]?=some (some d)/\R.rf d
theorem Ez{i:Nat}(he:PE X e (bO i)):qH X c (.Return (some e) pos) (Jg i):=#[(eI he).imp λE O H z3q=>by
 let(M,s,as,R,L,(k,d,h1,h2,q),kk):=z3q;let(a,g1,g2):=L.own i k h1;let((o,q1,q2),nm,ng,h0):=L.obj k d a h2 g1;exact#[_,g2,kk.rf d M H a o q L.base q1 q2 nm ng h0]]
def KI(tc:nK)(t u:jX):jX:=λR s=>tc s λb s1=>if b=true then t R s1 else u R s1
theorem cD{x:Da}{l r:!Fk}{tc:nK}(hc:DT X c x tc)(ha:vW X c l t)(hb:vW X c r u):qH X c (.If x l r pos) (KI tc t u):=#[(r8 hc.pt ha.ps hb.ps).imp λE O H zz=>eF zz λM s as R L q k =>
 #[M,s,as,_,L,q,λb s1 r M' H' L' E'=>by
  cases b with
  | true=>exact oi #[M',s1,as,R,L',by simpa using r,k.grow (E'.grow L)]
  | false=>exact ue #[M',s1,as,R,L',by simpa using r,k.grow (E'.grow L)]]]
def rS(i:Nat)(te:bA):jX:=λR s=>te s λd s1=>R.nx (s1.set i (.dat d))
theorem JC{i:Nat}{Vj:TE}(h:∀ {O H Q},tE X.K c te O H Q->Vj O H Q){E:Ends}{O:St}{H:Hp}:tS X.K c (rS i te) E O H->jh Vj (dJ i) E O H:=λzz=>eF zz λM s as R L q k =>
 h #[M,s,as,_,L,q,λd s1 r M' H' v L' E' rv=>k.nx _ as M' _ H' r (L'.JW i rv) (E'.grow L)]
theorem C2{i:Nat}(h:PS X st (jh (tE X.K c te) (dJ i))):qH X c st (rS i te):=#[h.imp λE O H=>JC λq=>q]
def ltB{α:Type}:Nat->!α->Bool
 | 0,[]=>false
 | _+1,[]=>false
 | 0,_::_=>true
 | k+1,_::r=>ltB k r
theorem CA{α:Type}:∀ {k:Nat} {l:!α},ltB k l=true->k < l.length
 | 0,[],h=>by cases h
 | _+1,[],h=>by cases h
 | 0,_::_,_=>by simp
 | k+1,_::r,h=>by
  have:=CA (k:=k) (l:=r) h;simp;cbv
def HR(i k:Nat)(te:bA):jX:=λR s=>te s λd s1=>(ltB k s1.os=true/\noRef k i s1.sl=true)/\R.nx #[s1.sl.set i (.own k),s1.os.set k (some d)]
theorem LD{i k:Nat}(h:PS X st (jh (tN X.K c te) (dJ i)))(lK:c.g.kc.length<=k:=by first | exact Z1 _ | exact ZC _ | exact aaM (Z1 _)):qH X c st (HR i k te):=#[h.imp λE O H zz=>eF zz λM s as R L q kk =>
 #[M,s,as,_,L,q,λd s1 #[#[hk,nr],r] M' H' a o L' E' ha ro nm ng nw h0 hn=>kk.nx _ _ M' _ H' r (L'.Ue i k (CA hk) nr ha ro nm ng nw h0 lK) (E'.grow L)]]
abbrev qL:=D->DS->(DS->Prop)->Prop
abbrev xx:=!D->DS->(DS->Prop)->Prop
def tG(K:Frag)(c:Ent)(n:Nat)(g:qL):TG:=λv O H Q=>∃ M s as d R,aB K c M s as O H/\Rep K H M d v/\g d s R/\∀ s',R s'->∀ O',aB K c M s' as O' H->(∀ i,n<=i->O'[i]?=O[i]?)->s'.os=s.os->Q O' H
def XN(K:Frag)(c:Ent)(n:Nat)(g:xx):Fc:=λvs O H Q=>∃ M s as ds R,aB K c M s as O H/\av K H M ds vs/\g ds s R/\∀ s',R s'->∀ O',aB K c M s' as O' H->(∀ i,n<=i->O'[i]?=O[i]?)->s'.os=s.os->Q O' H
structure DG(X:Cx)(c:Ent)(n:Nat)(tg:Da)(g:qL):Prop where
 pg:PG X tg (tG X.K c n g)
structure Qx(X:Cx)(c:Ent)(n:Nat)(ts:!Da)(g:xx):Prop where
 pg:Iu X ts (XN X.K c n g)
theorem _root_.L2.PG.imp{tg:Da}{t t':TG}(h:PG X tg t)(w:∀ v O H Q,t' v O H Q->t v O H Q):PG X tg t':=λTl s O H v u Q I r q=>h Tl s O H v u Q I r (w v O H Q q)
theorem _root_.L2.Iu.imp{tg:!Da}{t t':Fc}(h:Iu X tg t)(w:∀ v O H Q,t' v O H Q->t v O H Q):Iu X tg t':=λTl s O H v u Q I r q=>h Tl s O H v u Q I r (w v O H Q q)
section
variable{n:Nat}{tg:Da}{HX:!Da}{g:qL}{gs:xx}
def xv(i:Nat):qL:=λd s Q=>Q (s.set i (.dat d))
theorem CZ{i:Nat}(h:PG X tg (dJ i))(hi:i < n):DG X c n tg (xv i):=#[h.imp λv O H Q z4q=>by let(M,s,as,d,R,L,r,q,k):=z4q;exact k _ q _ (L.JW i r) (λj hj=>ZU (by cbv)) U]
def Nx:xx:=λds s Q=>ds=[]/\Q s
def Ld(g:qL)(gs:xx):xx:=λds s Q=>∃ d r,ds=d::r/\g d s λs1=>gs r s1 Q
theorem ni:Qx X c n [] Nx:=#[E8.imp λv O H Q z5q=>by
 let(M,s,as,ds,R,L,r,(e,q),k):=z5q;subst e;exact#[r,k s q O L (λ_ _=>rfl) U]]
theorem c7(h1:DG X c n tg g)(h2:Qx X c n HX gs)(hs:((assignEach (tg::HX) X.env).map (·.2)=assign tg X.env::(assignEach HX X.env).map (·.2))⁻¹):Qx X c n (tg::HX) (Ld g gs) :=
 #[(EK h1.pg h2.pg hs).imp λv O H Q z6q=>by
   let(M,s,as,ds,R,L,r,(d,dr,e,q),k):=z6q;subst e;let(x,xr,rfl,r1,r2):=r;exact#[x,xr,U,M,s,as,d,_,L,r1,q,λs1 q1 O1 L1 e1 o1=>#[M,s1,as,dr,R,L1,r2,q1,λs2 q2 O2 Lb e2 o2=>k s2 q2 O2 Lb (λi hi=>(e2 i hi).trans (e1 i hi)) (o2.trans o1)]]]
def MF(m:Nat)(gs:xx):qL:=λd s Q=>∃ ds,d=.tup ds/\ds.length=m/\gs ds s Q
theorem nk{k m:Nat}(hc:X.calm=true)(h:Qx X c n HX gs)(hn:((assignEach HX X.env).length=m)⁻¹)(jQ:((assignEach HX X.env).findIdx? (·.1)=none)⁻¹):DG X c n (.Tuple HX k pos) (MF m gs) :=
 #[(KD hc h.pg hn jQ).imp λv O H Q z7q=>by
   let(M,s,as,d,R,L,r,(ds,e,hl,q),kk):=z7q;subst e;let(a,xs,rfl,t,r):=r;exact#[a,xs,U,t.sq,r.length.trans hl,M,s,as,ds,R,L,r,q,kk]]
def PZ(te:bA)(g:qL):jX:=λR s=>te s λd s1=>g d s1 R.nx
theorem rL(he:DE X c e te)(hg:DG X c n tg g)(hs:(swapsWithSole [tg] e pos.line X.env=pure false)⁻¹)(hw:(swappedStores [tg] e X.env=pure none)⁻¹)(h1:((assignEach [tg] X.env).map (·.2)=[assign tg X.env])⁻¹):qH X c (.Assign [tg] e pos) (PZ te g):=#[(xY he.pe hg.pg hs hw h1).imp λE O H zz=>eF zz λM s as R L q k =>
 #[M,s,as,_,L,q,λd s1 r M' H' v L' E' rv=>#[M',s1,as,d,_,L',rv,r,λs2 q2 O2 Lb _ _=>k.nx s2 as M' O2 H' q2 Lb (E'.grow L)]]]
end
def Yk(K:Frag)(M:AC->Prop)(H:Hp)(d:D)(x:V)(H':Hp):Prop :=
 (H'=H/\Rep K H M d x)\/∃ p o,H p=none/\H'=upd H p o/\Rep K H' (λb=>M b\/b=p) d x
def OH(K:Frag)(M:AC->Prop)(H:Hp)(ds:!D)(J:It):Prop:=∀ M1 H1,eC M H M1 H1 ->
 (∀ i,ds.length<=i->J.stop i H1)/\∀ i d,ds[i]?=some d->J.go i H1/\∀ x H2,J.LU i H1 x H2->Yk K M1 H1 d x H2
def tI(K:Frag)(c:Ent)(t:eQ):TI:=λO H R=>∃ M s as R0,aB K c M s as O H/\t s R0/\∀ ds s',R0 ds s'->∀ M' H' J,aB K c M' s' as O H'->Ext c as M s H M' s' H'->OH K M' H' ds J->ds.length<=FB->R J H'
structure DI(X:Cx)(c:Ent)(tg iter:Da)(t:eQ):Prop where
 pi:PI X tg iter (tI X.K c t)
def mJ(g:qL)(tb:jX)(R:gD):!D->DS->Prop
 | [],s=>R.nx s
 | x::xs,s=>g x s λs1=>tb { R with nx:=λs'=>mJ g tb R xs s',ct:=λs'=>mJ g tb R xs s',bk:=R.nx } s1
def Ir(ti:eQ)(g:qL)(tb:jX):jX:=λR s=>ti s λxs s1=>mJ g tb R xs s1
theorem drop_cons{α:Type}{l:!α}{i:Nat}{x:α}(h:l[i]?=some x):l.drop i=x::l.drop (i+1):=by
 let(hl,e):=ZF.mp h;rw[abm hl,e]
theorem Nb{n:Nat}{tg iter:Da}{body:!Fk}{ti:eQ}{g:qL}{tb:jX}(hp:PassesOwn (model X.prog X.w) X.A X.env X.xe)(hc:X.calm=true)(hi:DI X c tg iter ti)(hg:DG X c n tg g)(hb:vW X c body tb)(hs:abR iter X.env:=by intro _;rfl):qH X c (.For tg iter body [] pos) (Ir ti g tb):=#[(oQ hp hc hi.pi hg.pg hb.ps hs).imp λE O H zz=>eF zz λM s as R L q k=>by
 show#[M,s,as,_,L,q,λxs s1 q1 M1 H1 J L1 E1 io hlen=>?_];show#[λi m O' H'=>i<=xs.length/\m=xs.length - i/\∃ M' s' qP,aB X.K c M' s' qP O' H'/\eC M1 H1 M' H'/\mJ g tb R (xs.drop i) s',#[_,Z1 _,U,M1,s1,as,L1,.refl,q1],?_];rintro i m O' H' ⟨hi,rfl,M',s',qP,L',G',q'⟩;let(h1,h2):=io M' H' G';by_cases lK:i < xs.length
 .refine .inr ?_;have hx:xs[i]?=some xs[i]:=aax lK;let(hgo,hy):=h2 i _ hx;rw[drop_cons hx] at q';have next:∀ s2 as2 M2 O2 H2,mJ g tb R (xs.drop (i+1)) s2->aB X.K c M2 s2 as2 O2 H2->eC M1 H1 M2 H2->∃ m',m' < xs.length - i/\(i+1<=xs.length/\m'=xs.length - (i+1)/\∃ M' s' qP,aB X.K c M' s' qP O2 H2/\eC M1 H1 M' H2/\mJ g tb R (xs.drop (i+1)) s') :=
   λs2 as2 M2 O2 H2 f L2 G2=>#[xs.length - (i+1),by cbv,lK,U,M2,s2,as2,L2,G2,f]
  show#[hgo,λO2 H2=>∃ s2 as2 M2,mJ g tb R (xs.drop (i+1)) s2/\aB X.K c M2 s2 as2 O2 H2/\eC M1 H1 M2 H2,λO2 H2 z8q=>by let(s2,as2,M2,f,L2,G2):=z8q;exact next s2 as2 M2 O2 H2 f L2 G2,λx H2 y=>?_];have go:∀ M2,aB X.K c M2 s' qP O' H2->Rep X.K H2 M2 xs[i] x->eC M1 H1 M2 H2->eC M H M2 H2->tG X.K c n g x O' H2 λO2 H2=>tS X.K c tb { nx:=λO2 H2=>∃ s2 as2 M2,mJ g tb R (xs.drop (i+1)) s2/\aB X.K c M2 s2 as2 O2 H2/\eC M1 H1 M2 H2,rt:=E.rt,bk:=E.nx,ct:=λO2 H2=>∃ s2 as2 M2,mJ g tb R (xs.drop (i+1)) s2/\aB X.K c M2 s2 as2 O2 H2/\eC M1 H1 M2 H2 } O2 H2:=λM2 L2 r2 G2 G0 =>
   #[M2,s',qP,_,_,L2,r2,q',λs3 q3 O3 L3 _ _=>#[M2,s3,qP,_,L3,q3,#[λs4 as4 M4 O4 H4 f L4 G4=>#[s4,as4,M4,f,L4,G2.trans G4],λs4 as4 M4 O4 H4 f L4 G4=>k.nx s4 as4 M4 O4 H4 f L4 (G0.trans G4),λs4 as4 M4 O4 H4 f L4 G4=>#[s4,as4,M4,f,L4,G2.trans G4],k.rt,k.rf,k.rs]]]
  rcases hy x H2 y with ⟨rfl,r⟩ | ⟨p,o,hp,rfl,r⟩
  .exact go M' L' r G' ((E1.grow L).trans G')
  .have G2:eC M' H' (λb=>M' b\/b=p) (upd H' p o):=λb mb=>#[.inl mb,λu e=>by rw[ai (au e hp)];exact e];exact go _ (L'.fresh hp) r (G'.trans G2) (((E1.grow L).trans G').trans G2)
 .have e:i=xs.length:=by cbv
  subst e;rw[aa3] at q';exact .inl #[h1 _ (ZC _),k.nx s' qP M' O' H' q' L' ((E1.grow L).trans G')]]
def G9(tc:nK)(tb:jX):jX:=λR s=>∃ W:Nat->DS->Prop,(∃ m,W m s)/\∀ m s,W m s->tc s λb s1=>if b=true then tb { R with nx:=λs'=>∃ m',m' < m/\W m' s',ct:=λs'=>∃ m',m' < m/\W m' s',bk:=R.nx } s1 else R.nx s1
theorem tY{x:Da}{body:!Fk}{tc:nK}{tb:jX}(hp:PassesOwn (model X.prog X.w) X.A X.env X.xe)(hc:DT X c x tc)(hb:vW X c body tb):qH X c (.While x body [] pos) (G9 tc tb):=#[(uP hp hc.pt hb.ps).imp λE O H z9q=>by
 let(M,s,as,R,L,(W,(m0,w0),turn),k):=z9q;show#[λm O' H'=>∃ M' s' qP,aB X.K c M' s' qP O' H'/\eC M H M' H'/\W m s',#[m0,M,s,as,L,.refl,w0],?_];rintro m O' H' ⟨M',s',qP,L',G',w'⟩;show#[M',s',qP,_,L',turn m s' w',λb s1 q1 M1 H1 L1 E1=>?_];cases b with
 | true =>
  show oi #[λO2 H2=>∃ s2 as2 M2,(∃ m',m' < m/\W m' s2)/\aB X.K c M2 s2 as2 O2 H2/\eC M H M2 H2,λO2 H2 z0q=>by let(s2,as2,M2,(m',hm,w2),L2,G2):=z0q;exact#[m',hm,M2,s2,as2,L2,G2,w2],?_];have G1:=G'.trans (E1.grow L');exact#[M1,s1,qP,{ R with nx:=λs'=>∃ m',m' < m/\W m' s',ct:=λs'=>∃ m',m' < m/\W m' s',bk:=R.nx },L1,by simpa using q1,#[λs4 as4 M4 O4 H4 f L4 G4=>#[s4,as4,M4,f,L4,G1.trans G4],λs4 as4 M4 O4 H4 f L4 G4=>k.nx s4 as4 M4 O4 H4 f L4 (G1.trans G4),λs4 as4 M4 O4 H4 f L4 G4=>#[s4,as4,M4,f,L4,G1.trans G4],k.rt,k.rf,k.rs]]
 | false=>exact ue (k.nx s1 qP M1 O' H1 (by simpa using q1) L1 (G'.trans (E1.grow L')))]
end
abbrev abM:=!D->(D->Prop)->Prop
def b5(K:Frag)(g:Ba)(t:abM):Sp:=λvs H Q _=>∃ M ds R,Base #[g,M,H] M H/\av K H M ds vs/\t ds R/\∀ d,R d->∀ M' H' v,Base #[g,M,H] M' H'->Rep K H' M' d v->Q v H'
def ES(K:Frag)(g:Ba)(t:abM):Sp:=λvs H Q _=>∃ M ds R,Base #[g,M,H] M H/\av K H M ds vs/\t ds R/\∀ d,R d->∀ M' H' a o,Base #[g,M,H] M' H'->H' a=some o->cx K H' M' d o->¬ M' a->¬ g.own a->H a=none->Q (.ref a) H'
section
variable{K:Frag}{c:Ent}{M M' M1:AC->Prop}{s s' s1:DS}{as:!AC}{O:St}{H H' H1:Hp}
theorem Base.here(B:Base c M H):Base #[c.g,M,H] M H:=#[B.lQ,λ_ _ e _=>e,B.md,B.mo,λ_ m=>m,λ_ m=>.inl m]
theorem Base.nF(B:Base c M H):Base #[.no,M,H] M H:=#[trivial,λ_ _ e _=>e,B.md,λ_ _ h=>h,λ_ m=>m,λ_ m=>.inl m]
theorem Base.gK(B:Base c M H)(B':Base #[.no,M,H] M' H'):Base #[c.g,M,H] M' H' where
 lQ:=c.g.loc H H' B.lQ λb o _ e=>B'.fr b o e λz=>z
 fr:=λb o e _=>B'.fr b o e λz=>z
 md:=B'.md
 mo:=λb m g=>by
  rcases B'.mn b m with m | n | ⟨xs,n⟩
  .exact B.mo b m g
  .let(o,e):=c.g.Js H b B.lQ g;have n:H b=none:=n;rw[n] at e;cases e
  .exact c.g.nt H b xs B.lQ g n
 m0:=B'.m0
 mn:=B'.mn
theorem aB.after(L:aB K c M s as O H)(B:Base #[c.g,M,H] M' H'):aB K c M' s as O H' where
 base:=#[B.lQ,λb o e g=>B.fr b o (L.base.fr b o e g) g,B.md,B.mo,λb m=>B.m0 b (L.base.m0 b m),λb m=>by
  rcases B.mn b m with m | n | ⟨xs,n⟩
  .exact L.base.mn b m
  .exact .inr (.inl (L.base.lI n))
  .have n:H b=some (.tup xs):=n;show .inr ?_;cases e:c.H0 b with
   | none=>exact .inl e
   | some o =>
    have:=L.base.fr b o e λg=>c.g.nt H b xs L.base.lQ g n;rw[n] at this;cases this;exact .inr #[xs,e]]
 len:=L.len
 e8:=L.e8
 dat:=λi d e=>by
  let(v,h1,h2):=L.dat i d e;exact#[v,h1,Rep.mono B.m0 (λb o m e=>B.fr b o e (L.base.mo b m)) d v h2]
 own:=L.own
 obj:=λk d a h1 h2=>by
  let((o,q1,q2),nm,ng,h0):=L.obj k d a h1 h2;show#[#[o,B.fr a o q1 ng,q2.mono B.m0 λb o m e=>B.fr b o e (L.base.mo b m)],λm=>?_,ng,h0];rcases B.mn a m with m | n | ⟨xs,n⟩
  .exact nm m
  .have n:H a=none:=n;rw[n] at q1;cases q1
  .have n:H a=some (.tup xs):=n;rw[n] at q1;cases q1;exact q2.FZ
 inj:=L.inj
 lt:=L.lt
theorem Ext.after(B:Base #[c.g,M,H] M' H'):Ext c as M s H M' s H':=#[B.m0,λb m=>by
 rcases B.mn b m with m | n
 .exact .inl m
 .exact .inr (.inl n),λb o e g _=>B.fr b o e g,λ_ h=>h]
end
section
variable{X:Cx}{c:Ent}{k:Nat}{f:AC}{fd:IR}{ps:!Str}{t:abM}{x:Str}{p pos:Pos}{e:Da}{es:!Da}{ta:eQ}
def gy(t:abM)(ta:eQ):bA:=λs Q=>ta s λds s1=>t ds λd=>Q d s1
theorem Al{O:St}{H:Hp}{Q:VK}{n:Nat}{E:XK}:tE X.K c (gy t ta) O H Q->vm (b5 X.K c.g t) [] E (tA X.K c n ta) O H Q:=λzz=>eF zz λM s as R L q kk =>
 #[M,s,as,_,L,q,λds s1 q1 M1 H1 vs L1 E1 r1 hl=>#[M1,ds,_,L1.base.here,by rw[ZM];exact r1,q1,λd rd M' H' v B rv=>kk d s1 rd M' H' v (L1.after B) (E1.trans L1.base (Ext.after B)) rv]]
theorem Fi{O:St}{H:Hp}{Q:VK}{n:Nat}{E:XK}:tE X.K c (gy t ta) O H Q->vm (b5 X.K .no t) [] E (tA X.K c n ta) O H Q:=λzz=>eF zz λM s as R L q kk =>
 #[M,s,as,_,L,q,λds s1 q1 M1 H1 vs L1 E1 r1 hl=>#[M1,ds,_,L1.base.nF,by rw[ZM];exact r1,q1,λd rd M' H' v B rv=>kk d s1 rd M' H' v (L1.after (L1.base.gK B)) (E1.trans L1.base (Ext.after (L1.base.gK B))) rv]]
theorem Dl{K:Frag}{as:!AC}{M M1 M':AC->Prop}{s s1:DS}{O:St}{H H1 H':Hp}{a:AC}(L:aB K c M s as O H)(L1:aB K c M1 s1 as O H1)(E1:Ext c as M s H M1 s1 H1)(B:Base #[c.g,M1,H1] M' H')(ng:¬ c.g.own a)(hn:H1 a=none) :
  ¬ dY s1 as a/\c.H0 a=none/\(H a=none\/dY s as a):=by
 show#[λw=>?_,L1.base.lI hn,?_]
 .let(_,_,_,u,e):=L1.nM w;rw[hn] at e;cases e
 .cases q:H a with
  | none=>exact .inl U
  | some u =>
   by_cases w:dY s as a
   .exact .inr w
   .have:=E1.keep a u q ng w;rw[hn] at this;cases this
theorem C1{O:St}{H:Hp}{Q:VK}{n:Nat}{E:XK}:tN X.K c (gy t ta) O H Q->vm (ES X.K .no t) [] E (tA X.K c n ta) O H Q:=λzz=>eF zz λM s as R L q kk =>
 #[M,s,as,_,L,q,λds s1 q1 M1 H1 vs L1 E1 r1 hl=>#[M1,ds,_,L1.base.nF,by rw[ZM];exact r1,q1,λd rd M' H' a o B ha ro nm ng hn=>by
  have ng':¬ c.g.own a:=λg=>by
   let(u,e):=c.g.Js H1 a L1.base.lQ g;rw[hn] at e;cases e
  let(z1,z2,z3):=Dl L L1 E1 (L1.base.gK B) ng' hn;exact kk d s1 rd M' H' a o (L1.after (L1.base.gK B)) (E1.trans L1.base (Ext.after (L1.base.gK B))) ha ro nm ng' z1 z2 z3]]
section
variable(hr:bF k X.A)(hg:Gl X x)(hm:X.mg x=some (.ref f))(hk:keepIn X.K (.ref f)=true)(hb:Binds X.K fd ps [])(ha:DA X c (e::es) ta)
include hr hg hm hk hb ha
theorem Kj(F:br X.prog X.w X.K X.mg X.base aV k f fd ps (b5 X.K c.g t))(fM: ~~~(abP x))(he:(abN X.env e es)⁻¹)(dI:(abO X.env pos es)⁻¹) :
  DE X c (.Call (.Name x p) (e::es) [] pos) (gy t ta):=#[(cU F hr hg hm hk hb .nil (E:=E0) lh ha.pa fM he dI).imp λ_ _ _=>Al]
theorem GC(F:br X.prog X.w X.K X.mg X.base aV k f fd ps (b5 X.K .no t))(fM: ~~~(abP x))(he:(abN X.env e es)⁻¹)(dI:(abO X.env pos es)⁻¹) :
  DE X c (.Call (.Name x p) (e::es) [] pos) (gy t ta):=#[(cU F hr hg hm hk hb .nil (E:=E0) lh ha.pa fM he dI).imp λ_ _ _=>Fi]
theorem Gn(F:br X.prog X.w X.K X.mg X.base aV k f fd ps (ES X.K .no t))(fM: ~~~(abP x))(he:(abN X.env e es)⁻¹)(dI:(abO X.env pos es)⁻¹) :
  DN X c (.Call (.Name x p) (e::es) [] pos) (gy t ta):=#[(cU F hr hg hm hk hb .nil (E:=E0) lh ha.pa fM he dI).imp λ_ _ _=>C1]
end
end
def eV(n nos:Nat)(ds:!D):DS:=#[ds.map .dat++List.replicate (n - ds.length) .no,List.replicate nos none]
theorem j6{K:Frag}{g:Ba}{M:AC->Prop}{H:Hp}{N:!Str}{nos:Nat}{ds:!D}{vs:!V}(B:Base #[g,M,H] M H)(r:av K H M ds vs)(hg:g.kc=[]):aB K #[g,M,H] M (eV N.length nos ds) (List.replicate nos 0) (L2.start N vs) H where
 base:=B
 len:=by
  have:=r.length;change (ds.map Sl.dat++List.replicate (N.length - ds.length) Sl.no).length=(vs.map some++List.replicate (N.length - vs.length) none).length;simp[this]
 e8:=by simp[eV]
 dat:=λi d h=>by
  have hl:=r.length;by_cases hi:i < ds.length
  .have h':(ds.map Sl.dat)[i]?=some (.dat d):=by
    rw[eV,List.getElem?_append_left (by simpa using hi)] at h;exact h
   rw[Z8] at h';let(e,h1,h2):=ZN.mp h';cases h2;let(v,q1,q2):=r.get h1;show#[v,?_,q2];rw[L2.start,List.getElem?_append_left (by simp;cbv),List.getElem?_map,q1]
   rfl
  .rw[eV,List.getElem?_append_right (by simpa using hi)] at h;have:=ZF.mp h;let(_,e):=this;simp at e
 own:=λi k h=>by
  by_cases hi:i < ds.length
  .rw[eV,List.getElem?_append_left (by simpa using hi),List.getElem?_map] at h;let(e,h1,h2):=ZN.mp h;cases h2
  .rw[eV,List.getElem?_append_right (by simpa using hi)] at h;let(_,e):=ZF.mp h;simp at e
 obj:=λk d a h=>by
  let(_,e):=ZF.mp h;simp[eV] at e
 inj:=λk l d e a h=>by
  let(_,e):=ZF.mp h;simp[eV] at e
 lt:=λk a h=>by
  have h:g.kc[k]?=some a:=h;rw[hg] at h;cases h
section
variable{P:Fr}{w:Fa}{K:Frag}{mg:Str->Option AT}{base:Ev}
theorem Zp{x qual:Str}{st:Fk}{f:AC}{fd:IR}{N ps:!Str}{k nos:Nat}{g:Ba}{t:abM}(F:pJ K x qual st f fd)(S:ar N ps (ag st))(len:∀ ds R,t ds R->ds.length=ps.length)(hb:∀ (bp:AT) (A:GE) (outer:!Env) (s:Ch) (H:Hp) (E:XK) (M:AC->Prop),bF k (A.deeper (envOfC qual (ag st) ↑s f bp)) ->
   ∃ tb,vW (jO aV P w K mg base N qual (ag st) f bp A outer s H E).wD #[g,M,H] (aq st) tb/\∀ ds R,t ds R->tb { nx:=λ_=>R .bX,rt:=R } (eV N.length nos ds))(hg:(g.kc=[])⁻¹):br P w K mg base aV (k+1) f fd ps (b5 K g t):=by
 show F.ok S (λvs H Q E h=>?_) λbp A outer s H vs Q E hr h=>?_
 .let(M,ds,R,B,r,q,_):=h;rw[r.length];exact len ds R q
 .let(M,ds,R,B,r,q,kk):=h;let(tb,h1,h2):=hb bp A outer s H E M hr;exact#[_,h1.ps,M,_,_,_,j6 B r hg,h2 ds R q,#[λs as M' O H' r L _=>kk .bX r M' H' .bX L.base U,λ_ _ _ _ _ z=>z.elim,λ_ _ _ _ _ z=>z.elim,λd M' H' v r B' rv=>kk d r M' H' v B' rv,λ_ _ _ _ _ z=>z.elim,λ_ _ _ _ _ _ _ z=>z.elim]]
theorem R6{x qual:Str}{st:Fk}{f:AC}{fd:IR}{N ps:!Str}{k nos:Nat}{g:Ba}{t:abM}(F:pJ K x qual st f fd)(S:ar N ps (ag st))(len:∀ ds R,t ds R->ds.length=ps.length)(hb:∀ (bp:AT) (A:GE) (outer:!Env) (s:Ch) (H:Hp) (E:XK) (M:AC->Prop),bF k (A.deeper (envOfC qual (ag st) ↑s f bp)) ->
   ∃ tb,vW (jO aV P w K mg base N qual (ag st) f bp A outer s H E).wD #[g,M,H] (aq st) tb/\∀ ds R,t ds R->tb { nx:=λ_=>False,rt:=λ_=>False,rf:=R } (eV N.length nos ds))(hg:(g.kc=[])⁻¹):br P w K mg base aV (k+1) f fd ps (ES K g t):=by
 show F.ok S (λvs H Q E h=>?_) λbp A outer s H vs Q E hr h=>?_
 .let(M,ds,R,B,r,q,_):=h;rw[r.length];exact len ds R q
 .let(M,ds,R,B,r,q,kk):=h;let(tb,h1,h2):=hb bp A outer s H E M hr;exact#[_,h1.ps,M,_,_,_,j6 B r hg,h2 ds R q,#[λ_ _ _ _ _ z=>z.elim,λ_ _ _ _ _ z=>z.elim,λ_ _ _ _ _ z=>z.elim,λ_ _ _ _ z=>z.elim,λd M' H' a o r B' ha ro nm ng h0=>kk d r M' H' a o B' ha ro nm ng h0,λ_ _ _ _ _ _ _ z=>z.elim]]
end
section
variable{K:Frag}{c:Ent}{M M' M1 M3 M6:AC->Prop}{s s' s1 s6:DS}{as:!AC}{O O4:St}{H H' H1 H3 H6:Hp}{a p q:AC}{o:HO}{d:D}{v:V}
def iS(nt:Nat)(us:!Nat)(s:DS):DS:=#[List.replicate nt .no++us.map λj=>s.sl.getD j .no,s.os]
theorem rM{nt:Nat}{us:!Nat}{i:Nat}{x:Sl}(hx:x≠.no)(h:(iS nt us s).sl[i]?=some x):∃ j,us[i - nt]?=some j/\nt<=i/\s.sl[j]?=some x:=by
 by_cases hi:i < nt
 .rw[iS,List.getElem?_append_left (by simpa using hi)] at h;let(_,e):=ZF.mp h;simp at e;exact absurd e.symm hx
 .rw[iS,List.getElem?_append_right (by simpa using hi)] at h;simp only[List.length_replicate] at h;rw[Z8] at h;let(j,h1,h2):=ZN.mp h;show#[j,h1,by cbv,?_];rw[abg] at h2;cases e:s.sl[j]? with
  | none=>rw[e] at h2;exact absurd h2.symm hx
  | some y=>rw[e] at h2;exact congrArg some h2
theorem wg{nt:Nat}{us:!Nat}{i j:Nat}{v:V}(hj:us[i - nt]?=some j)(hi:nt<=i)(h:O[j]?=some (some v)):(L2.lift nt us O)[i]?=some (some v):=by
 rw[L2.lift,List.getElem?_append_right (by simpa using hi),List.length_replicate,List.getElem?_map,hj,Option.map_some,h]
 rfl
theorem aB.inner(L:aB K c M s as O H)(nt:Nat)(us:!Nat):aB K c M (iS nt us s) as (L2.lift nt us O) H where
 base:=L.base
 len:=by simp[iS,L2.lift]
 e8:=L.e8
 dat:=λi d h=>by
  let(j,h1,h2,h3):=rM (by intro z;cases z) h;let(v,g1,g2):=L.dat j d h3;exact#[v,wg h1 h2 g1,g2]
 own:=λi k h=>by
  let(j,h1,h2,h3):=rM (by intro z;cases z) h;let(v,g1,g2):=L.own j k h3;exact#[v,g1,wg h1 h2 g2]
 obj:=L.obj
 inj:=L.inj
 lt:=L.lt
theorem aB.outer(L:aB K c M s as O H)(E:Ext c as M s1 H M6 s6 H6)(hs:s1.os=s.os)(L6:aB K c M6 s6 as O4 H6):aB K c M6 #[s.sl,s6.os] as O H6 where
 base:=L6.base
 len:=L.len
 e8:=L6.e8
 dat:=λi d h=>by
  let(v,g1,g2):=L.dat i d h;have E':Ext c as M s H M6 s6 H6:=#[E.sub,λb m=>by
   rcases E.new b m with h | h | ⟨k,e,h1,h2⟩
   .exact .inl h
   .exact .inr (.inl h)
   .exact .inr (.inr #[k,e,by rw[<- hs];exact h1,h2]),λb o e g w=>E.keep b o e g λ#[k,e,h1,h2]=>w #[k,e,by rw[<- hs];exact h1,h2],λb w=>by
   let(k,e,h1,h2):=E.iY b w;exact#[k,e,by rw[<- hs];exact h1,h2]]
  exact#[v,g1,E'.rep L g2]
 own:=L.own
 obj:=L6.obj
 inj:=L6.inj
 lt:=L6.lt
theorem Ext.os{s2 V5:DS}(E:Ext c as M s H M' s' H')(hs:s.os=s2.os)(Qw:s'.os=V5.os):Ext c as M s2 H M' V5 H':=#[E.sub,λb m=>by
   rcases E.new b m with h | h | ⟨k,e,h1,h2⟩
   .exact .inl h
   .exact .inr (.inl h)
   .exact .inr (.inr #[k,e,by rw[<- hs];exact h1,h2]),λb o e g w=>E.keep b o e g λ#[k,e,h1,h2]=>w #[k,e,by rw[<- hs];exact h1,h2],λb z8r=>by
   let(k,e,h1,h2):=z8r;let(k,e,h1,h2):=E.iY b #[k,e,by rw[Qw];exact h1,h2];exact#[k,e,by rw[<- hs];exact h1,h2]]
theorem aB.wr{ys:!V}(L:aB K c M s as O H)(hq:H q=some (.lst ys))(nm:¬ M q)(ng:¬ c.g.own q)(nw:¬ dY s as q)(h0:c.H0 q=none):aB K c M s as O (upd H q o):=by
 have kp:∀ b u,b≠q->H b=some u->upd H q o b=some u:=λb u ne e=>by rw[ai ne];exact e
 have km:∀ b u,M b->H b=some u->upd H q o b=some u:=λb u m e=>kp b u (λz=>nm (z▸m)) e;show#[#[c.g.loc H _ L.base.lQ λb u g e=>kp b u (λz=>g.elim (λg=>ng (z▸g)) λ#[φ,f]=>by subst f;rw[z,hq] at e;cases e) e,λb u e g=>kp b u (λz=>by rw[z,h0] at e;cases e) (L.base.fr b u e g),λb m=>?_,L.base.mo,L.base.m0,L.base.mn],L.len,L.e8,λi e h=>?_,L.own,λl e b h1 h2=>?_,L.inj,L.lt]
 .let(u,e):=L.base.md b m;exact#[u,km b u m e]
 .let(w,h1,h2):=L.dat i e h;exact#[w,h1,Rep.mono (λ_ m=>m) km e w h2]
 .let((u,q1,q2),q3):=L.obj l e b h1 h2;show#[#[u,kp b u (λz=>?_) q1,q2.mono (λ_ m=>m) km],q3];subst z;exact nw #[l,e,h1,h2]
theorem Ext.wr(hn:H q=none)(E:Ext c as M s H M' s' H'):Ext c as M s H M' s' (upd H' q o):=#[E.sub,E.new,λb u e g w=>by
 rw[ai (au e hn)];exact E.keep b u e g w,E.iY]
theorem Eb(L:aB K c M s as O H)(E1:Ext c as M s H M1 s1 H1)(ng:¬ c.g.own a)(hn:H1 a=none):H a=none\/dY s as a:=by
 cases q:H a with
 | none=>exact .inl U
 | some u =>
  by_cases w:dY s as a
  .exact .inr w
  .have:=E1.keep a u q ng w;rw[hn] at this;cases this
end
def eS(nt:Nat)(us:!Nat)(g:qL)(ti:nK)(te:bA):!D->!D->DS->(!D->DS->Prop)->Prop
 | [],acc,s,Q=>Q acc s
 | x::xs,acc,s,Q=>g x (iS nt us s) λs1=>ti s1 λb s2=>if b=true then te s2 λy s3=>eS nt us g ti te xs (acc++[y]) #[s.sl,s3.os] Q else eS nt us g ti te xs acc #[s.sl,s2.os] Q
def mE(nt:Nat)(us:!Nat)(tx:eQ)(g:qL)(ti:nK)(te:bA):bA:=λs Q=>tx s λxs s1=>eS nt us g ti te xs [] s1 λys s2=>Q (.lst ys) s2
structure LS(X:Cx)(c:Ent)(ifs:!Da)(t:nK):Prop where
 U8:Gw X ifs (tT X.K c t)
section
variable{X:Cx}{c:Ent}{e:Da}{pos:Pos}
def dg:nK:=λs Q=>Q true s
theorem i7:LS X c [] dg:=#[λTl s O H Q I z4q=>by let(M,s',as,R,L,q,k):=z4q;exact sP Tl s O H Q I (k true s' q M H L .refl)]
end
section
variable{X:Cx}{c:Ent}{ts:!Str}{us:!Nat}{scope:Scope}{tg elt iter:Da}{ifs:!Da}{pos:Pos}{tx:eQ}{g:qL}{ti:nK}{te:bA}
theorem uv{O:St}{H:Hp}{Q:VK}:tN X.K c (mE ts.length us tx g ti te) O H Q->qA ts.length us (tI X.K c tx) (tG X.K c ts.length g) (tT X.K c ti) (tE X.K c te) O H Q:=λzz=>eF zz λM s as R L q k=>by
 show#[M,s,as,_,L,q,λxs s1 q1 M1 H1 J L1 E1 io hlen=>?_];intro A hA;let(n1,n2,n3,n4):=notM L1 hA;show#[λi m ys H2=>i<=xs.length/\m=xs.length - i/\ys.length<=i/\∃ M' s' zs,aB X.K c M' s' as O H2/\Ext c as M1 s1 H1 M' s' H2/\H2 A=some (.lst ys)/\av X.K H2 M' zs ys/\¬ M' A/\eS ts.length us g ti te (xs.drop i) zs s' λys s2=>R (.lst ys) s2,
  #[_,Z1 _,U,ZC _,M1,s1,[],L1.laid hA,Ext.laid hA,aj,U,n1,q1],?_]
 rintro i m ys H2 ⟨hi,rfl,hy,M',s',zs,L',E',hD,rz,nm,q'⟩;have nw:∀ {Bp:DS},(∀ b,dY Bp as b->dY s' as b)->¬ dY Bp as A:=λh w=>n3 (E'.iY A (h A w));show#[hD,?_];have G':eC M1 H1 M' H2:=E'.grow L1;let(h1,h2):=io M' H2 G';by_cases lK:i < xs.length
 .refine .inr ?_;have hx:xs[i]?=some xs[i]:=aax lK;let(hgo,hyl):=h2 i _ hx;rw[drop_cons hx] at q';show#[hgo,by cbv,λx H3 y=>?_];have go:∀ M3,aB X.K c M3 s' as O H3->Rep X.K H3 M3 xs[i] x->Ext c as M' s' H2 M3 s' H3->H3 A=some (.lst ys)->¬ M3 A->tG X.K c ts.length g x (L2.lift ts.length us O) H3 λO4 H4=>D4 (L2.lift ts.length us O) O4/\tT X.K c ti O4 H4 λb H5 =>
    if b=true then tE X.K c te O4 H5 λy H6=>H6 A=some (.lst ys)/\∃ m',m' < xs.length - i/\(i+1<=xs.length/\m'=xs.length - (i+1)/\(ys++[y]).length<=i+1/\∃ M' s' zs,aB X.K c M' s' as O (upd H6 A (.lst (ys++[y])))/\Ext c as M1 s1 H1 M' s' (upd H6 A (.lst (ys++[y])))/\upd H6 A (.lst (ys++[y])) A=some (.lst (ys++[y]))/\av X.K (upd H6 A (.lst (ys++[y]))) M' zs (ys++[y])/\¬ M' A/\eS ts.length us g ti te (xs.drop (i+1)) zs s' λys s2=>R (.lst ys) s2)
    else ∃ m',m' < xs.length - i/\(i+1<=xs.length/\m'=xs.length - (i+1)/\ys.length<=i+1/\∃ M' s' zs,aB X.K c M' s' as O H5/\Ext c as M1 s1 H1 M' s' H5/\H5 A=some (.lst ys)/\av X.K H5 M' zs ys/\¬ M' A/\eS ts.length us g ti te (xs.drop (i+1)) zs s' λys s2=>R (.lst ys) s2):=by
   intro M3 L3 r3 E3 hD3 Ve;show#[M3,_,as,_,_,L3.inner ts.length us,r3,q',λs4 q4 O4 L4 e4 o4=>#[λj v hj=>?_,M3,s4,as,_,L4,q4,λb s5 r5 M5 H5 L5 E5=>?_]]
   .by_cases hjn:j < ts.length
    .rw[L2.lift,List.getElem?_append_left (by simpa using hjn)] at hj;let(_,e):=ZF.mp hj;simp at e
    .rw[e4 j (by cbv)];exact hj
   .have E5':Ext c as M3 s' H3 M5 #[s'.sl,s5.os] H5:=E5.os o4 U;have L5':aB X.K c M5 #[s'.sl,s5.os] as O H5:=L3.outer E5 o4 L5;have F5:Ext c as M' s' H2 M5 #[s'.sl,s5.os] H5:=E3.trans L3.base E5';have hD5:H5 A=some (.lst ys):=E5'.keep A _ hD3 n2 (nw λ_ h=>h);have Qy:¬ M5 A:=λm=>by
     rcases E5'.new A m with m | (m | ⟨_,m⟩) | m
     .exact Ve m
     .rw[hD3] at m;cases m
     .rw[hD3] at m;cases m
     .exact nw (λ_ h=>h) m
    cases b with
    | false =>
     rw[if_neg ZP] at r5;show ue ?_;exact#[xs.length - (i+1),by cbv,lK,U,by cbv,M5,_,zs,L5',E'.trans L'.base F5,hD5,F5.qN L' rz,Qy,r5]
    | true =>
     rw[if_pos U] at r5;show oi ?_;show#[M5,s5,as,_,L5,r5,λy s6 r6 M6 H6 v L6 E6 rv=>?_];have E6':Ext c as M5 #[s'.sl,s5.os] H5 M6 #[s'.sl,s6.os] H6:=E6.os U U;have L6':aB X.K c M6 #[s'.sl,s6.os] as O H6:=L5'.outer E6 U L6;have F6:Ext c as M' s' H2 M6 #[s'.sl,s6.os] H6:=F5.trans L5'.base E6';have hD6:H6 A=some (.lst ys):=E6'.keep A _ hD5 n2 (nw F5.iY);have Mq:¬ M6 A:=λm=>by
      rcases E6'.new A m with m | (m | ⟨_,m⟩) | m
      .exact Qy m
      .rw[hD5] at m;cases m
      .rw[hD5] at m;cases m
      .exact nw F5.iY m
     have kM:∀ b u,M6 b->H6 b=some u->upd H6 A (.lst (ys++[v])) b=some u:=λb u mb e=>by
      have ne:b≠A:=λz=>by
       subst z;exact Mq mb
      rw[ai ne];exact e
     show#[hD6,xs.length - (i+1),by cbv,lK,U,by simp;cbv,M6,_,zs++[y],L6'.wr hD6 Mq n2 (nw F6.iY) n4,(E'.trans L'.base F6).wr hA,aj,?_,Mq,r6];exact av.mono (λ_ h=>h) kM _ _ ((F6.qN L' rz).append (av.one rv))
  rcases hyl x H3 y with ⟨rfl,r⟩ | ⟨p,o,hp,rfl,r⟩
  .exact go M' L' r .refl hD nm
  .have hpA:A≠p:=au hD hp;exact go _ (L'.fresh hp) r (Ext.fresh hp) (by rw[ai hpA];exact hD) λm=>by
    rcases m with m | m
    .exact nm m
    .exact hpA m
 .have e:i=xs.length:=by cbv
  subst e;rw[aa3] at q';show .inl #[h1 _ (ZC _),k _ s' q' M' H2 A _ L' (E1.trans L1.base E') hD rz nm n2 (nw λ_ h=>h) n4 (Eb L E1 n2 hA)]
theorem IY(S:aT X ts us scope)(hc:X.calm=true)(hi:DI X c tg iter tx)(hg:∀ C s H fp,DG (X.comp ts us scope C s H fp) c ts.length tg g)(qR:∀ C s H fp,LS (X.comp ts us scope C s H fp) c ifs ti)(he:∀ C s H fp,DE (X.comp ts us scope C s H fp) c elt te)(hs:abR iter X.env:=by intro _;rfl):DN X c (.ListComp elt [#[tg,iter,ifs,0]] scope pos) (mE ts.length us tx g ti te) :=
 #[(ua S hc hi.pi (λC s H fp=>(hg C s H fp).pg) (λC s H fp=>(qR C s H fp).U8) (λC s H fp=>(he C s H fp).pe) hs).imp λ_ _ _=>uv]
theorem Qp{i:Nat}{st:Fk}{te:bA}(h:PS X st (jh (tN X.K c te) (dJ i))):PS X st (jh (tE X.K c te) (dJ i)):=h.imp λE O H zz=>eF zz λM s as R L q k =>
 #[M,s,as,R,L,q,λd s' r M' H' a o L' E ha ro nm ng nw h0 hn =>
  k d s' r _ H' (.ref a) (L'.grown ha ng nw h0) (E.plus hn) ((ro.mono (λ_ h=>.inl h) λ_ _ _ e=>e).rep ha (.inr U))]
end
end DL
namespace HT
open PySem PyProof.Rows
variable{prog:Fr}{w:Fa}{A:GE}{E:abK}{s:Ch}
theorem jL{t sl:AC}{items:Array AT}{vl vu:AT}{lo hi:Option Int}{Q:abK}(ht:IsTup s.heap t items)(hs:s.heap.IsSliceOf sl vl vu .none)(pl:IsPart vl lo)(pu:IsPart vu hi)(hw:ck items.size 0 lo=0/\ck items.size items.size hi=items.size)(h:Q (.ref t) s):EQ (model prog w) A (getItem (.ref t) (.ref sl)) Q E s:=by
 let(os,xA,hcs,hds):=id hs;have hTs:s.TypeIs (.ref sl) "slice":=#[os,xA,hcs];unfold getItem
 try with_reducible show Rs ?_
 first | show Db (GM ?_) | skip
 show Db (wpAny_sequenceKey ht.typeIs () ?_);show Db (wpAny_callSpecial?_slot (name:=Str.ofString "__getitem__") ht.typeIs PyProof.Rows.slot_tuple_getitem
  (TW PyProof.Rows.slot_tuple_getitem ht.typeIs entry_tuple_getitem ?_ (args_tuple_getitem _ _)))
 change EQ _ _ (GT.Tuple.tupleItemsOf (.ref t) >>= _) _ _ s;show Db (tupleItemsOf_ ht ?_);show Db (wpAny_typeOf hTs ?_);rw[if_pos ()];show Db (g0 hs pl pu ?_);have hno:(((ck items.size 0 lo:Nat):Int) == 0&&(1:Int) == 1&&(ck items.size items.size hi - ck items.size 0 lo) == items.size)=true:=by
  rw[hw.1,hw.2];simp
 change EQ _ _ (if (((ck items.size 0 lo:Nat):Int) == 0&&(1:Int) == 1&&(ck items.size items.size hi - ck items.size 0 lo) == items.size)=true then _ else _) _ _ s;rw[if_pos hno];show Db (m:=GT.Tuple.tupleIsExact (.ref t)) (Db (wpAny_typeOf ht.typeIs (GM ?_)));rw[if_pos ()];exact Db (wpAny_rule (GM #[_,U,GM h]))
end HT
namespace L2
open PySem PySem.Spec PyProof.Rows
section
variable{X:Cx}
def MI(K:Frag):V->Option Int->Option Int->Hp->VK->Prop:=λx lo hi H Q=>∃ a xs,x=.ref a/\ja K H a xs /\
 ((HT.ck xs.length 0 lo=0/\HT.ck xs.length xs.length hi=xs.length)->Q (.ref a) H)/\(¬ (HT.ck xs.length 0 lo=0/\HT.ck xs.length xs.length hi=xs.length)->∀ p,H p=none->Q (.ref p) (upd H p (.tup (ph xs lo hi))))
theorem FJ:PX X (MI X.K):=by
 intro Tl s O H x v vl vu lo hi sl Q I rx hs pl pu h;let(a,xs,rfl,hx,q1,q2):=h;by_cases hw:HT.ck xs.length 0 lo=0/\HT.ck xs.length xs.length hi=xs.length
 .cases rx;let(its,r,ht,hz):=I.tuple hx;have hlen:its.toArray.size=xs.length:=by rw[ZV];exact r.length.symm
  exact#["tuple",_,PyProof.Rows.slot_tuple_getitem.lookup,ht.typeIs,HT.jL ht hs pl pu (by rw[hlen];exact hw) #[.ref a,H,I,U,q1 hw]]
 .exact Lf Tl s O H _ v vl vu lo hi sl Q I rx hs pl pu #[a,xs,U,hx,hw,q2 hw]
def Uv(K:Frag)(tl:TE):TI:=λO H R=>tl O H λx H1=>∃ a,x=.ref a/\((∃ xs,dM K H1 a xs/\(xs.length<=FB->R (Jn K a) H1))\/∃ xs,ja K H1 a xs/\(xs.length<=FB->R (WG K a) H1))
theorem Ju{tg l:Da}{tl:TE}(hl:PE X l tl):PI X tg l (Uv X.K tl):=by
 intro Tl s O H R I h;show bQ (hl Tl s O H _ I h) λv s1 zz=>el2 zz λx H1 I1 r1 q1=>?_;let(a,e,q1):=q1;subst e;cases r1;have fp:∀ b∈[↑s1],fE X Tl H1 b:=λb hb=>by
  have e:b=↑s1:=by simpa using hb
  subst e;exact I1.ud (ZC _) (I1.aD.fresh (ZC _))
 rcases q1 with ⟨xs,hq,q⟩ | ⟨xs,hq,q⟩
 .let(its,rv,p,hz):=I1.list hq;show wpAny_pyIter_list p.isList ?_;exact#[↑s1,[↑s1],_,_,H1,U,I1.kept (t':=s1.toks) λb o e=>Zz _ e,rT a _,#[_,ZS _ U,U,U],fp,q hz]
 .let(its,rv,p,hz):=I1.tuple hq;show wpAny_pyIter_tuple (show s1.heap.IsTuple a its.toArray from p) ?_;exact#[↑s1,[↑s1],_,_,H1,U,I1.kept (t':=s1.toks) λb o e=>Zz _ e,yf a _,#[_,ZS _ U,U,U],fp,q hz]
end
end L2
namespace DL
open PySem PySem.Spec L2
open PyProof.Rows hiding St
section
variable{X:Cx}{c:Ent}
def cI(P:Int->Int->Prop)(f:Int->Int->Int):D->D->(D->Prop)->Prop:=λa b k=>∃ i j,a=.int i/\b=.int j/\P i j/\k (.int (f i j))
def Y5(f:Int->Int->Int):D->D->(D->Prop)->Prop:=λa b k=>∃ i j,a=.int i/\b=.int j/\k (.int (f i j))
def YI(f:Int->Int->Bool):D->D->(D->Prop)->Prop:=λa b k=>∃ i j,a=.int i/\b=.int j/\k (.bl (f i j))
theorem QE{P:Int->Int->Prop}{f:Int->Int->Int}:qI X c (rI P λi j=>.int (f i j)) (cI P f):=λM s as O H x y dx dy k Q L rx ry z9r kk=>by
 let(i,j,e1,e2,hp,hk):=z9r;subst e1;subst e2;exact#[i,j,rx,ry,hp,kk _ hk M H _ L .refl U]
theorem f9{f:Int->Int->Int}:qI X c (tD λi j=>.int (f i j)) (Y5 f):=λM s as O H x y dx dy k Q L rx ry z0r kk=>by
 let(i,j,e1,e2,hk):=z0r;subst e1;subst e2;exact#[i,j,rx,ry,kk _ hk M H _ L .refl U]
theorem t9{f:Int->Int->Bool}:qI X c (tD λi j=>.bl (f i j)) (YI f):=λM s as O H x y dx dy k Q L rx ry z1r kk=>by
 let(i,j,e1,e2,hk):=z1r;subst e1;subst e2;exact#[i,j,rx,ry,kk _ hk M H _ L .refl U]
def fv:D->V
 | .bX=>.bX
 | .bl b=>.bl b
 | .int i=>.int i
 | .str x=>.str x
 | .ty n=>.ty n
 | .hJ a=>.ref a
 | _=>.ref 0
def iF:D->Bool
 | .bX=>true
 | .bl _=>true
 | .int _=>true
 | .str _=>true
 | _=>false
theorem Rep.flat{K:Frag}{H:Hp}{M:AC->Prop}{d:D}{v:V}(f:iF d=true)(r:Rep K H M d v):v=fv d:=by
 cases d<;>first | exact r | (cases f)
theorem pL{d:D}(f:iF d=true):jT (fv d)=true:=by
 cases d<;>first | rfl | (cases f)
theorem av.flat{K:Frag}{H:Hp}{M:AC->Prop}:∀ {ds:!D} {vs:!V},ds.all iF=true->av K H M ds vs->vs=ds.map fv/\vs.all jT=true
 | [],vs,f,r=>by
  have r:vs=[]:=r;subst r;exact#[U,U]
 | d::ds,vs,f,r=>by
  let(x,xr,rfl,r1,r2):=r;rw[List.all_cons,ZX] at f;let(h1,h2):=av.flat f.2 r2;have e:=r1.flat f.1;subst e;exact#[by rw[ZG,h1],by rw[List.all_cons,h2,pL f.1];rfl]
def Wq:D->D->(D->Prop)->Prop:=λa b k=>(iF a=true/\iF b=true/\Gu (fv a) (fv b)=true)/\k (.bl (decide (fv a=fv b)))
def XS:D->D->(D->Prop)->Prop:=λa b k=>(iF a=true/\iF b=true/\Gu (fv a) (fv b)=true)/\k (.bl (not (decide (fv a=fv b))))
theorem cY:qI X c RZ Wq:=λM s as O H x y dx dy k Q L rx ry z2r kk=>by
 let((f1,f2,hs),hk):=z2r;have e1:=rx.flat f1;have e2:=ry.flat f2;subst e1;subst e2;exact#[hs,kk _ hk M H _ L .refl U]
theorem Jq:qI X c WS XS:=λM s as O H x y dx dy k Q L rx ry z3r kk=>by
 let((f1,f2,hs),hk):=z3r;have e1:=rx.flat f1;have e2:=ry.flat f2;subst e1;subst e2;exact#[hs,kk _ hk M H _ L .refl U]
def YB(neg:Bool):D->D->(D->Prop)->Prop:=λa b k=>∃ ds,(b=.lst ds\/b=.tup ds)/\(iF a=true/\ds.all iF=true)/\k (.bl (if neg then (not (yU (fv a) (ds.map fv))) else yU (fv a) (ds.map fv)))
theorem okIn{neg:Bool}:qI X c (LO X.K neg) (YB neg):=λM s as O H x y dx dy k Q L rx ry z4r kk=>by
 let(ds,hb,(f1,f2),hk):=z4r;have e1:=rx.flat f1;subst e1;have go:∀ {p xs},av X.K H M ds xs->(dM X.K H p xs\/ja X.K H p xs)->LO X.K neg (fv dx) (.ref p) H Q:=λ{p xs} r h=>by
  let(e,f):=r.flat f2;show#[p,xs,U,h,pL f1,f,?_];rw[e];exact kk _ hk M H _ L .refl U
 rcases hb with rfl | rfl
 .let(p,xs,rfl,(m,h),r):=ry;exact go r (.inl (.of h))
 .let(p,xs,rfl,h,r):=ry;exact go r (.inr h.sq)
theorem av.at{K:Frag}{H:Hp}{M:AC->Prop}{ds:!D}{vs:!V}{i:Int}{d:D}(r:av K H M ds vs)(h:kW ds i=some d):∃ v,kW vs i=some v/\Rep K H M d v:=by
 unfold kW at h ⊢;rw[r.length];cases e:zC ds.length i with
 | none=>rw[e] at h;cases h
 | some j =>
  rw[e] at h;exact r.get h
def OZ:D->D->(D->Prop)->Prop:=λa b k=>∃ ds i d,a=.tup ds/\b=.int i/\kW ds i=some d/\k d
def Od:D->D->(D->Prop)->Prop:=λa b k=>∃ ds i d,a=.lst ds/\b=.int i/\kW ds i=some d/\k d
def Sr:D->D->(D->Prop)->Prop:=λa b k=>∃ z i ch,a=.str z/\b=.int i/\z.length<=FB/\kW z.cps.toList i=some ch/\k (.str #[#v[ch]])
theorem Qg:qI X c (Pf X.K) OZ:=λM s as O H x y dx dy k Q L rx ry z5r kk=>by
 let(ds,i,d,e1,e2,h,hk):=z5r;subst e1;subst e2;let(p,xs,rfl,t,r):=rx;let(v,h1,h2):=r.at h;exact#[p,xs,i,v,U,ry,t.sq,h1,kk _ hk M H _ L .refl h2]
theorem Np:qI X c (K2 X.K) Od:=λM s as O H x y dx dy k Q L rx ry z6r kk=>by
 let(ds,i,d,e1,e2,h,hk):=z6r;subst e1;subst e2;let(p,xs,rfl,(m,t),r):=rx;let(v,h1,h2):=r.at h;exact#[p,xs,i,v,U,ry,.of t,h1,kk _ hk M H _ L .refl h2]
theorem yS:qI X c NT Sr:=λM s as O H x y dx dy k Q L rx ry z7r kk=>by
 let(z,i,ch,e1,e2,hz,h,hk):=z7r;subst e1;subst e2;exact#[z,i,ch,rx,ry,hz,h,kk _ hk M H _ L .refl U]
def S0:D->D->(D->Prop)->Prop:=λa b k=>∃ xs ys,a=.lst xs/\b=.lst ys/\xs.length+ys.length<=FB/\k (.lst (xs++ys))
theorem a9:Kw X c Ph S0:=λM s as O H x y dx dy k Q L rx ry z8r kk=>by
 let(xs,ys,e1,e2,hl,hk):=z8r;subst e1;subst e2;let(p,vs,rfl,(m,t),r):=rx;let(p',Ig,rfl,(m',t'),r'):=ry;exact#[p,p',vs,Ig,U,U,t,t',by rw[r.length,r'.length];exact hl,λq hq=>kk _ hk q _ hq (r.append r')]
abbrev E7:=DS->(Option Int->DS->Prop)->Prop
def tO(K:Frag)(c:Ent)(t:E7):TO:=λO H Q=>∃ M s as R,aB K c M s as O H/\t s R/\∀ o s',R o s'->∀ M' H',aB K c M' s' as O H'->Ext c as M s H M' s' H'->Q o H'
structure DO(X:Cx)(c:Ent)(e:Option Da)(t:E7):Prop where
 po:PO X e (tO X.K c t)
theorem _root_.L2.PO.imp{e:Option Da}{t t':TO}(h:PO X e t)(w:∀ O H Q,t' O H Q->t O H Q):PO X e t':=λTl s O H Q I q=>h Tl s O H Q I (w O H Q q)
def RU:E7:=λs Q=>Q none s
def Jw(te:bA):E7:=λs Q=>te s λd s1=>∃ i,d=.int i/\Q (some i) s1
theorem bw:DO X c none RU:=#[zV.imp λO H Q zz=>eF zz λM s as R L q k=>k none s q M H L .refl]
theorem bb{e:Da}{te:bA}(h:DE X c e te):DO X c (some e) (Jw te):=#[(oE h.pe).imp λO H Q zz=>eF zz λM s as R L q k =>
 #[M,s,as,_,L,q,λd s1 z9r M' H' v L' E' rv=>by
  let(i,e,r):=z9r;subst e;exact#[i,rv,k (some i) s1 r M' H' L' E']]]
def cutD(xs:!D)(lo hi:Option Int):!D:=(xs.drop (HT.ck xs.length 0 lo)).take (HT.ck xs.length xs.length hi - HT.ck xs.length 0 lo)
theorem av.cut{K:Frag}{H:Hp}{M:AC->Prop}{ds:!D}{vs:!V}(lo hi:Option Int)(r:av K H M ds vs):av K H M (cutD ds lo hi) (ph vs lo hi):=by
 unfold cutD ph;rw[r.length];exact (r.drop _).take _
def Nj(te:bA)(tl th:E7)(k:!D->Option Int->Option Int->(D->Prop)->D->Prop):bA:=λs Q=>te s λa s1=>tl s1 λl s2=>th s2 λu s3=>∃ ds,k ds l u (λd=>Q d s3) a
def Y0:!D->Option Int->Option Int->(D->Prop)->D->Prop:=λds l u Q a=>a=.lst ds/\Q (.lst (cutD ds l u))
def Uc:!D->Option Int->Option Int->(D->Prop)->D->Prop:=λds l u Q a=>a=.tup ds/\Q (.tup (cutD ds l u))
theorem bK{e:Da}{lo hi:Option Da}{te:bA}{tl th:E7}{p2 pos:Pos}(he:DE X c e te)(hl:DO X c lo tl)(hu:DO X c hi th):DN X c (.Subscript e (.Slice lo hi none p2) pos) (Nj te tl th Y0):=#[(iV zN he.pe hl.po hu.po).imp λO H Q zz=>eF zz λM s as R L q k =>
 #[M,s,as,_,L,q,λd s1 q1 M1 H1 v L1 E1 rv=>#[M1,s1,as,_,L1,q1,λl s2 q2 M2 H2 Lb E2=>#[M2,s2,as,_,Lb,q2,λu s3 q3 M3 H3 Lc E3=>by
  let(ds,e,q):=q3;subst e;have E13:=E2.trans Lb.base E3;let(p,xs,rfl,(m,t),r):=E13.rep L1 rv;exact#[p,xs,U,.of t,λb hb=>mX (d:=.lst _) L Lc (E1.trans L1.base E13) hb (r.cut l u) (k _ s3 q)]]]]]
theorem qz{e:Da}{lo hi:Option Da}{te:bA}{tl th:E7}{p2 pos:Pos}(he:DE X c e te)(hl:DO X c lo tl)(hu:DO X c hi th):DE X c (.Subscript e (.Slice lo hi none p2) pos) (Nj te tl th Uc):=#[(iV FJ he.pe hl.po hu.po).imp λO H Q zz=>eF zz λM s as R L q k =>
 #[M,s,as,_,L,q,λd s1 q1 M1 H1 v L1 E1 rv=>#[M1,s1,as,_,L1,q1,λl s2 q2 M2 H2 Lb E2=>#[M2,s2,as,_,Lb,q2,λu s3 q3 M3 H3 Lc E3=>by
  let(ds,e,q):=q3;subst e;have E13:=E2.trans Lb.base E3;have E0:=E1.trans L1.base E13;let(p,xs,rfl,t,r):=E13.rep L1 rv;show#[p,xs,U,t.sq,λhw=>?_,λhw b hb=>?_]
  .have e:cutD ds l u=ds:=by
    unfold cutD;rw[<- r.length,hw.1,hw.2,aa1,r.length,Nat.sub_zero,List.take_length]
   rw[e] at q;exact k _ s3 q M3 H3 _ Lc E0 #[p,xs,U,t,r]
  .exact k _ s3 q _ _ _ (Lc.fresh hb) (E0.trans Lc.base (Ext.fresh hb)) #[b,_,U,#[.inr U,aj],oG hb (r.cut l u)]]]]]
def UZ:D->(D->Prop)->Prop:=λa k=>∃ ds,a=.lst ds/\k (.lst ds.reverse)
theorem Hw{e st:Da}{te:bA}{p2 pos:Pos}(he:DE X c e te)(jQ:PE X st (tC (.int (-1)))):DN X c (.Subscript e (.Slice none none (some st) p2) pos) (XQ UZ te):=#[(Ca he.pe jQ).imp λO H Q zz=>eF zz λM s as R L q k =>
 #[M,s,as,_,L,q,λd s1 z0r M1 H1 v L1 E1 rv=>by
  let(ds,e,q1):=z0r;subst e;let(p,xs,rfl,(m,t),r):=rv;exact#[p,xs,U,.of t,λb hb=>mX (d:=.lst _) L L1 E1 hb r.reverse (k _ s1 q1)]]]
def m5(C:abM)(t:eQ):bA:=λs Q=>t s λds s1=>C ds λd=>Q d s1
def BP(X:Cx)(c:Ent)(r:!V->Hp->VK->Prop)(C:abM):Prop:=∀ (M:AC->Prop) (s:DS) (as:!AC) (O:St) (H:Hp) (xs:!V) (ds:!D) (k:D->Prop) (Q:VK),aB X.K c M s as O H->av X.K H M ds xs->C ds k ->
 (∀ d,k d->∀ M' H' v,aB X.K c M' s as O H'->Ext c as M s H M' s H'->Rep X.K H' M' d v->Q v H')->r xs H Q
def FP(X:Cx)(c:Ent)(r:!V->Hp->VK->Prop)(C:abM):Prop:=∀ (M:AC->Prop) (s:DS) (as:!AC) (O:St) (H:Hp) (xs:!V) (ds:!D) (k:D->Prop) (Q:VK),aB X.K c M s as O H->av X.K H M ds xs->C ds k ->
 (∀ d,k d->∀ p o,H p=none->cx X.K H M d o->Q (.ref p) (upd H p o))->r xs H Q
section
variable{x:Str}{p pos:Pos}{e:Da}{es:!Da}{t:eQ}{id T:String}{r:!V->Hp->VK->Prop}{C:abM}
theorem Im{n:Nat}(k:BP X c r C){O:St}{H:Hp}{Q:VK}:tE X.K c (m5 C t) O H Q->HY r (tA X.K c n t) O H Q:=λzz=>eF zz λM s as R L q kk =>
 #[M,s,as,_,L,q,λds s1 q1 M1 H1 vs L1 E1 r1 hl=>k M1 s1 as O H1 vs ds (λd=>R d s1) Q L1 r1 q1 λd rd M' H' v L' E' rv=>kk d s1 rd M' H' v L' (E1.trans L1.base E') rv]
theorem IV{n:Nat}(k:FP X c r C){O:St}{H:Hp}{Q:VK}:tN X.K c (m5 C t) O H Q->HY r (tA X.K c n t) O H Q:=λzz=>eF zz λM s as R L q kk =>
 #[M,s,as,_,L,q,λds s1 q1 M1 H1 vs L1 E1 r1 hl=>k M1 s1 as O H1 vs ds (λd=>R d s1) Q L1 r1 q1 λd rd p o hp ro=>mX L L1 E1 hp ro (kk d s1 rd)]
theorem a8(hc:eE X (.builtin id) r)(k:BP X c r C)(hg:Gl X x)(hm:X.mg x=none)(hv:bootBuiltins x=some (.builtin id))(ha:DA X c (e::es) t)(hn: ~~~(x≠"__name__"))(fM: ~~~(abP x))(he:(abN X.env e es)⁻¹)(dI:(abO X.env pos es)⁻¹):DE X c (.Call (.Name x p) (e::es) [] pos) (m5 C t):=#[(cq hc hg hm hv ha.pa hn fM he dI).imp λ_ _ _=>Im k]
theorem fU(hc:eE X (.type T) r)(k:BP X c r C)(hg:Gl X x)(hm:X.mg x=none)(hv:bootBuiltins x=some (.type T))(ha:DA X c (e::es) t)(hn: ~~~(x≠"__name__"))(fM: ~~~(abP x))(he:(abN X.env e es)⁻¹)(dI:(abO X.env pos es)⁻¹):DE X c (.Call (.Name x p) (e::es) [] pos) (m5 C t):=#[(rP hc hg hm hv ha.pa hn fM he dI).imp λ_ _ _=>Im k]
theorem vF(hc:eE X (.type T) r)(k:FP X c r C)(hg:Gl X x)(hm:X.mg x=none)(hv:bootBuiltins x=some (.type T))(ha:DA X c (e::es) t)(hn: ~~~(x≠"__name__"))(fM: ~~~(abP x))(he:(abN X.env e es)⁻¹)(dI:(abO X.env pos es)⁻¹):DN X c (.Call (.Name x p) (e::es) [] pos) (m5 C t):=#[(rP hc hg hm hv ha.pa hn fM he dI).imp λ_ _ _=>IV k]
end
theorem cG{K:Frag}{H:Hp}{M:AC->Prop}{d:D}{vs:!V}(r:av K H M [d] vs):∃ v,vs=[v]/\Rep K H M d v:=by
 let(x,xr,rfl,r1,r2):=r;have r2:xr=[]:=r2;subst r2;exact#[x,U,r1]
theorem wz{K:Frag}{H:Hp}{M:AC->Prop}{d e:D}{vs:!V}(r:av K H M [d,e] vs):∃ v w,vs=[v,w]/\Rep K H M d v/\Rep K H M e w:=by
 let(x,xr,rfl,r1,r2):=r;let(y,rfl,r3):=cG r2;exact#[x,y,U,r1,r3]
def PL:abM:=λas k=>∃ ds,(as=[.lst ds]\/as=[.tup ds])/\k (.int ds.length)
theorem OO:BP X c (λxs H Q=>∃ p ys,xs=[.ref p]/\(dM X.K H p ys\/ja X.K H p ys)/\Q (.int ys.length) H) PL:=λM s as O H xs ds k Q L r z1r kk=>by
 let(es,hb,hk):=z1r;rcases hb with rfl | rfl
 .let(v,rfl,p,ys,rfl,(m,h),r'):=cG r;show#[p,ys,U,.inl (.of h),?_];rw[r'.length];exact kk _ hk M H _ L .refl U
 .let(v,rfl,p,ys,rfl,h,r'):=cG r;show#[p,ys,U,.inr h.sq,?_];rw[r'.length];exact kk _ hk M H _ L .refl U
def Qm:abM:=λas k=>∃ z,as=[.str z]/\z.length<=FB/\k (.int z.length)
theorem kj:BP X c (λxs H Q=>∃ z,xs=[.str z]/\z.length<=FB/\Q (.int z.length) H) Qm:=λM s as O H xs ds k Q L r z2r kk=>by
 let(z,e,hz,hk):=z2r;subst e;let(v,rfl,e):=cG r;have e:v=.str z:=e;subst e;exact#[z,U,hz,kk _ hk M H _ L .refl U]
def Ol:abM:=λas k=>(∃ i,as=[.int i]/\k (.int i))\/∃ b,as=[.bl b]/\k (.int (if b then 1 else 0))
theorem xt:BP X c (λxs H Q=>(∃ i,xs=[.int i]/\Q (.int i) H)\/∃ k,xs=[.bl k]/\Q (.int (if k then 1 else 0)) H) Ol:=λM s as O H xs ds k Q L r h kk=>by
 rcases h with ⟨i,rfl,hk⟩ | ⟨i,rfl,hk⟩
 .let(v,rfl,e1):=cG r;have e1:v=.int i:=e1;subst e1;exact .inl #[i,U,kk _ hk M H _ L .refl U]
 .let(v,rfl,e1):=cG r;have e1:v=.bl i:=e1;subst e1;exact .inr #[i,U,kk _ hk M H _ L .refl U]
def ON:abM:=λas k=>∃ ds,(as=[.lst ds]\/as=[.tup ds])/\k (.lst ds)
theorem Cu:FP X c (λxs H Q=>∃ p ys,xs=[.ref p]/\(dM X.K H p ys\/ja X.K H p ys)/\∀ l,H l=none->Q (.ref l) (upd H l (.lst ys))) ON:=λM s as O H xs ds k Q L r z3r kk=>by
 let(es,hb,hk):=z3r;rcases hb with rfl | rfl
 .let(v,rfl,p,ys,rfl,(m,h),r'):=cG r;exact#[p,ys,U,.inl (.of h),λl hl=>kk _ hk l _ hl r']
 .let(v,rfl,p,ys,rfl,h,r'):=cG r;exact#[p,ys,U,.inr h.sq,λl hl=>kk _ hk l _ hl r']
def MR:abM:=λas k=>∃ ds,(as=[.lst ds]\/as=[.tup ds])/\k (.tup ds)
theorem MW:BP X c (λxs H Q=>∃ p ys,xs=[.ref p]/\((dM X.K H p ys/\∀ l,H l=none->Q (.ref l) (upd H l (.tup ys)))\/(ja X.K H p ys/\Q (.ref p) H))) MR:=λM s as O H xs ds k Q L r z4r kk=>by
 let(es,hb,hk):=z4r;rcases hb with rfl | rfl
 .let(v,rfl,p,ys,rfl,(m,h),r'):=cG r;exact#[p,ys,U,.inl #[.of h,λl hl=>kk _ hk _ _ _ (L.fresh hl) (Ext.fresh hl) #[l,ys,U,#[.inr U,aj],oG hl r']]]
 .let(v,rfl,p,ys,rfl,h,r'):=cG r;exact#[p,ys,U,.inr #[h.sq,kk _ hk M H _ L .refl #[p,ys,U,h,r']]]
def SM:abM:=λas k=>∃ bs:!Bool,as=[.lst (bs.map .bl)]/\k (.bl (bs.all id))
theorem zj{K:Frag}{H:Hp}{M:AC->Prop}:∀ {bs:!Bool} {vs:!V},av K H M (bs.map .bl) vs->vs=bs.map V.bl
 | [],vs,r=>r
 | b::bs,vs,r=>by
  let(x,xr,rfl,r1,r2):=r;have r1:x=.bl b:=r1;rw[r1,zj r2,ZG]
theorem yI:BP X c (λxs H Q=>∃ (p:AC) (bs:!Bool),xs=[.ref p]/\dM X.K H p (bs.map V.bl)/\Q (.bl (bs.all id)) H) SM:=λM s as O H xs ds k Q L r z5r kk=>by
 let(bs,e,hk):=z5r;subst e;let(v,rfl,p,ys,rfl,(m,h),r'):=cG r;rw[zj r'] at h;exact#[p,bs,U,.of h,kk _ hk M H _ L .refl U]
def Pm(te:bA):eQ:=λs Q=>te s λd s1=>∃ ds,(d=.lst ds\/d=.tup ds)/\Q ds s1
theorem nJ{tg e:Da}{te:bA}(he:DE X c e te):DI X c tg e (Pm te):=#[λTl s O H R I zz=>eF zz λM s0 as R0 L q k=>Ju he.pe Tl s O H R I
 #[M,s0,as,_,L,q,λd s1 z6r M1 H1 v L1 E1 rv=>by
  let(ds,hd,q1):=z6r;rcases hd with rfl | rfl
  .let(p,xs,rfl,(m,h),r):=rv;show#[p,U,.inl #[xs,.of h,λhl=>k ds s1 q1 M1 H1 _ L1 E1 (λM2 H2 G=>?_) (by rw[<- r.length];exact hl)]];have h2:H2 p=some (.lst xs):=(G p m).2 _ h;have r2:=G.qN r;show#[λi hi=>#[xs,.of h2,by rw[r.length];exact hi],λi d hd=>?_];let(v,g1,g2):=r2.get hd;show#[#[xs,v,.of h2,g1],λx H3 #[e,hx]=>.inl #[e,?_]];have:=hx xs (.of h2);rw[g1] at this;cases this;exact g2
  .let(p,xs,rfl,h,r):=rv;show#[p,U,.inr #[xs,h.sq,λhl=>k ds s1 q1 M1 H1 _ L1 E1 (λM2 H2 G=>?_) (by rw[<- r.length];exact hl)]];have h2:ja X.K H2 p xs:=(h.mono (λb m=>(G b m).1) λb o m e=>(G b m).2 o e).sq;have r2:=G.qN r;show#[λi hi=>#[xs,h2,by rw[r.length];exact hi],λi d hd=>?_];let(v,g1,g2):=r2.get hd;show#[#[xs,v,h2,g1],λx H3 #[e,hx]=>.inl #[e,?_]];have:=hx xs h2;rw[g1] at this;cases this;exact g2]]
def fR(lo:Int)(n:Nat):!D:=(List.range n).map λi=>.int (lo+(i:Nat))
def NQ(t:eQ):eQ:=λs Q=>t s λds s1=>∃ j:Int,ds=[.int j]/\(-(2 ^ 62)<=j/\j<=16777216)/\Q (fR 0 j.toNat) s1
theorem DJ{K:Frag}{M:AC->Prop}{H:Hp}{lo:Int}{n:Nat}:OH K M H (fR lo n) (JO lo n):=λM1 H1 G =>
 #[λi hi=>by
  change n<=i;simpa [fR] using hi,λi d hd=>by
  unfold fR at hd;rw[Z8] at hd;let(j,h1,h2):=ZN.mp hd;let(hl,e):=ZF.mp h1;simp at hl e;subst e;subst h2;exact#[hl,λx H2 #[e,hx]=>.inl #[e,hx]]]
section
variable{tg a b:Da}{t:eQ}{p pos:Pos}
theorem pF(hg:Gl X "range")(hm:X.mg "range"=none)(ha:DA X c [a] t)(hs:(Go [a] X.env=[(false,eval a X.env)])⁻¹):DI X c tg (.Call (.Name "range" p) [a] [] pos) (NQ t):=#[λTl s O H R I zz=>eF zz λM s0 as R0 L q k=>qW hg hm ha.pa hs Tl s O H R I
 #[M,s0,as,_,L,q,λds s1 z7r M1 H1 vs L1 E1 r _=>by
  let(j,e,(h1,h2),q1):=z7r;subst e;let(v,rfl,e):=cG r;have e:v=.int j:=e;subst e;exact#[j,U,h1,by cbv,k _ s1 q1 M1 H1 _ L1 E1 DJ (by simp[fR,FB];cbv)]]]
end
end
section
variable{X:Cx}{c:Ent}
def V3:D->Bool
 | .lst _=>true
 | _=>false
def KS:D->Bool
 | .DM _ _=>true
 | .EV _ _=>true
 | _=>false
theorem EC{K:Frag}{H:Hp}{M:AC->Prop}{d:D}{o:HO}(h:V3 d=true)(r:cx K H M d o):∃ xs,o=.lst xs:=by
 cases d<;>first | (cases h;done) | (cases o<;>first | exact#[_,U] | exact r.elim)
def NC(i:Nat)(C:D->!D->(D->D->Prop)->Prop)(ta:eQ):bA:=λs Q=>∃ k d0,s.sl[i]?=some (.own k)/\s.os[k]?=some (some d0)/\V3 d0=true/\ta s λds s1=>∃ d1,s1.os[k]?=some (some d1)/\C d1 ds λdr d2=>Q dr (s1.put k d2)
def Io(X:Cx)(r:V->!V->Hp->VK->Prop)(C:D->!D->(D->D->Prop)->Prop):Prop:=∀ (M:AC->Prop) (H:Hp) (a:AC) (o:HO) (d1:D) (ds:!D) (vs:!V) (k:D->D->Prop) (Q:VK),H a=some o->cx X.K H M d1 o->av X.K H M ds vs->¬ M a->C d1 ds k ->
 (∀ dr d2,k dr d2->∀ o' v,cx X.K H M d2 o'->Rep X.K H M dr v->Q v (upd H a o'))->r (.ref a) vs H Q
theorem N9{i n:Nat}{r:V->!V->Hp->VK->Prop}{C:D->!D->(D->D->Prop)->Prop}{ta:eQ}(ok:Io X r C){O:St}{H:Hp}{Q:VK}:tE X.K c (NC i C ta) O H Q->WV X.K "list" r (bO i) (tA X.K c n ta) O H Q:=λz9q=>by
 let(M,s,as,R,L,(k,d0,h1,h2,h3,q),kk):=z9q;let(a,o,g1,g2,g3,g4):=L.slot h1 h2;let(xs,rfl):=EC h3 g4;show#[.ref a,g2,.inl #[U,xs,.of g3],M,s,as,_,L,q,λds s1 z0q M1 H1 vs L1 E1 r1 hl=>?_];let(d1,e1,q1):=z0q;let((o1,f1,f2),nm,ng,h0):=L1.obj k d1 a e1 g1;show ok M1 H1 a o1 d1 ds vs _ Q f1 f2 r1 nm q1 λdr d2 hk o' v ro rv=>?_;have E2:Ext c as M1 s1 H1 M1 (s1.put k d2) (upd H1 a o'):=Ext.xQ e1 g1;exact kk dr _ hk M1 _ v (L1.xQ e1 g1 ro) (E1.trans L1.base E2) (E2.rep L1 rv)
def HJ:eQ:=λs Q=>Q [] s
theorem LA{i:Nat}{r:V->!V->Hp->VK->Prop}{C:D->!D->(D->D->Prop)->Prop}(ok:Io X r C){O:St}{H:Hp}{Q:VK}:tE X.K c (NC i C HJ) O H Q->K3 X.K "list" r (bO i) O H Q:=λz1q=>by
 let(M,s,as,R,L,(k,d0,h1,h2,h3,d1,e1,q1),kk):=z1q;let(a,o,g1,g2,g3,g4):=L.slot h1 h2;let(xs,rfl):=EC h3 g4;show#[.ref a,g2,.inl #[U,xs,.of g3],?_];let((o1,f1,f2),nm,ng,h0):=L.obj k d1 a e1 g1;show ok M H a o1 d1 [] [] _ Q f1 f2 U nm q1 λdr d2 hk o' v ro rv=>?_;have E2:Ext c as M s H M (s.put k d2) (upd H a o'):=Ext.xQ e1 g1;exact kk dr _ hk M _ v (L.xQ e1 g1 ro) E2 (E2.rep L rv)
section
variable{o e:Da}{es:!Da}{i:Nat}{t:eQ}{name:Str}{apos bq:Pos}{id:String}{r:V->!V->Hp->VK->Prop}{C:D->!D->(D->D->Prop)->Prop}
theorem JE(slot:Slot "list" name id)(K1:typeOf (.builtin id)=pure (.type "method_descriptor"))(hm:QG X id r)(ok:Io X r C)(ho:PE X o (bO i))(ha:DA X c (e::es) t)(eD:(attributeBase o name X.env (eval o X.env)=eval o X.env)⁻¹)(kb:(((KB bq (Go (e::es) X.env)).all (λx=>(not x.1))&&(ST bq (SZ [] X.env)).all (λx=>x.1.isSome)
   && decide ((e::es).length+([]:!Ps).length+(if ([]:!Ps).isEmpty then 0 else 1) < 30))=true)⁻¹)(eM:((apos.endLine == bq.line)=true)⁻¹)(hs:(abN X.env e es)⁻¹)(d6:((KB bq (Go es X.env)).any (·.1)=false)⁻¹) :
  DE X c (.Call (.Attribute o name apos) (e::es) [] bq) (NC i C t):=#[(iD aag slot K1 hm ho ha.pa eD kb eM hs d6).imp λ_ _ _=>N9 ok]
theorem Mo(slot:Slot "list" name id)(K1:typeOf (.builtin id)=pure (.type "method_descriptor"))(hm:QG X id r)(ok:Io X r C)(ho:PE X o (bO i))(eD:(attributeBase o name X.env (eval o X.env)=eval o X.env)⁻¹)(eM:((apos.endLine == bq.line)=true)⁻¹):DE X c (.Call (.Attribute o name apos) [] [] bq) (NC i C HJ) :=
 #[(w9 aag slot K1 hm ho eD eM).imp λ_ _ _=>LA ok]
end
def Pu:D->!D->(D->D->Prop)->Prop:=λd ds k=>∃ xs x,d=.lst xs/\ds=[x]/\xs.length < FB/\k .bX (.lst (xs++[x]))
theorem Qk:Io X zr Pu:=λM H a o d ds vs k Q ha ro rv nm z8r kk=>by
 let(xs,x,e1,e2,hl,hk):=z8r;subst e1;subst e2;cases o with
 | lst ys =>
  have ro:av X.K H M xs ys:=ro;let(v,rfl,rx):=cG rv;exact#[a,ys,v,U,U,ha,by rw[ro.length];exact hl,kk _ _ hk _ _ (show cx X.K H M (.lst _) (.lst _) from ro.append (.one rx)) U]
 | _=>exact ro.elim
def U0:D->!D->(D->D->Prop)->Prop:=λd ds k=>∃ xs ys,d=.lst xs/\ds=[.lst ys]/\xs.length+ys.length<=FB/\k .bX (.lst (xs++ys))
theorem N8:Io X zZ U0:=λM H a o d ds vs k Q ha ro rv nm z9r kk=>by
 let(xs,ys,e1,e2,hl,hk):=z9r;subst e1;subst e2;cases o with
 | lst us =>
  have ro:av X.K H M xs us:=ro;let(v,rfl,b,zs,rfl,(m,hb),rz):=cG rv;exact#[a,b,us,zs,U,U,ha,hb,by rw[ro.length,rz.length];exact hl,kk _ _ hk _ _ (show cx X.K H M (.lst _) (.lst _) from ro.append rz) U]
 | _=>exact ro.elim
theorem av.snoc{K:Frag}{H:Hp}{M:AC->Prop}:∀ {ds:!D} {x:D} {vs:!V},av K H M (ds++[x]) vs->∃ us v,vs=us++[v]/\av K H M ds us/\Rep K H M x v
 | [],x,vs,r=>by
  let(v,rfl,h):=cG r;exact#[[],v,U,U,h]
 | d::ds,x,vs,r=>by
  let(y,yr,rfl,r1,r2):=r;let(us,v,rfl,h1,h2):=av.snoc (ds:=ds) r2;exact#[y::us,v,U,#[y,us,U,r1,h1],h2]
def Ri:D->!D->(D->D->Prop)->Prop:=λd ds k=>∃ xs x,d=.lst (xs++[x])/\ds=[]/\k x (.lst xs)
theorem OR:Io X K4 Ri:=λM H a o d ds vs k Q ha ro rv nm z0r kk=>by
 let(xs,x,e1,e2,hk):=z0r;subst e1;subst e2;cases o with
 | lst us =>
  let(ws,v,rfl,r1,r2):=av.snoc (show av X.K H M (xs++[x]) us from ro);have rv:vs=[]:=rv;subst rv;show#[a,ws++[v],v,U,U,ha,by simp,?_];rw[abI];exact kk _ _ hk _ _ (show cx X.K H M (.lst _) (.lst _) from r1) r2
 | _=>exact ro.elim
def Kq:D->!D->(D->D->Prop)->Prop:=λd ds k=>∃ xs i j x,d=.lst xs/\ds=[.int i]/\(-(2 ^ 63)<=i/\i < 2 ^ 63)/\seqIndex? i xs.length=some j/\xs[j]?=some x/\k x (.lst (xs.eraseIdx j))
theorem Hk:Io X Dr Kq:=λM H a o d ds vs k Q ha ro rv nm z2q kk=>by
 let(xs,i,j,x,e1,e2,(h1,h2),h3,h4,hk):=z2q;subst e1;subst e2;cases o with
 | lst us =>
  have ro:av X.K H M xs us:=ro;let(v,rfl,e):=cG rv;have e:v=.int i:=e;subst e;let(w,g1,g2):=ro.get h4;exact#[a,us,i,j,w,U,U,ha,h1,h2,by rw[ro.length];exact h3,g1,kk _ _ hk _ _ (show cx X.K H M (.lst _) (.lst _) from ro.eraseIdx j) g2]
 | _=>exact ro.elim
def Ja(i:Nat)(te ti:bA):jX:=λR s=>te s λd s1=>∃ k,s1.sl[i]?=some (.own k)/\ti s1 λdi s2=>∃ xs z j,s2.os[k]?=some (some (.lst xs))/\di=.int z/\zC xs.length z=some j/\R.nx (s2.put k (.lst (xs.set j d)))
theorem yO{i:Nat}{st:Fk}{te ti:bA}(h:PS X st (jh (tE X.K c te) (MV (bO i) (tE X.K c ti) HK))):qH X c st (Ja i te ti):=#[h.imp λE O H zz=>eF zz λM s as R L q kk =>
 #[M,s,as,_,L,q,λd s1 z3q M1 H1 v L1 E1 rv=>by
  let(k,h1,q1):=z3q;let(a,g1,g2):=L1.own i k h1;show#[.ref a,g2,M1,s1,as,_,L1,q1,λdi s2 z4q M2 H2 w Lb E2 rw=>?_];let(xs,z,j,h2,e,hj,q2):=z4q;subst e;let((o,f1,f2),nm,ng,h0):=Lb.obj k _ a h2 g1;cases o with
  | lst us =>
   have f2:av X.K H2 M2 xs us:=f2;have rw:w=.int z:=rw;subst rw;have rv2:=E2.rep L1 rv;have hG:eC M H M2 (upd H2 a (.lst (us.set j v))):=(E1.grow L).trans ((E2.grow L1).trans ((Ext.xQ (c:=c) (M:=M2) (d:=.lst (xs.set j d)) h2 g1).grow Lb));exact#[a,us,z,j,U,U,f1,by rw[f2.length];exact hj,kk.nx _ as M2 O _ q2 (Lb.xQ h2 g1 (show cx X.K H2 M2 (.lst _) (.lst _) from f2.set rv2 j)) hG]
  | _=>exact f2.elim]]
def Nn(i:Nat):nK:=λs Q=>∃ k xs,s.sl[i]?=some (.own k)/\s.os[k]?=some (some (.lst xs))/\Q (not xs.isEmpty) s
theorem vL{α β:Type}{l:!α}{m:!β}(h:l.length=m.length):l.isEmpty=m.isEmpty:=by
 cases l<;>cases m<;>first | rfl | simp at h
theorem GS{i:Nat}{e:Da}(he:PE X e (bO i))(hw:∀ whole,isTrue e X.env whole=(do let v <- whole;standAt e.pos;holding [v] (truthy v)):=by intro _;rfl):DT X c e (Nn i):=#[(Bz he hw).imp λO H Q z5q=>by
 let(M,s,as,R,L,(k,xs,h1,h2,q),kk):=z5q;let(a,o,g1,g2,g3,g4):=L.slot h1 h2;cases o with
 | lst us =>
  have g4:av X.K H M xs us:=g4;show#[_,g2,(not us.isEmpty),.inl #[us,.of g3,U],?_];rw[vL g4.length];exact kk _ s q M H L .refl
 | _=>exact g4.elim]
def vi(k:Nat)(d:D):Sl->Sl
 | .own j=>if j=k then .dat d else .own j
 | x=>x
def DS.freeze(s:DS)(k:Nat)(d:D):DS:=#[s.sl.map (vi k d),s.os.set k none]
def NZ(i:Nat):bA:=λs Q=>∃ k d,s.sl[i]?=some (.own k)/\s.os[k]?=some (some d)/\Q d (s.freeze k d)
theorem SX{i:Nat}{e:Da}(h:PE X e (bO i)):DE X c e (NZ i):=#[h.imp λO H Q z6q=>by
 let(M,s,as,R,L,(k,d,h1,h2,q),kk):=z6q;let(a,o,g1,g2,g3,g4):=L.slot h1 h2;let(_,nm,ng,h0):=L.obj k d a h2 g1;show#[_,g2,?_];have mk:∀ b u,M b->H b=some u->H b=some u:=λ_ _ _ e=>e;have ra:Rep X.K H (λb=>M b\/b=a) d (.ref a):=(g4.mono (λ_ m=>.inl m) mk).rep g3 (.inr U);have xA:∀ {l:Nat} {e:D},(s.freeze k d).os[l]?=some (some e)->l≠k/\s.os[l]?=some (some e):=λ{l e} h=>by
  rcases bG h with ⟨rfl,hl,q⟩ | ⟨ne,q⟩
  .cases q
  .exact#[λz=>ne z.symm,q]
 show kk d _ q (λb=>M b\/b=a) H (.ref a) #[#[L.base.lQ,L.base.fr,λb m=>?_,λb m=>?_,λb m=>.inl (L.base.m0 b m),λb m=>?_],?_,?_,λj e he=>?_,λj l hj=>?_,λl e b e1 e2=>?_,λl m e f b e1 e2 f1 f2=>?_,L.lt] #[λ_ m=>.inl m,λb m=>?_,λ_ _ e _ _=>e,λb z7q=>by let(l,e,e1,e2):=z7q;exact#[l,e,(xA e1).2,e2]] ra
 .rcases m with m | rfl
  .exact L.base.md b m
  .exact#[o,g3]
 .rcases m with m | rfl
  .exact L.base.mo b m
  .exact ng
 .rcases m with m | rfl
  .exact L.base.mn b m
  .exact .inr (.inl h0)
 .show (s.sl.map _).length=_;rw[Zy];exact L.len
 .show as.length=(s.os.set k none).length;rw[aab];exact L.e8
 .have he:(s.sl.map (vi k d))[j]?=some (.dat e):=he;rw[Z8] at he;let(x,hx,hy):=ZN.mp he;cases x with
  | no=>cases hy
  | dat y =>
   cases hy;let(v,w1,w2):=L.dat j e hx;exact#[v,w1,Rep.mono (λ_ m=>.inl m) mk e v w2]
  | own l =>
   replace hy:(if l=k then Sl.dat d else Sl.own l)=.dat e:=hy
   by_cases z:l=k
   .rw[if_pos z] at hy;cases hy;subst z;let(b,w1,w2):=L.own j l hx;rw[g1] at w1;cases w1;exact#[_,w2,ra]
   .rw[if_neg z] at hy;cases hy
 .have hj:(s.sl.map (vi k d))[j]?=some (.own l):=hj;rw[Z8] at hj;let(x,hx,hy):=ZN.mp hj;cases x with
  | no=>cases hy
  | dat y=>cases hy
  | own l' =>
   replace hy:(if l'=k then Sl.dat d else Sl.own l')=.own l:=hy
   by_cases z:l'=k
   .rw[if_pos z] at hy;cases hy
   .rw[if_neg z] at hy;cases hy;exact L.own j l hx
 .let(ne,e1'):=xA e1;let((u,w1,w2),w3,w4):=L.obj l e b e1' e2;show#[#[u,w1,w2.mono (λ_ m=>.inl m) mk],λm=>?_,w4];rcases m with m | rfl
  .exact w3 m
  .exact ne (L.inj l k e d b e1' h2 e2 g1)
 .exact L.inj l m e f b (xA e1).2 (xA e2).2 f1 f2
 .rcases m with m | rfl
  .exact .inl m
  .exact .inr (.inr #[k,d,h2,g1])]
def Tf(i:Nat)(ti:bA):bA:=λs Q=>∃ k,s.sl[i]?=some (.own k)/\ti s λdi s1=>∃ xs z d,s1.os[k]?=some (some (.lst xs))/\di=.int z/\kW xs z=some d/\Q d s1
theorem HI{i:Nat}{e:Da}{ti:bA}(h:PE X e (jw (K2 X.K) (bO i) (tE X.K c ti))):DE X c e (Tf i ti):=#[h.imp λO H Q z9q=>by
 let(M,s,as,R,L,(k,h1,q),kk):=z9q;let(a,g1,g2):=L.own i k h1;show#[_,g2,M,s,as,_,L,q,λdi s1 z0q M1 H1 v L1 E1 rv=>?_];let(xs,z,d,e1,e2,e3,q1):=z0q;subst e2;have rv:v=.int z:=rv;subst rv;let((o,f1,f2),nm,ng,h0):=L1.obj k _ a e1 g1;cases o with
 | lst us =>
  have f2:av X.K H1 M1 xs us:=f2;let(w,w1,w2):=f2.at e3;exact#[a,us,z,w,U,U,.of f1,w1,kk _ s1 q1 M1 H1 w L1 E1 w2]
 | _=>exact f2.elim]
def Gr:D->Option Key
 | .int i=>some (.inl i)
 | .str x=>some (.inr x)
 | _=>none
def vH:!D->Option (!Key)
 | []=>some []
 | d::r=>match Gr d,vH r with
  | some k,some ks=>some (k::ks)
  | _,_=>none
theorem u5{K:Frag}{H:Hp}{M:AC->Prop}{d:D}{k:Key}{v:V}(h:Gr d=some k)(r:Rep K H M d v):v=kV k:=by
 cases d<;>first | (cases h;exact r) | cases h
theorem sk{K:Frag}{H:Hp}{M:AC->Prop}:∀ {ds:!D} {ks:!Key} {vs:!V},vH ds=some ks->av K H M ds vs->vs=ks.map kV
 | [],ks,vs,h,r=>by
  cases h;exact r
 | d::ds,ks,vs,h,r=>by
  let(x,xr,rfl,r1,r2):=r;unfold vH at h;cases e1:Gr d with
  | none=>rw[e1] at h;cases h
  | some k =>
   cases e2:vH ds with
   | none=>rw[e1,e2] at h;cases h
   | some l =>
    rw[e1,e2] at h;cases h;rw[u5 e1 r1,sk e2 r2,ZG]
section
variable{κ:Type}[DecidableEq κ]
def jc:!κ->!D->κ->Option D
 | k::ks,d::ds,q=>if k=q then some d else jc ks ds q
 | _,_,_=>none
variable{K:Frag}{H:Hp}{M:AC->Prop}
theorem uo{q:κ}:∀ {az:!(κ×V)} {ks:!κ} {vs:!D},az.map (·.1)=ks->av K H M vs (az.map (·.2))->(hZ az q=none/\jc ks vs q=none)\/∃ v d,hZ az q=some v/\jc ks vs q=some d/\Rep K H M d v
 | [],ks,vs,h,r=>by
  subst h;exact .inl #[U,by cases vs<;>rfl]
 | p::az,ks,vs,h,r=>by
  subst h;cases vs with
  | nil=>exact absurd (show (p::az).map (·.2)=[] from r) (by simp)
  | cons d ds =>
   let(x,xr,e,r1,r2):=r;rw[ZG] at e;cases e;by_cases z:p.1=q
   .refine .inr #[p.2,d,fT z,?_,r1];change (if p.1=q then some d else _)=_;rw[if_pos z]
   .rw[dU z];have e2:jc (((p::az).map (·.1))) (d::ds) q=jc (az.map (·.1)) ds q:=by
     change (if p.1=q then some d else _)=_;rw[if_neg z]
    rw[e2];exact uo U r2
end
def NH(d dy:D)(k:Option D->Prop):Prop:=(∃ ks vs q,d=.DM ks vs/\Gr dy=some q/\k (jc ks vs q))\/∃ ks vs ts q,d=.EV ks vs/\dy=.tup ts/\vH ts=some q/\k (jc ks vs q)
theorem F7{H:Hp}{M:AC->Prop}{d dy:D}{k:Option D->Prop}{a:AC}{o:HO}{y:V}(h:NH d dy k)(ha:H a=some o)(ro:cx X.K H M d o)(ry:Rep X.K H M dy y):∃ ov od,iI H a y ov/\k od/\((ov=none/\od=none)\/∃ v e,ov=some v/\od=some e/\Rep X.K H M e v):=by
 rcases h with ⟨ks,vs,q,rfl,hq,hk⟩ | ⟨ks,vs,ts,q,rfl,rfl,hq,hk⟩
 .cases o with
  | dK az =>
   let(e,r):=(show az.map (·.1)=ks/\av X.K H M vs (az.map (·.2)) from ro);have ey:=u5 hq ry;subst ey;show#[_,_,iI.k ha,hk,?_];rcases uo (q:=q) e r with ⟨h1,h2⟩ | ⟨v,x,h1,h2,h3⟩
   .exact .inl #[h1,h2]
   .exact .inr #[v,x,h1,h2,h3]
  | _=>exact ro.elim
 .cases o with
  | dT az =>
   let(e,r):=(show az.map (·.1)=ks/\av X.K H M vs (az.map (·.2)) from ro);let(b,xs,rfl,(m,hb),rx):=ry;have ex:=sk hq rx;subst ex;show#[_,_,iI.t ha hb,hk,?_];rcases uo (q:=q) e r with ⟨h1,h2⟩ | ⟨v,x,h1,h2,h3⟩
   .exact .inl #[h1,h2]
   .exact .inr #[v,x,h1,h2,h3]
  | _=>exact ro.elim
theorem KQ{H:Hp}{M:AC->Prop}{d:D}{o:HO}{a:AC}(hd:KS d=true)(ha:H a=some o)(ro:cx X.K H M d o):Uh H a:=by
 cases d<;>first | (cases hd;done) | (cases o<;>first | exact .inl #[_,.inl ha] | exact .inr #[_,.inl ha] | exact ro.elim)
theorem Rep.dc{K:Frag}{H:Hp}{M:AC->Prop}{d:D}{v:V}(h:KS d=true)(r:Rep K H M d v):∃ a o,v=.ref a/\H a=some o/\cx K H M d o:=by
 cases d<;>first | (cases h;done) | (let(a,az,e,(m,ha),h1,h2):=r;exact#[a,_,e,ha,h1,h2])
def CJ(td ty tx:bA):bA:=λs Q=>td s λd s1=>KS d=true/\ty s1 λdy s2=>tx s2 λdz s3=>NH d dy λod=>Q (od.getD dz) s3
theorem Kv{e:Da}{td ty tx:bA}(h:PE X e (CF (tE X.K c td) (tE X.K c ty) (tE X.K c tx))):DE X c e (CJ td ty tx):=#[h.imp λO H Q zz=>eF zz λM s as R L q kk =>
 #[M,s,as,_,L,q,λd s1 z1r M1 H1 v L1 E1 rv=>by
  let(hd,q1):=z1r;let(a,o,rfl,f1,f2):=rv.dc hd;show#[a,U,KQ hd f1 f2,M1,s1,as,_,L1,q1,λdy s2 q2 M2 H2 y Lb E2 ry=>#[M2,s2,as,_,Lb,q2,λdz s3 q3 M3 H3 z Lc E3 rz=>?_]];let(a',o',e',f1',f2'):=((E2.trans Lb.base E3).rep L1 rv).dc hd;cases e';let(ov,od,w1,w2,w3):=F7 q3 f1' f2' (E3.rep Lb ry);show#[ov,w1,?_];have Ea:=(E1.trans L1.base E2).trans Lb.base E3;rcases w3 with ⟨rfl,rfl⟩ | ⟨v,x,rfl,rfl,rx⟩
  .exact kk _ s3 w2 M3 H3 z Lc Ea rz
  .exact kk _ s3 w2 M3 H3 v Lc Ea rx]]
end
end DL
namespace PU
open PySem Sem
open PySem.AutoSeq1 (wpAny_loadPart')
section
variable{prog:Fr}{w:Fa}{A:GE}{E:abK}{s:Ch}
theorem kI{it t:AC}{i:Nat}{items:Array AT}{x:AT}{Q:abK}(hit:s.heap.IsTupleIter it t i)(ht:s.heap.IsTuple t items)(hx:items[i]?=some x)(hQ:∀ h',h'.IsTupleIter it t (i+1)->Ev.SameBut it s.heap h'->Q x { s with heap:=h' }) :
  EQ (model prog w) A (GT.SmallTypes.nextOf (.ref it)) Q E s:=by
 let(o,ho,hc,hd):=id hit;let(ol,hol,_,nl,hdl):=ht;unfold GT.SmallTypes.nextOf;show Db (wpAny_callSpecial?_slot (name:=Str.ofString "__next__") hit.typeIs F.slot_tuple_iterator_next
  (TW F.slot_tuple_iterator_next hit.typeIs F.entry_tuple_iterator_next ?_ (F.args_tuple_iterator_next_1 _)))
 change EQ _ _ (field (.ref it) 0 >>= _) _ _ s;show Db (Os ho hd (x:=.ref t) U ?_);change EQ _ _ (if (AT.ref t == AT.none)=true then _ else _) _ _ s;rw[if_neg (show ¬ ((AT.ref t == AT.none)=true) from ZP)];change EQ _ _ (field (.ref it) 1 >>= _) _ _ s;show Db (Os ho hd (x:=.int i 0) U ?_);change EQ _ _ (seqItems? (.ref t) >>= _) _ _ s;show Db (Sc hol hdl ?_);simp only[Int.toNat_natCast,hx];show Db (wpAny_setField ho hd (by simp) (GM #[x,U,GM (hQ _ ?_ (Ev.SameBut.update ..))]));exact#[_,aau _ ho (Obj.isFreed_of_fields (Obj.data_mapFields hd _)),(Obj.cls_mapFields ..).trans hc,by
  rw[Obj.data_mapFields hd];simp[NE]]
theorem gW{it t:AC}{i:Nat}{items:Array AT}{Q:abK}(hh:A.handled=none)(hit:s.heap.IsTupleIter it t i)(ht:s.heap.IsTuple t items)(hx:items[i]?=none)(hE:∀ h' e,Ev.ExtBut it s.heap h'->(∃ o,h'.get? e=some o/\o.cls=.type "StopIteration")->E (.ref e) { s with heap:=h' }) :
  EQ (model prog w) A (GT.SmallTypes.nextOf (.ref it)) Q E s:=by
 let(o,ho,hc,hd):=id hit;let(ol,hol,_,nl,hdl):=ht;unfold GT.SmallTypes.nextOf;show Db (wpAny_callSpecial?_slot (name:=Str.ofString "__next__") hit.typeIs F.slot_tuple_iterator_next
  (TW F.slot_tuple_iterator_next hit.typeIs F.entry_tuple_iterator_next ?_ (F.args_tuple_iterator_next_1 _)))
 change EQ _ _ (field (.ref it) 0 >>= _) _ _ s;show Db (Os ho hd (x:=.ref t) U ?_);change EQ _ _ (if (AT.ref t == AT.none)=true then _ else _) _ _ s;rw[if_neg (show ¬ ((AT.ref t == AT.none)=true) from ZP)];change EQ _ _ (field (.ref it) 1 >>= _) _ _ s;show Db (Os ho hd (x:=.int i 0) U ?_);change EQ _ _ (seqItems? (.ref t) >>= _) _ _ s;show Db (Sc hol hdl ?_);simp only[Int.toNat_natCast,hx];show Db (wpAny_rule (Db (wpAny_setField ho hd (by simp) ?_)));change EQ _ _ (newExc (.type "StopIteration") [] >>= _) _ _ _;show Db ?_;simp only[newExc,newTuple];show Db (TD ?_ (by size_fits));show Db (m:=firstArgMember _ _) (wpAny_of_eq (a:=AT.none) (by first | rfl | (simp only[firstArgMember];rfl)) ?_);show TD ?_ (by size_fits);simp only[raiseNew];show Db (wpAny_handled ?_)
 first | rw[show A.in1.handled=none from hh] | rw[hh]
 show Db (GM (wpAny_throw ?_));exact hE _ _ (((Ev.SameBut.update ..).extBut.push _).push _) #[_,ZS _ U,U]
theorem JZ(hh:A.handled=none)(it l:AC)(iR:l≠it)(items:Array AT) :
  Draws prog w A it [it,l] items.size (λi v=>items[i]?=some v) (λi h=>h.IsTupleIter it l i/\h.IsTuple l items) where
 live:=λ_ _ st=>let #[o,ho,_]:=st.1;#[o,ho]
 frame:=λ_ _ _ st hk=>#[st.1.at λo e=>hk it (by simp) o e,let #[o,e,r]:=st.2;#[o,hk l (by simp) o e,r]]
 item:=λi s Q E hi st hQ=>by
  show kI st.1 st.2 (x:=items[i]) (by simp[hi]) λh' hit' Qw=>?_;exact hQ _ h' s.toks (by simp[hi]) #[hit',let #[o,e,r]:=st.2;#[o,Qw.extBut l o iR e,r]] Qw
 done:=λs Q E st hE=>gW hh st.1 st.2 (by simp) hE
end
end PU
namespace L2
open PySem PySem.Spec
open PyProof.Rows hiding St
def Bv(K:Frag)(tup:Bool)(H:Hp)(a:AC)(xs:!V):Prop:=if tup=true then ja K H a xs else dM K H a xs
section
variable{P:Fr}{w:Fa}{K:Frag}
theorem Ad{X:Cx}{Tl:abL}{O:St}{H:Hp}{s:Ch}{a:AC}{tup:Bool}{xs ys:!V}(I:Inv X Tl O H s)(h:Bv X.K tup H a xs)(h':Bv X.K tup H a ys):ys=xs:=by
 cases tup with
 | true=>exact I.rn (show ja X.K H a ys from h') h
 | false=>exact I.wu (show dM X.K H a ys from h') h
theorem Inv.Fy{X:Cx}{Tl:abL}{O:St}{H:Hp}{s:Ch}{h':Ev}{t':Nat}{fp:!AC}{a:AC}{o:HO}(I:Inv X Tl O H s)(k:∀ b u,b∉fp->s.heap.get? b=some u->h'.get? b=some u)(hf:∀ b∈fp,fE X Tl H b)(hp:↑s<=a)(new:cy X.prog X.w (upd H a o) h' a o)(ht:0 < t':=by first | exact aai _ | exact Inv.tk (by assumption) | assumption):Inv X Tl O (upd H a o) { s with heap:=h',toks:=t' }:=by
 have hn:H a=none:=I.aD.fresh hp;have nit:∀ b u,H b=some u->b∉fp:=λb u e z=>by rw[(hf b z).1] at e;cases e
 have up:∀ b u,H b=some u->upd H a o b=some u:=λb u e=>by rw[ai (au e hn)];exact e
 show I.step (g':=s.gens) (d':=s.drawn) (ch:=fp) (λb hb=>?_) (λb ob _ _ hc e _=>k b ob hc e) (λb ob _ _ hc e _=>#[ob.slots,k b ob hc e]) (λb ob _ e n=>?_)
  (λb ob hc e=>#[ob,k b ob hc e]) (λb xs e=>up b _ e) (λb ob u e=>up b _ e) (λb ps e=>#[#v[],by rw[up b _ e];simp]) (λm hm=>?_) (λb u e=>?_) I.bare ht
 .let(f0,f1,f2,f3,f4,f5):=hf b hb;exact#[f3,f1,f4,f5]
 .rw[ai (ZT (ZL (ZK e) hp))];exact n
 .let(ob,es,ep,ho,r):=hm;exact#[ob,es,ep,k _ ob (λz=>(hf _ z).2.1 U) ho,r]
 .by_cases hb:b=a
  .subst hb;rw[aj] at e;cases e;exact new
  .rw[ai hb] at e;show (I.aD b u e).sv (λq v hq w=>k q v ?_ w) (λq w=>up q _ w) λq _ w=>up q _ w;rcases hq with z | z
   .rw[z];exact nit b u e
   .exact nit q _ z
theorem Inv.G3{X:Cx}{Tl:abL}{O:St}{H:Hp}{s:Ch}{h':Ev}{t':Nat}{fp:!AC}(I:Inv X Tl O H s)(k:∀ b u,b∉fp->s.heap.get? b=some u->h'.get? b=some u)(hf:∀ b∈fp,fE X Tl H b)(ht:0 < t':=by first | exact aai _ | exact Inv.tk (by assumption) | assumption) :
  Inv X Tl O H { s with heap:=h',toks:=t' }:=by
 have nit:∀ b u,H b=some u->b∉fp:=λb u e z=>by rw[(hf b z).1] at e;cases e
 show I.step (g':=s.gens) (d':=s.drawn) (ch:=fp) (λb hb=>?_) (λb ob _ _ hc e _=>k b ob hc e) (λb ob _ _ hc e _=>#[ob.slots,k b ob hc e]) (λb ob _ e n=>n)
  (λb ob hc e=>#[ob,k b ob hc e]) (λb xs e=>e) (λb ob u e=>e) (λb ps e=>#[#v[],by rw[e];simp]) (λm hm=>?_) (λb u e=>?_) I.bare ht
 .let(f0,f1,f2,f3,f4,f5):=hf b hb;exact#[f3,f1,f4,f5]
 .let(ob,es,ep,ho,r):=hm;exact#[ob,es,ep,k _ ob (λz=>(hf _ z).2.1 U) ho,r]
 .refine (I.aD b u e).sv (λq v hq w=>k q v ?_ w) (λq w=>w) λq _ w=>w;rcases hq with z | z
  .rw[z];exact nit b u e
  .exact nit q _ z
def oh(tup:Bool)(h:Ev)(it a:AC)(i:Nat):Prop:=if tup=true then h.IsTupleIter it a i else h.IsListIter it a i
theorem oh.at{tup:Bool}{h h':Ev}{it a:AC}{i:Nat}(x:oh tup h it a i)(k:∀ o,h.get? it=some o->h'.get? it=some o):oh tup h' it a i:=by
 cases tup with
 | true=>exact Ev.IsTupleIter.at (show h.IsTupleIter it a i from x) k
 | false=>exact Ev.IsListIter.at (show h.IsListIter it a i from x) k
theorem oh.obj{tup:Bool}{h:Ev}{it a:AC}{i:Nat}(x:oh tup h it a i):∃ o,h.get? it=some o/\∀ v,o.data≠.cell v:=by
 cases tup with
 | true =>
  let(o,e,c,d):=(show h.IsTupleIter it a i from x);exact#[o,e,λv z=>by rw[d] at z;cases z]
 | false =>
  let(o,e,c,d):=(show h.IsListIter it a i from x);exact#[o,e,λv z=>by rw[d] at z;cases z]
section
variable{X:Cx}
end
end
end L2
namespace DL
open PySem PySem.Spec L2
open PyProof.Rows hiding St
section
variable{X:Cx}{c:Ent}
end
mutual
noncomputable def toP:D->Gc
 | .bX=>.none
 | .bl b=>.bool b
 | .int i=>.int i
 | .str x=>.str x
 | .tup ds=>.tuple (toPs ds)
 | .lst ds=>.list (toPs ds)
 | .hJ _=>.none
 | .ty _=>.none
 | .DM _ _=>.none
 | .EV _ _=>.none
 | .JM _ _=>.none
noncomputable def toPs:!D->!Gc
 | []=>[]
 | d::ds=>toP d::toPs ds
end
mutual
noncomputable def oV:D->Bool
 | .bX=>true
 | .bl _=>true
 | .int _=>true
 | .str x=>Gc.strOk x
 | .tup ds=>fq ds
 | .lst ds=>fq ds
 | .hJ _=>false
 | .ty _=>false
 | .DM _ _=>false
 | .EV _ _=>false
 | .JM _ _=>false
noncomputable def fq:!D->Bool
 | []=>true
 | d::ds=>oV d&&fq ds
end
mutual
theorem yd:∀ d:D,oV d=true->(toP d).canLay0=true
 | .bX,_=>rfl
 | .bl _,_=>rfl
 | .int _,_=>rfl
 | .str x,h=>by
  change Gc.canLay0 (.str x)=true;simpa [Gc.canLay0,oV] using h
 | .tup ds,h=>by
  change Gc.canLay0 (.tuple (toPs ds))=true;simpa [Gc.canLay0] using ug ds h
 | .lst ds,h=>by
  change Gc.canLay0 (.list (toPs ds))=true;simpa [Gc.canLay0] using ug ds h
 | .hJ _,h=>by cases h
 | .ty _,h=>by cases h
 | .DM _ _,h=>by cases h
 | .EV _ _,h=>by cases h
 | .JM _ _,h=>by cases h
theorem ug:∀ ds:!D,fq ds=true->Gc.canLayAll0 (toPs ds)=true
 | [],_=>rfl
 | d::ds,h=>by
  have h:(oV d&&fq ds)=true:=h;rw[ZX] at h;change Gc.canLayAll0 (toP d::toPs ds)=true;simp[Gc.canLayAll0,yd d h.1,ug ds h.2]
end
section
variable{X:Cx}{Tl:abL}{O:St}{H:Hp}{s:Ch}{M:AC->Prop}
mutual
theorem qb(I:Inv X Tl O H s):∀ (d:D) (v:V) (u:AT),oV d=true->Rep X.K H M d v->RelV v u->∃ as,Reads s.heap u (toP d) as
 | .bX,v,u,_,r,q=>by
  have r:v=.bX:=r;subst r;cases (show u=AT.none from q);exact#[_,.none]
 | .bl b,v,u,_,r,q=>by
  have r:v=.bl b:=r;subst r;cases (show u=AT.bool b from q);exact#[_,.bool b]
 | .int i,v,u,_,r,q=>by
  have r:v=.int i:=r;subst r;let(t,rfl):=(show ∃ t,u=AT.int i t from q);exact#[_,.int i t]
 | .str x,v,u,_,r,q=>by
  have r:v=.str x:=r;subst r;let(t,rfl):=(show ∃ t:xg,u=AT.str x t.1 from q);exact#[_,.str x t.1]
 | .tup ds,v,u,h,r,q=>by
  let(a,xs,rfl,(m,ha),r):=r;cases (show u=AT.ref a from q);let(_,its,rv,o,e,hc,n,hd):=I.aD a _ ha;let(as,hr):=mG I ds xs its h r rv;exact#[_,.tuple e hc hd (by simpa using hr)]
 | .lst ds,v,u,h,r,q=>by
  let(a,xs,rfl,(m,ha),r):=r;cases (show u=AT.ref a from q);let(_,its,n,rv,e):=I.aD a _ ha;let(as,hr):=mG I ds xs its h r rv;exact#[_,.list e U U (by simpa using hr)]
 | .hJ _,v,u,h,r,q=>by cases h
 | .ty _,v,u,h,r,q=>by cases h
 | .DM _ _,v,u,h,r,q=>by cases h
 | .EV _ _,v,u,h,r,q=>by cases h
 | .JM _ _,v,u,h,r,q=>by cases h
theorem mG(I:Inv X Tl O H s):∀ (ds:!D) (vs:!V) (us:!AT),fq ds=true->av X.K H M ds vs->Vals vs us->∃ as,ReadsAll s.heap us (toPs ds) as
 | [],vs,us,_,r,q=>by
  have r:vs=[]:=r;subst r;cases q;exact#[_,.nil]
 | d::ds,vs,us,h,r,q=>by
  have h:(oV d&&fq ds)=true:=h;rw[ZX] at h;let(x,xr,rfl,r1,r2):=r;cases q with
  | cons q1 q2 =>
   let(as,h1):=qb I d x _ h.1 r1 q1;let(bs,h2):=mG I ds xr _ h.2 r2 q2;exact#[_,.cons h1 h2]
end
end
def Bw(a b:D):Bool:=Gc.eqv (toP a) (toP b)
def iw(d:D):Nat:=(toP d).depth
section
variable{X:Cx}{c:Ent}
def NB(K:Frag)(neg:Bool):R2:=λx y H Q=>∃ M dx dy,Rep K H M dx x/\Rep K H M dy y/\oV dx=true/\oV dy=true/\(iw dx<=150\/iw dy<=150)/\Q (.bl (if neg then (not (Bw dx dy)) else Bw dx dy)) H
theorem Aq{m n u:Nat}(h:m<=150\/n<=150)(hu:u+150 < cLine):u+min m n < cLine:=by
 have:min m n<=150:=by cbv
 cbv
theorem xZ(hu:X.A.units+150 < cLine):iA X (PP .Eq) (NB X.K false):=by
 intro Tl s O H x y v u Q I rx ry h;let(M,dx,dy,r1,r2,o1,o2,hd,q):=h;let(as,h1):=qb I dx x v o1 r1 rx;let(bs,h2):=qb I dy y u o2 r2 ry;exact SeqAt.compareEq_reads h1 h2 (yd dx o1) (yd dy o2) (Aq hd hu) #[.bl _,H,I,U,q]
def RL(neg:Bool):D->D->(D->Prop)->Prop:=λa b k=>(oV a=true/\oV b=true/\(iw a<=150\/iw b<=150))/\k (.bl (if neg then (not (Bw a b)) else Bw a b))
theorem IM{neg:Bool}:qI X c (NB X.K neg) (RL neg):=λM s as O H x y dx dy k Q L rx ry #[#[o1,o2,hd],hk] kk=>#[M,dx,dy,rx,ry,o1,o2,hd,kk _ hk M H _ L .refl U]
def sV:D->String->Option Bool
 | .int _,T=>if T="int" then some true else if T="bool"\/T="str"\/T="list"\/T="tuple" then some false else none
 | .bl _,T=>if T="int"\/T="bool" then some true else if T="str"\/T="list"\/T="tuple" then some false else none
 | .str _,T=>if T="str" then some true else if T="bool"\/T="int"\/T="list"\/T="tuple" then some false else none
 | .tup _,T=>if T="tuple" then some true else if T="bool"\/T="int"\/T="list"\/T="str" then some false else none
 | .lst _,T=>if T="list" then some true else if T="bool"\/T="int"\/T="tuple"\/T="str" then some false else none
 | _,_=>none
def O7(K:Frag):!V->Hp->VK->Prop:=λxs H Q=>∃ M d v T b,xs=[v,.ty T]/\Rep K H M d v/\sV d T=some b/\Q (.bl b) H
theorem bU:eE X (.builtin "isinstance") (O7 X.K):=by
 intro Tl s O H xs us Q I r h;let(M,d,v,T,b,rfl,rd,hb,q):=h;let(u,t,rfl,ru,rt):=r.two;cases (show t=AT.type T from rt);show gB ?_;have fin:∀ n,s.toks<=n->EP X Tl O Q (.bool b) { s with toks:=n }:=λn tl=>#[.bl b,H,I.tok n (ZL I.tk tl),U,q];have fin0:s.toks<=s.toks->EP X Tl O Q (.bool b) s:=λ_=>#[.bl b,H,I,U,q];cases d with
 | int i =>
  cases (show v=.int i from rd);let(t,rfl):=ru
  replace hb:(if T="int" then some true else if T="bool"\/T="str"\/T="list"\/T="tuple" then some false else none)=some b:=hb
  split at hb
  .rename_i e;subst e;cases hb;exact IsiPair.int_int fin0
  .split at hb
   .rename_i e
    cases hb;rcases e with rfl | rfl | rfl | rfl
    .exact IsiPair.int_bool (fin _)
    .exact IsiPair.int_str (fin _)
    .exact IsiPair.int_list (fin _)
    .exact IsiPair.int_tuple (fin _)
   .cases hb
 | bl i =>
  cases (show v=.bl i from rd);cases (show u=AT.bool i from ru)
  replace hb:(if T="int"\/T="bool" then some true else if T="str"\/T="list"\/T="tuple" then some false else none)=some b:=hb
  split at hb
  .rename_i e
   cases hb;rcases e with rfl | rfl
   .exact IsiPair.bool_int fin0
   .exact IsiPair.bool_bool fin0
  .split at hb
   .rename_i e
    cases hb;rcases e with rfl | rfl | rfl
    .exact IsiPair.bool_str (fin _)
    .exact IsiPair.bool_list (fin _)
    .exact IsiPair.bool_tuple (fin _)
   .cases hb
 | str i =>
  cases (show v=.str i from rd);let(t,rfl):=ru
  replace hb:(if T="str" then some true else if T="bool"\/T="int"\/T="list"\/T="tuple" then some false else none)=some b:=hb
  split at hb
  .rename_i e;subst e;cases hb;exact IsiPair.str_str fin0
  .split at hb
   .rename_i e
    cases hb;rcases e with rfl | rfl | rfl | rfl
    .exact IsiPair.str_bool (fin _)
    .exact IsiPair.str_int (fin _)
    .exact IsiPair.str_list (fin _)
    .exact IsiPair.str_tuple (fin _)
   .cases hb
 | tup ds =>
  let(a,xs,rfl,(m,ha),r):=rd;cases (show u=AT.ref a from ru);let(_,its,rv,o,e,hc,n,hd):=I.aD a _ ha
  replace hb:(if T="tuple" then some true else if T="bool"\/T="int"\/T="list"\/T="str" then some false else none)=some b:=hb
  split at hb
  .rename_i e';subst e';cases hb;exact IsiPair.tuple_tuple e hc fin0
  .split at hb
   .rename_i e'
    cases hb;rcases e' with rfl | rfl | rfl | rfl
    .exact IsiPair.tuple_bool e hc (fin _)
    .exact IsiPair.tuple_int e hc (fin _)
    .exact IsiPair.tuple_list e hc (fin _)
    .exact IsiPair.tuple_str e hc (fin _)
   .cases hb
 | lst ds =>
  let(a,xs,rfl,(m,ha),r):=rd;cases (show u=AT.ref a from ru);let(_,its,n,rv,e):=I.aD a _ ha
  replace hb:(if T="list" then some true else if T="bool"\/T="int"\/T="tuple"\/T="str" then some false else none)=some b:=hb
  split at hb
  .rename_i e';subst e';cases hb;exact IsiPair.list_list e rfl fin0
  .split at hb
   .rename_i e'
    cases hb;rcases e' with rfl | rfl | rfl | rfl
    .exact IsiPair.list_bool e U (fin _)
    .exact IsiPair.list_int e U (fin _)
    .exact IsiPair.list_tuple e U (fin _)
    .exact IsiPair.list_str e U (fin _)
   .cases hb
 | _=>simp[sV] at hb
def SS:abM:=λas k=>∃ d T b,as=[d,.ty T]/\sV d T=some b/\k (.bl b)
theorem fX:BP X c (O7 X.K) SS:=λM s as O H xs ds k Q L r z2r kk=>by
 let(d,T,b,e,hb,hk):=z2r;subst e;let(v,w,rfl,r1,r2):=wz r;have r2:w=.ty T:=r2;subst r2;exact#[M,d,v,T,b,U,r1,hb,kk _ hk M H _ L .refl U]
end
end DL
namespace PU
open PySem
section
variable{prog:Fr}{w:Fa}{A:GE}{E:abK}{s:Ch}{T:String}{r d:AC}{n:Nat}{P:Nat->AT->Prop}{OK:Ev->Prop}
end
end PU
namespace L2
open PySem PySem.Spec
open PyProof.Rows hiding St
section
variable{X:Cx}
theorem vI:∀ {xs:!V} {us:!AT},xs.length=us.length->(∀ (i:Nat) (u:AT),us[i]?=some u->∃ x,xs[i]?=some x/\RelV x u)->Vals xs us
 | [],[],_,_=>.nil
 | [],_::_,h,_=>by simp at h
 | _::_,[],h,_=>by simp at h
 | x::xs,u::us,h,k=>by
  show .cons ?_ (vI (by simpa using h) λi v e=>?_)
  .let(y,h1,h2):=k 0 u U;cases h1;exact h2
  .let(y,h1,h2):=k (i+1) v (by simpa using e);exact#[y,by simpa using h1,h2]
end
end L2
namespace DL
open PySem PySem.Spec L2
open PyProof.Rows hiding St
section
variable{X:Cx}{c:Ent}
end
end DL
namespace DL
open PySem PySem.Spec L2
set_option genSizeOf true in set_option genInjectivity true in inductive Fm where
 | nm (x:Str) | num (i:Int) | op (s:Str) | jK | lt (x:Str) | mk (c:Str) | ask (f:Str) | jb (r:Str) (hs:!(Str×!Str)) | new (k:Str) (hs:!(Str×!Str))
set_option genSizeOf true in set_option genInjectivity true in inductive Tm where
 | node (f:Fm) (ks:!Tm)
mutual
noncomputable def Tm.size:Tm->Nat
 | .node _ ks=>dZ ks+1
noncomputable def dZ:!Tm->Nat
 | []=>0
 | t::r=>t.size+dZ r
end
mutual
noncomputable def Tm.dep:Tm->Nat
 | .node _ ks=>n8 ks+1
noncomputable def n8:!Tm->Nat
 | []=>0
 | t::r=>max t.dep (n8 r)
end
def rA(ns:!Str):!D:=ns.map .str
def DZ(h:Str×!Str)(k:D):D:=.tup [.str h.1,.tup (rA h.2),k]
def cW:!(Str×!Str)->!D->!D
 | h::hs,k::ks=>DZ h k::cW hs ks
 | _,_=>[]
def Bs:Fm->!D->D
 | .nm x,_=>.tup [.str "name",.str x]
 | .num i,_=>.tup [.str "num",.int i]
 | .op s,ks=>.tup (.str "op"::.str s::ks)
 | .jK,ks=>.tup (.str "zero"::ks)
 | .lt x,ks=>.tup (.str "let"::.str x::ks)
 | .mk c,ks=>.tup [.str "make",.str c,.tup ks]
 | .ask f,ks=>.tup [.str "ask",ks.headD .bX,.str f,.tup ks.tail]
 | .jb r hs,ks=>.tup [.str "case",ks.headD .bX,.str r,.tup (cW hs ks.tail)]
 | .new k hs,ks=>.tup [.str "new",.str k,.tup (cW hs ks)]
mutual
noncomputable def toD:Tm->D
 | .node f ks=>Bs f (toDs ks)
noncomputable def toDs:!Tm->!D
 | []=>[]
 | t::r=>toD t::toDs r
end
theorem toDs_map:∀ ks:!Tm,toDs ks=ks.map toD
 | []=>rfl
 | t::r=>by rw[toDs,toDs_map r,ZG]
theorem eP{b:Bool}{A B:Prop}(h:b=false)(q:B):if b=true then A else B:=by
 subst h;exact ue q
theorem mD{b:Bool}{A B:Prop}(h:b=true)(q:A):if b=true then A else B:=by
 subst h;exact oi q
theorem len0{α:Type}{l:!α}(h:l.length=0):l=[]:=Z6 h
theorem tV{α:Type}{l:!α}(h:1<=l.length):∃ a r,l=a::r:=by
 cases l with
 | nil=>simp at h
 | cons a r=>exact#[a,r,U]
theorem FG{α:Type}{l:!α}(h:l.length=2):∃ a b,l=[a,b]:=by
 let(a,r,rfl):=tV (l:=l) (by cbv);let(b,r',rfl):=tV (l:=r) (by simp at h;cbv);have:r'=[]:=len0 (by simpa using h);subst this;exact#[a,b,U]
theorem Rm{α:Type}{l:!α}(h:l.length=3):∃ a b c,l=[a,b,c]:=by
 let(a,r,rfl):=tV (l:=l) (by cbv);let(b,c,rfl):=FG (l:=r) (by simpa using h);exact#[a,b,c,U]
theorem aK:16000000<=FB:=by decide
theorem bB{α:Type}{x:α}{r:!α}:kW (x::r) 0=some x:=gu (j:=0) U
theorem ik{α:Type}{nt:Nat}{us:!Nat}{g:qL}{te:bA}(h f:α->D){Q:!D->DS->Prop}{s:DS}:∀ (xs:!α) {acc:!D},(∀ x∈xs,∀ k:D->DS->Prop,(∀ s':DS,s'.os=s.os->k (f x) s')->g (h x) (iS nt us s) λs1=>te s1 k)->Q (acc++xs.map f) s->eS nt us g dg te (xs.map h) acc s Q
 | [],acc,_,q=>by
  rw[aa2,ZM] at q;exact q
 | x::xs,acc,hx,q=>by
  change g (h x) (iS nt us s) λs1=>dg s1 λb s2=>if b=true then te s2 λy s3=>eS nt us g dg te (xs.map h) (acc++[y]) #[s.sl,s3.os] Q else eS nt us g dg te (xs.map h) acc #[s.sl,s2.os] Q;have:=hx x Zx (λy s3=>eS nt us g dg te (xs.map h) (acc++[y]) #[s.sl,s3.os] Q) λs' e=>by
   rw[e];show ik h f xs (λy hy=>hx y (Zw _ hy)) ?_;rw[Z4];exact q
  simpa [dg] using this
end DL
namespace DL
open PySem PySem.Spec L2
open PyProof.Rows hiding St
section
variable{X:Cx}{c:Ent}
theorem D0{A:GE}{k:Nat}(hr:bF k A):A.units+150 < cLine:=by have:=hr.un;cbv
def Pz:D->D->(D->Prop)->Prop:=λa b k=>∃ x y,a=.str x/\b=.str y/\(x.length+y.length<=FB)/\k (.str (x++y))
end
theorem Em{P:Fr}{w:Fa}{K:Frag}{mg:Str->Option AT}{base:Ev}{k:Nat}{f:AC}{fd:IR}{ps:!Str}{g:Ba}:br P w K mg base aV k f fd ps (b5 K g λ_ _=>False) :=
 #[λvs H Q E h=>by let(_,_,_,_,_,h,_):=h;exact h.elim,λA outer s H args us vs Q E hr he hb hv h=>by let(_,_,_,_,_,h,_):=h;exact h.elim]
def nV(d:AC):abM:=λds R=>∃ m:Int,ds=[.hJ d,.int m]/\(0 < m/\m < 9223372036854775808)/\∀ r:Int,0<=r->r < m->R (.int r)
theorem Fo{P:Fr}{w:Fa}{K:Frag}{mg:Str->Option AT}{base:Ev}{k:Nat}{f d l:AC}{fd:IR}{ps:!Str}(F:br P w K mg base aV k f fd ps cj.xM):br P w K mg base aV k f fd ps (b5 K (bH d l) (nV d)) :=
 F.imp λvs H Q E h=>by
  let(M,ds,R,B,r,(m,rfl,(h1,h2),k),kk):=h;let(v,w,rfl,e1,e2):=wz r;cases (show v=.ref d from e1);cases (show w=.int m from e2);show#[d,l,m,U,B.lQ,h1,h2,λq H' q1 q2 A' bt=>kk _ (k q q1 q2) M H' _ #[A',λb o e g=>bt b o e (λz=>g (.inl z)) λz=>g (.inr z),λb m=>?_,B.mo,λ_ m=>m,λ_ m=>.inl m] rfl];let(o,e):=B.md b m;exact#[o,bt b o e (λz=>B.mo b m (.inl z)) λz=>B.mo b m (.inr z)]
section
variable{X:Cx}{c:Ent}
def Sq(i:Nat):bA:=λs Q=>(∃ d,s.sl[i]?=some (.dat d)/\Q d s)\/∃ k d,s.sl[i]?=some (.own k)/\s.os[k]?=some (some d)/\Q d (s.freeze k d)
theorem JU{i:Nat}{e:Da}(h:PE X e (bO i)):DE X c e (Sq i):=#[λTl s0 O H Q I zz=>eF zz λM s as R L q kk=>by
 rcases q with q | q
 .exact (dv (c:=c) h).pe Tl s0 O H Q I #[M,s,as,R,L,q,kk]
 .exact (SX (c:=c) h).pe Tl s0 O H Q I #[M,s,as,R,L,q,kk]]
theorem cB:qI X c (λx y H Q=>∃ i j,x=.str i/\y=.str j/\i.length+j.length<=FB/\Q (.str (i++j)) H) Pz:=λM s as O H x y dx dy k Q L rx ry z3r kk=>by
 let(i,j,e1,e2,h,hk):=z3r;subst e1;subst e2;exact#[i,j,rx,ry,h,kk _ hk M H _ L .refl U]
def Pk:D->D->(D->Prop)->Prop:=λa b k=>∃ z n,a=.str z/\b=.int n/\MulOk z n/\k (.str (Txt.mul z n))
theorem Dc:qI X c (λx y H Q=>∃ z n,x=.str z/\y=.int n/\MulOk z n/\Q (.str (Txt.mul z n)) H) Pk:=λM s as O H x y dx dy k Q L rx ry z4r kk=>by
 let(i,j,e1,e2,h,hk):=z4r;subst e1;subst e2;exact#[i,j,rx,ry,h,kk _ hk M H _ L .refl U]
def Q3(te:bA)(tl th:E7):bA:=λs Q=>te s λa s1=>tl s1 λl s2=>th s2 λu s3=>∃ z,a=.str z/\z.length<=FB/\Q (.str (Txt.slice z l u)) s3
theorem fg{e:Da}{lo hi:Option Da}{te:bA}{tl th:E7}{p2 pos:Pos}(he:DE X c e te)(hl:DO X c lo tl)(hu:DO X c hi th):DE X c (.Subscript e (.Slice lo hi none p2) pos) (Q3 te tl th):=#[(iV BK he.pe hl.po hu.po).imp λO H Q zz=>eF zz λM s as R L q k =>
 #[M,s,as,_,L,q,λd s1 q1 M1 H1 v L1 E1 rv=>#[M1,s1,as,_,L1,q1,λl s2 q2 M2 H2 Lb E2=>#[M2,s2,as,_,Lb,q2,λu s3 q3 M3 H3 Lc E3=>by
  let(z,e,hz,q):=q3;subst e;have E13:=E2.trans Lb.base E3;exact#[z,rv,hz,k _ s3 q M3 H3 _ Lc (E1.trans L1.base E13) U]]]]]
theorem vj{K:Frag}{H:Hp}{M:AC->Prop}:∀ {bs:!Str} {vs:!V},av K H M (bs.map .str) vs->vs=bs.map V.str
 | [],vs,r=>r
 | b::bs,vs,r=>by
  let(x,xr,rfl,r1,r2):=r;have r1:x=.str b:=r1;rw[r1,vj r2,ZG]
def Ov(to:bA)(t:eQ):bA:=λs Q=>to s λa s1=>∃ z,a=.str z/\t s1 λds s2=>∃ zs,ds=[.lst (zs.map .str)]/\(zs.map (·.length)).sum+zs.length * z.length<=16777216/\Q (.str (Txt.join z zs)) s2
theorem qB{o e:Da}{es:!Da}{to:bA}{t:eQ}{apos bq:Pos}(ho:DE X c o to)(ha:DA X c (e::es) t)(eD:(attributeBase o "join" X.env (eval o X.env)=eval o X.env)⁻¹)(kb:(((KB bq (Go (e::es) X.env)).all (λx=>(not x.1))&&(ST bq (SZ [] X.env)).all (λx=>x.1.isSome)
   && decide ((e::es).length+([]:!Ps).length+(if ([]:!Ps).isEmpty then 0 else 1) < 30))=true)⁻¹)(eM:((apos.endLine == bq.line)=true)⁻¹)(hs:(abN X.env e es)⁻¹)(d6:((KB bq (Go es X.env)).any (·.1)=false)⁻¹) :
  DE X c (.Call (.Attribute o "join" apos) (e::es) [] bq) (Ov to t):=#[(iD aaq PySem.F.slot_str_join PySem.F.type_str_join Ge ho.pe ha.pa eD kb eM hs d6).imp λO H Q zz=>eF zz λM s as R L q kk=>by
 show#[M,s,as,_,L,q,λd s1 #[z,e,q1] M1 H1 v L1 E1 rv=>?_];subst e;cases (show v=.str z from rv);show#[U,M1,s1,as,_,L1,q1,λds s2 #[zs,e2,hz,q2] M2 H2 vs L2 E2 rvs hl=>?_];subst e2;let(w,rfl,p,ys,rfl,(m,h),r'):=cG rvs;rw[vj r'] at h;exact#[z,p,zs,U,U,.of h,hz,kk _ s2 q2 M2 H2 _ L2 (E1.trans L1.base E2) U]]
def Ji(zs:!Str):eQ:=λs Q=>Q (zs.map .str) s
theorem jk{K:Frag}{H:Hp}{M:AC->Prop}:∀ (zs:!Str),av K H M (zs.map .str) (zs.map V.str)
 | []=>rfl
 | z::zs=>#[_,_,U,U,jk zs]
theorem kH{es:!Da}{zs:!Str}(h:iX es=true)(h2:mZ es=zs)(h3:es.length=zs.length):DA X c es (Ji zs):=#[(by subst h2;exact (zx h).imp λO H Q zz=>eF zz λM s as R L q k=>k _ s q M H _ L .refl (jk _) (by rw[Zy];exact h3.symm))]
def OX(neg:Bool)(te:bA)(i:Nat):bA:=λs Q=>te s λa s1=>∃ k ds,s1.sl[i]?=some (.own k)/\s1.os[k]?=some (some (.lst ds))/\(iF a=true/\ds.all iF=true)/\Q (.bl (if neg then (not (yU (fv a) (ds.map fv))) else yU (fv a) (ds.map fv))) s1
theorem K9{neg:Bool}{i:Nat}{te:bA}{O:St}{H:Hp}{Q:VK}:tE X.K c (OX neg te i) O H Q->jw (LO X.K neg) (tE X.K c te) (bO i) O H Q:=λzz=>eF zz λM s as R L q kk =>
 #[M,s,as,_,L,q,λd s1 z5q M1 H1 v L1 E1 rv=>by
  let(k,ds,h1,h2,(f1,f2),q1):=z5q;let(a,o,g1,g2,g3,g4):=L1.slot h1 h2;cases o with
  | lst us =>
   have g4:av X.K H1 M1 ds us:=g4;have e1:=rv.flat f1;subst e1;let(e,f):=g4.flat f2;show#[_,g2,a,us,U,.inl (.of g3),pL f1,f,?_];rw[e];exact kk _ s1 q1 M1 H1 _ L1 E1 U
  | _=>exact g4.elim]
theorem Kp{neg:Bool}{i:Nat}{a b:Da}{op:CmpOp}{ta:bA}{pos:Pos}(ho:iA X (PP op) (LO X.K neg))(ha:DE X c a ta)(hb:PE X b (bO i))(hm:behindInMarks op b=false):DT X c (.Compare a [op] [b] pos) (PJ (OX neg ta i)):=#[(hU ho ha.pe hb hm).imp λ_ _ _=>tZ K9]
end
end DL
namespace DL
open PySem PySem.Spec L2
section
variable{κ:Type}[DecidableEq κ]
end
def Fm.strs:Fm->!Str
 | .nm x=>[x]
 | .num _=>[]
 | .op s=>[s]
 | .jK=>[]
 | .lt x=>[x]
 | .mk c=>[c]
 | .ask f=>[f]
 | .jb r hs=>r::(hs.map λh=>h.1::h.2).flatten
 | .new k hs=>k::(hs.map λh=>h.1::h.2).flatten
theorem vN:∀ {ds:!D},(∀ d∈ds,oV d=true)->fq ds=true
 | [],_=>rfl
 | d::ds,h=>by
  change (oV d&&fq ds)=true;rw[h d Zx,vN λt ht=>h t (Zw _ ht)]
  rfl
theorem Dm{ns:!Str}(h:∀ x∈ns,Gc.strOk x=true):fq (rA ns)=true:=vN λd hd=>by
 let(x,hx,rfl):=Z5.mp hd;exact h x hx
theorem qq:∀ {hs:!(Str×!Str)} {ks:!D},(∀ x∈(hs.map λh=>h.1::h.2).flatten,Gc.strOk x=true)->fq ks=true->fq (cW hs ks)=true
 | [],ks,_,_=>by cases ks<;>rfl
 | _::_,[],_,_=>rfl
 | h::hs,k::ks,h1,h2=>by
  have h2:(oV k&&fq ks)=true:=h2;rw[ZX] at h2;have e:((h::hs).map λh=>h.1::h.2).flatten=(h.1::h.2)++(hs.map λh=>h.1::h.2).flatten:=rfl;rw[e] at h1;change (oV (DZ h k)&&fq (cW hs ks))=true;rw[qq (λx hx=>h1 x (ZQ _ hx)) h2.2,Bool.and_true];change (Gc.strOk h.1&&(fq (rA h.2)&&(oV k&&true)))=true;rw[h1 h.1 (Z2 _ Zx),Dm λx hx=>h1 x (Z2 _ (Zw _ hx)),h2.1]
  rfl
theorem Fw:Gc.strOk "name"=true/\Gc.strOk "num"=true/\Gc.strOk "op"=true/\Gc.strOk "zero"=true/\Gc.strOk "let"=true/\Gc.strOk "make"=true/\Gc.strOk "ask"=true/\Gc.strOk "case"=true/\Gc.strOk "new"=true:=by decide+kernel
def gx(ds:!D):Nat:=Gc.depthAll (toPs ds)
theorem eZ(d:D)(ds:!D):gx (d::ds)=max (iw d) (gx ds):=by
 change Gc.depthAll (toP d::toPs ds)=_;simp[Gc.depthAll,gx,iw]
theorem pC:gx []=0:=by simp[gx,toPs,Gc.depthAll]
theorem zP(ds:!D):iw (.tup ds)=gx ds+1:=by
 change Gc.depth (.tuple (toPs ds))=_;simp[Gc.depth,gx]
theorem yY(x:Str):iw (.str x)=0:=by simp[iw,toP,Gc.depth]
theorem Hc(x:Int):iw (.int x)=0:=by simp[iw,toP,Gc.depth]
theorem vn:∀ ns:!Str,gx (rA ns)=0
 | []=>pC
 | x::r=>by
  change gx (.str x::rA r)=0;rw[eZ,yY,vn r]
  rfl
theorem fV{ds:!D}{n:Nat}(h:gx ds<=n):iw (.tup ds)<=n+1:=by rw[zP];exact aaM h
theorem eY{d:D}{ds:!D}{n:Nat}(h:iw d<=n)(k:gx ds<=n):gx (d::ds)<=n:=by rw[eZ];exact Nat.max_le.mpr #[h,k]
theorem um{n:Nat}:gx []<=n:=by rw[pC];exact Z1 _
theorem fj{x:Str}{n:Nat}:iw (.str x)<=n:=by rw[yY];exact Z1 _
theorem pW{n:Nat}:∀ (hs:!(Str×!Str)) (ks:!D),gx ks<=n->gx (cW hs ks)<=n+2
 | [],ks,_=>by
  have:cW [] ks=[]:=by cases ks<;>rfl
  rw[this];exact um
 | _::_,[],_=>um
 | h::hs,k::ks,hk=>by
  rw[eZ] at hk;have hk:=Nat.max_le.mp hk;exact eY (fV (eY fj (eY (fV (by rw[vn];exact Z1 _)) (eY (Nat.le_succ_of_le hk.1) um)))) (pW hs ks hk.2)
end DL
namespace DL
open PySem PySem.Spec L2
open PyProof.Rows hiding St
def Lw(x:Str):Prop:=∀ ch∈x.cps.toList,97<=ch/\ch<=122
noncomputable instance (x:Str):Decidable (Lw x):=by unfold Lw;infer_instance
theorem Lw.app{x y:Str}(h:Lw x)(k:Lw y):Lw (x++y):=λch hc=>by
 have e:(x++y).cps.toList=x.cps.toList++y.cps.toList:=by change (x.cps++y.cps).toList=_;simp
 rw[e,ZR] at hc;rcases hc with hc | hc
 .exact h ch hc
 .exact k ch hc
theorem Lw.slice{x:Str}(h:Lw x)(l u:Option Int):Lw (Txt.slice x l u):=by
 unfold Txt.slice;split
 .exact h
 .intro ch hc;simp only[List.mem_filterMap] at hc;let(i,_,e):=hc;let(hi,e):=Z9.mp e;exact h ch (by rw[<- e];simp)
theorem vw:∀ (cs:!Nat),(Txt.join ("":Str) (cs.map λc=>(#[#v[c]]:Str))).cps.toList=cs
 | []=>by unfold Txt.join;rw[PySem.StrLaws.glued_eq_join];rfl
 | [c]=>by unfold Txt.join;rw[PySem.StrLaws.glued_eq_join];rfl
 | c::d::r=>by
  have ih:=vw (d::r);have e:(Txt.join ("":Str) ((c::d::r).map λc=>(#[#v[c]]:Str)))=(#[#v[c]]:Str)++("":Str)++Txt.join ("":Str) ((d::r).map λc=>(#[#v[c]]:Str)):=by
   unfold Txt.join;rw[aaU,aaU]
   rfl
  rw[e];change ((#v[c]++#v[])++(Txt.join ("":Str) ((d::r).map λc=>(#[#v[c]]:Str))).cps).toList=_;rw[Array.toList_append,ih]
  rfl
theorem Lw.strOk{x:Str}(h:Lw x):Gc.strOk x=true:=by
 unfold Gc.strOk;rw[Array.all_eq_true];intro i hi;have:=h x.cps[i] (by simp);simp;cbv
theorem pV{nt:Nat}{us:!Nat}{g:qL}{te:bA}(Pd:D->Prop){Q:!D->DS->Prop}{s:DS}:∀ (xs:!D) {acc:!D},(∀ x∈xs,∀ k:D->DS->Prop,(∀ (y:D) (s':DS),Pd y->s'.os=s.os->k y s')->g x (iS nt us s) λs1=>te s1 k)->(∀ ys:!D,ys.length=xs.length->(∀ y∈ys,Pd y)->Q (acc++ys) s)->eS nt us g dg te xs acc s Q
 | [],acc,_,q=>by
  have:=q [] rfl (λ_ h=>absurd h (by simp));rw[ZM] at this;exact this
 | x::xs,acc,hx,q=>by
  have:=hx x Zx (λy s3=>eS nt us g dg te xs (acc++[y]) #[s.sl,s3.os] Q) λy s' hy e=>by
   change eS nt us g dg te xs (acc++[y]) #[s.sl,s'.os] Q;rw[e];show pV Pd xs (λz hz=>hx z (Zw _ hz)) λys hl hp=>?_;rw[Z4];show q ([y]++ys) (by simp[hl]) λz hz=>?_;rcases ZD.mp hz with rfl | hz
   .exact hy
   .exact hp z hz
  rw[eS];simpa [dg] using this
theorem Gi{X:Cx}{M7:!Fk}{t:AC->jX}(h:∀ d l M0 H0,vW X #[bH d l,M0,H0] M7 (t d)):nX X M7 (λE O H=>∃ d l M0 H0,tS X.K #[bH d l,M0,H0] (t d) E O H):=λTl s O H E I #[d,l,M0,H0,q]=>(h d l M0 H0).ps Tl s O H E I q
theorem Jc{K:Frag}{d l:AC}{H:Hp}{t:AC->jX}{E:Ends}{O:St}{n nos:Nat}(D1:cj.At H d l)(hl:O.length=n+2)(h1:O[1]?=some (some (.ref d)))(q:t d { nx:=λ_=>False,rt:=λx=>x=.bl true } #[.no::.dat (.hJ d)::List.replicate n .no,List.replicate nos none])(k:∀ H',E.rt (.bl true) H'):∃ d l M0 H0,tS K #[bH d l,M0,H0] (t d) E O H:=by
 show#[d,l,λ_=>False,H,λ_=>False,_,List.replicate nos 0,_,?_,q,?_]
 .refine#[#[D1,λb o e _=>e,λb m=>m.elim,λb m=>m.elim,λb m=>m.elim,λb m=>m.elim],by simp[hl],by simp,λi x e=>?_,λi k e=>?_,λk x a e=>?_,λk _ x _ a e=>?_,λk a e=>(nomatch e)]
  .match i,e with
   | 0,e=>simp at e
   | 1,e =>
    simp at e;subst e;exact#[_,h1,U]
   | i+2,e =>
    let(_,e):=ZF.mp e;simp at e
  .match i,e with
   | 0,e=>simp at e
   | 1,e=>simp at e
   | i+2,e =>
    let(_,e):=ZF.mp e;simp at e
  .let(_,e):=ZF.mp e;simp at e
  .let(_,e):=ZF.mp e;simp at e
 .refine#[λ_ _ _ _ _ z=>z.elim,λ_ _ _ _ _ z=>z.elim,λ_ _ _ _ _ z=>z.elim,λx M' H' v r B' rv=>?_,λ_ _ _ _ _ z=>z.elim,λ_ _ _ _ _ _ _ z=>z.elim];cases (show x=.bl true from r);cases (show v=.bl true from rv);exact k H'
def z0(K:Frag):Sp:=λvs H Q _=>∃ (a:AC) (ns:!Int),vs=[.ref a]/\dM K H a (ns.map V.int)/\ns.length<=63/\∀ H',Q (.bl true) H'
def nU:!Str:=["made","asked","def","tab","cross","to","number"]
def kK:!Str:=["zero","let","make","ask","case","new"]
def Nm(x:Str):Prop:=Lw x/\1<=x.length/\x.length<=8/\x∉nU/\x∉kK
noncomputable instance (x:Str):Decidable (Nm x):=by unfold Nm;infer_instance
theorem FE:∀ z∈cj.near,Nm z:=by decide+kernel
theorem Ff:∀ z∈nU,(z++("q":Str))∉nU/\(z++("q":Str))∉kK/\z.length<=6:=by decide+kernel
theorem FK:∀ z∈kK,(z++("q":Str))∉nU/\(z++("q":Str))∉kK/\z.length<=6:=by decide+kernel
theorem dj{w:Str}:∀ {zs:!Str},yU (.str w) (zs.map V.str)=decide (w∈zs)
 | []=>rfl
 | z::zs=>by
  have ih:=dj (w:=w) (zs:=zs);unfold yU at ih ⊢;rw[ZG,abf,ih];rw[show EX (V.str z) (V.str w)=decide (z=w) from U];by_cases h:z=w
  .simp[h]
  .simp[h,Ne.symm h]
def wl(pre post:!Nat)(tn k e:Nat):!Nat:=pre++(97+(tn+7 * k) % 26)::(post++(List.replicate (k % 2) 120++(List.replicate (k / 26) 121++List.replicate e 113)))
theorem Jp{pre post:!Nat}{tn k k' e e':Nat}(h:wl pre post tn k e=wl pre post tn k' e'):k=k':=by
 unfold wl at h;have h:=aa9 h;injection h with h1 h2;have h2:=aa9 h2;have h3:k % 26=k' % 26:=by cbv
 have h4:k % 2=k' % 2:=by cbv
 rw[h4] at h2;have h2:=aa9 h2;have h5:=congrArg (List.count 121) h2;simp[List.count_append,List.count_replicate] at h5;cbv
theorem lr(x y:Str):(x++y).cps.toList=x.cps.toList++y.cps.toList:=by change (x.cps++y.cps).toList=_;simp
theorem yW{r:Int}(h0:0<=r)(h1:r < 26):kW cj.P9.cps.toList r=some (97+r.toNat):=by
 have hn:∀ n:Fin 26,cj.P9.cps.toList[n.val]?=some (97+n.val):=by decide+kernel
 have hj:r.toNat < 26:=by cbv
 have e:(r.toNat:Int)=r:=aa6 h0;have q:=gu (xs:=cj.P9.cps.toList) (j:=r.toNat) (v:=97+r.toNat) (hn #[r.toNat,hj]);rw[e] at q;exact q
theorem Ag{c:Nat}{n:Int}(h0:0<=n)(h1:n<=2):(Txt.mul (#[#v[c]]:Str) n).cps.toList=List.replicate n.toNat c/\MulOk (#[#v[c]]:Str) n:=by
 have:n=0\/n=1\/n=2:=by cbv
 rcases this with rfl | rfl | rfl
 .exact#[U,U,λh=>absurd () h,λh=>absurd () h]
 .exact#[U,U,λ_ h=>absurd h (by simp),λ_ h=>absurd h (by simp)]
 .exact#[U,U,λ_ _=>by change ¬ ((1:Nat):Int) > (2 ^ 63 - 1) / 2;decide,λ_ _=>by change PySem.Builtin.Str.tooLong (1 * 2)=false;decide]
theorem rQ{α:Type}{z:α}:∀ {ws:!α} (i:Nat),ws.Nodup->z∉ws->(ws.set i z).Nodup
 | [],i,h,hz=>by simpa using h
 | w::ws,0,h,hz=>by
  rw[List.set_cons_zero];rw[aaD] at h ⊢;exact#[λm=>hz (Zw _ m),h.2]
 | w::ws,i+1,h,hz=>by
  rw[List.set_cons_succ];rw[aaD] at h ⊢;show#[λm=>?_,rQ i h.2 λm=>hz (Zw _ m)];rcases List.mem_or_eq_of_mem_set m with m | e
  .exact h.1 m
  .exact hz (by rw[<- e];exact Zx)
open PySem.Builtin PySem.Builtin.Str in
theorem vQ(x:Str)(l u:Option Int):(Txt.slice x l u).length<=(strSliceIndices l u 1 x.length).length:=by
 unfold Txt.slice;split
 .rename_i h
  simp at h;cbv
 .show (List.filterMap _ (strSliceIndices l u 1 x.length)).toArray.size<=_;rw[ZV];exact List.length_filterMap_le _ _
open PySem.Builtin PySem.Builtin.Str in
theorem An{x:Str}{i:Int}(h0:0<=i)(h1:i<=x.length):(Txt.slice x none (some i)).length+(Txt.slice x (some i) none).length<=x.length:=by
 have a:=vQ x none (some i);have b:=vQ x (some i) none;have ha:(strSliceIndices none (some i) 1 x.length).length<=i.toNat:=by
  unfold strSliceIndices sliceRange;simp only[show (1:Int) > 0 by decide,if_true,List.length_map,List.length_range]<;>(split<;>(try split)<;>(try split)<;>(try simp only[Int.ediv_one])<;>cbv)
 have hb:(strSliceIndices (some i) none 1 x.length).length<=x.length - i.toNat:=by
  unfold strSliceIndices sliceRange;simp only[show (1:Int) > 0 by decide,if_true,List.length_map,List.length_range]<;>(split<;>(try split)<;>(try split)<;>(try simp only[Int.ediv_one])<;>cbv)
 cbv
def vt(pre post:!Nat)(tn:Nat)(ws:!Str):Prop:=∀ (j:Nat) (w:Str),ws[j]?=some w->Nm w/\∃ e,w.cps.toList=wl pre post tn j e
theorem vt.nodup{pre post:!Nat}{tn:Nat}{ws:!Str}(h:vt pre post tn ws):ws.Nodup:=by
 rw[List.nodup_iff_pairwise_ne,List.pairwise_iff_getElem];intro i j hi hj VZ e;let(_,e1,h1):=h i ws[i] (aax hi);let(_,e2,h2):=h j ws[j] (aax hj);rw[e,h2] at h1;have:=Jp h1;cbv
theorem vt.snoc{pre post:!Nat}{tn:Nat}{ws:!Str}{u:Str}{e:Nat}(h:vt pre post tn ws)(hu:Nm u)(he:u.cps.toList=wl pre post tn ws.length e):vt pre post tn (ws++[u]):=λj w q=>by
 by_cases hj:j < ws.length
 .rw[List.getElem?_append_left hj] at q;exact h j w q
 .rw[List.getElem?_append_right (by cbv)] at q;let(h1,h2):=ZF.mp q;simp at h1;have:j=ws.length:=by cbv
  subst this;simp at h2;subst h2;exact#[hu,e,he]
theorem vt.nm{pre post:!Nat}{tn:Nat}{ws:!Str}(h:vt pre post tn ws):∀ w∈ws,Nm w:=λw m=>by
 let(j,hj,e):=List.getElem_of_mem m;exact (h j w (by rw[aax hj,e])).1
def Ew(d:AC):abM:=λds R=>∃ m:Int,ds=[.hJ d,.int m]/\(0 < m/\m<=60)/\∀ ws:!Str,ws.length=m.toNat->ws.Nodup->(∀ x∈ws,Nm x)->R (.lst (ws.map .str))
section
variable{X:Cx}{c:Ent}
def iq:D->Bool
 | .bX=>true
 | _=>false
theorem Rep.NV{K:Frag}{H:Hp}{M:AC->Prop}{d:D}{v:V}(r:Rep K H M d v):decide (v=.bX)=iq d:=by
 cases d with
 | bX=>rw[show v=.bX from r];rfl
 | bl b=>rw[show v=.bl b from r];rfl
 | int b=>rw[show v=.int b from r];rfl
 | str b=>rw[show v=.str b from r];rfl
 | hJ b=>rw[show v=.ref b from r];rfl
 | ty b=>rw[show v=.ty b from r];rfl
 | tup _=>let(a,xs,rfl,_):=r;rfl
 | lst _=>let(a,xs,rfl,_):=r;rfl
 | DM _ _=>let(a,xs,rfl,_):=r;rfl
 | EV _ _=>let(a,xs,rfl,_):=r;rfl
 | JM _ _=>let(a,o,xs,ts,rfl,_):=r;rfl
def TX:D->D->(D->Prop)->Prop:=λa b k=>b=.bX/\k (.bl (iq a))
theorem qX:qI X c (λx y H Q=>y=.bX/\Q (.bl (decide (x=.bX))) H) TX:=λM s as O H x y dx dy k Q L rx ry z5r kk=>by
 let(e,hk):=z5r;subst e;show#[ry,?_];rw[rx.NV];exact kk _ hk M H _ L .refl U
end
end DL
namespace PyZ
open PySem Sem
section
variable{prog:Fr}{w:Fa}{A:GE}{E:abK}{s:Ch}{z TI TO i1 i2:AC}{f1 f2:!AC}{n1 n2:Nat}{P1 P2:Nat->AT->Prop}{S1 S2:Nat->Ev->Prop}
structure Apart(z TI TO i1 i2:AC)(f1 f2:!AC):Prop where
 TIz:TI≠z
 TOz:TO≠z
 i1z:i1≠z
 i2z:i2≠z
 TITO:TI≠TO
 TIi1:TI≠i1
 TIi2:TI≠i2
 TOi1:TO≠i1
 TOi2:TO≠i2
 z1:z∉f1
 z2:z∉f2
 o1:TO∉f1
 o2:TO∉f2
 a1:i2∉f1
 a2:i1∉f2
structure Zip(S1 S2:Nat->Ev->Prop)(z TI TO i1 i2:AC)(f0:AT)(k1 k2:Nat)(h:Ev):Prop where
 zip:IsZip h z TI TO f0
 ins:Re h TI (.ref i1) (.ref i2)
 out:∃ a b,Re h TO a b
 FQ:S1 k1 h
 Dk:S2 k2 h
theorem but{c:AC}{f:!AC}{h h':Ev}{S:Nat->Ev->Prop}{it:AC}{n k:Nat}{P:Nat->AT->Prop}(D:Draws prog w A it f n P S)(x:Ev.SameBut c h h')(hc:c∉f)(st:S k h):S k h' :=
 D.frame _ _ _ st λb hb o e=>x.extBut _ _ (λq=>hc (q▸hb)) e
theorem next_item{k:Nat}{Q:abK}(X:Apart z TI TO i1 i2 f1 f2)(D1:Draws prog w A i1 f1 n1 P1 S1)(D2:Draws prog w A i2 f2 n2 P2 S2)(Z:Zip S1 S2 z TI TO i1 i2 .none k k s.heap)(h1:k < n1)(h2:k < n2)(hQ:∀ x y h' tk,P1 k x->P2 k y->Zip S1 S2 z TI TO i1 i2 (NE ↑s) (k+1) (k+1) h'->Re h' ↑s x y->h'.objs.size=↑s+1 ->
   (∀ c o,c≠z->c≠TO->c≠i1->c≠i2->s.heap.get? c=some o->h'.get? c=some o)->Q (.ref ↑s) { s with heap:=h',toks:=tk }) :
  EQ (model prog w) A (GT.«zip.__next__» #[[.ref z],[]]) (λfin s'=>∃ v,fin=.done (.ret v)/\Q v s') E s:=by
 let(hz,hTI,(a,b,hTO),t1,t2):=Z;change EQ _ _ (field (.ref z) 2 >>= _) _ _ _;show Db (Os hz U (x:=.bool false) U ?_);change EQ _ _ (field (.ref z) 3 >>= _) _ _ _;show Db (Os hz U (x:=.ref TI) U (Db (Sc hTI U ?_)));change EQ _ _ (GT.SmallTypes.ownedTupleIsFree (.ref z) >>= _) _ _ _;show Db ?_;unfold GT.SmallTypes.ownedTupleIsFree;show Db (Os hz U (x:=.none) U (GM ?_));simp only[if_true];show Db (wpAny_rule (Db (Os hz U (x:=.ref TO) U (Db (wpAny_setField_rec hz (by simp) λha hza sa=>?_)))))
 replace hza:IsZip ha z TI TO .ellipsis:=hza
 show Db ?_;simp only[List.zipIdx_cons,List.zipIdx_nil,List.forIn_cons,List.forIn_nil];show Db (Db (wpAny_onRaise ?_));change EQ _ _ (GT.SmallTypes.nextOf (.ref i1) >>= _) _ _ _;show Db (D1.item k _ _ _ h1 (but D1 sa X.z1 t1) λx hb RJ px t1b sb=>GM ?_);have ob:Re hb TO a b:=sb.extBut _ _ X.TOi1 (sa.extBut _ _ X.TOz hTO);show Db (Sc ob U (Db (wpAny_updateSeq_pair ob λhc oc sc=>Db (wpAny_letGo (GM ?_)))))
 replace oc:Re hc TO x b:=oc
 show Db (Db (wpAny_onRaise ?_));change EQ _ _ (GT.SmallTypes.nextOf (.ref i2) >>= _) _ _ _;show Db (D2.item k _ _ _ h2 (but D2 sc X.o2 (but D2 sb X.a2 (but D2 sa X.z2 t2))) λy hd WU py t2d sd=>GM ?_);have od:Re hd TO x b:=sd.extBut _ _ X.TOi2 oc;show Db (Sc od U (Db (wpAny_updateSeq_pair od λhe oe se=>Db (wpAny_letGo (GM (GM ?_))))))
 replace oe:Re he TO x y:=oe
 show Db (Sc oe U (Db (wpAny_newTuple ?_)));have hsz:he.objs.size=↑s:=by rw[se.1,sd.1,sc.1,sb.1,sa.1]
 have ze:IsZip he z TI TO .ellipsis:=se.extBut _ _ X.TOz.symm (sd.extBut _ _ X.i2z.symm (sc.extBut _ _ X.TOz.symm (sb.extBut _ _ X.i1z.symm hza)));have ke:∀ c o,c≠z->c≠TO->c≠i1->c≠i2->s.heap.get? c=some o->he.get? c=some o:=λc o c1 c2 c3 c4 e =>
  se.extBut _ _ c2 (sd.extBut _ _ c4 (sc.extBut _ _ c2 (sb.extBut _ _ c3 (sa.extBut _ _ c1 e))))
 have t1e:S1 (k+1) he:=but D1 se X.o1 (but D1 sd X.a1 (but D1 sc X.o1 t1b));have t2e:S2 (k+1) he:=but D2 se X.o2 t2d;have hzlt:z < he.objs.size:=ZK ze;change EQ _ _ (GT.SmallTypes.ownedTupleHandOut (.ref z) (.ref he.objs.size) >>= _) _ _ _;show Db ?_;unfold GT.SmallTypes.ownedTupleHandOut;have zf:IsZip (he.push { cls:=.type "tuple",data:=.seq #v[x,y] }) z TI TO .ellipsis:=Zz _ ze;show Db (wpAny_setField_rec zf (by simp) λhg zg sg=>?_)
 replace zg:IsZip hg z TI TO (NE he.objs.size):=zg
 show wpAny_setField_rec zg (by simp) λhh zh sh=>?_
 replace zh:IsZip hh z TI TO (NE he.objs.size):=zh
 have up:∀ c o,c≠z->he.get? c=some o->hh.get? c=some o:=λc o c1 e=>sh.extBut _ _ c1 (sg.extBut _ _ c1 (Zz _ e));have pT:Re hh he.objs.size x y:=sh.extBut _ _ (aah hzlt) (sg.extBut _ _ (aah hzlt) (ZS _ U));have z8:hh.objs.size=he.objs.size+1:=by rw[sh.1,sg.1,aaB]
 rw[hsz] at zh pT z8;show GM #[_,U,?_];change Q (.ref he.objs.size) _;rw[hsz];show hQ x y hh _ px py #[zh,up _ _ X.TIz (ke _ _ X.TIz X.TITO X.TIi1 X.TIi2 hTI),#[_,_,up _ _ X.TOz oe],?_,?_] pT z8 λc o c1 c2 c3 c4 e=>up c o c1 (ke c o c1 c2 c3 c4 e)
 .exact D1.frame _ _ _ t1e λq hq o e=>up q o (λr=>X.z1 (r▸hq)) e
 .exact D2.frame _ _ _ t2e λq hq o e=>up q o (λr=>X.z2 (r▸hq)) e
def Ends(prog:Fr)(w:Fa)(A:GE)(it:AC)(S:Ev->Prop):Prop:=∀ (s:Ch) (Q:abK) (E:abK),S s.heap ->
  (∀ h' e,Ev.ExtBut it s.heap h'->(∃ o,h'.get? e=some o/\o.cls=.type "StopIteration")->E (.ref e) { s with heap:=h' })->EQ (model prog w) A (GT.SmallTypes.nextOf (.ref it)) Q E s
theorem next_end{k:Nat}{Q:PySem.Fin->Ch->Prop}(X:Apart z TI TO i1 i2 f1 f2)(D1:Draws prog w A i1 f1 n1 P1 S1)(D2:Draws prog w A i2 f2 n2 P2 S2)(Z:Zip S1 S2 z TI TO i1 i2 .none k k s.heap)(hk:Ends prog w A i1 (S1 k)\/(k < n1/\Ends prog w A i2 (S2 k)))(hE:∀ h' e tk,(∀ c o,c≠z->c≠TO->c≠i1->c≠i2->s.heap.get? c=some o->h'.get? c=some o)->(∃ o,h'.get? e=some o/\o.cls=.type "StopIteration")->E (.ref e) { s with heap:=h',toks:=tk }) :
  EQ (model prog w) A (GT.«zip.__next__» #[[.ref z],[]]) Q E s:=by
 let(hz,hTI,(a,b,hTO),t1,t2):=Z;change EQ _ _ (field (.ref z) 2 >>= _) _ _ _;show Db (Os hz U (x:=.bool false) U ?_);change EQ _ _ (field (.ref z) 3 >>= _) _ _ _;show Db (Os hz U (x:=.ref TI) U (Db (Sc hTI U ?_)));change EQ _ _ (GT.SmallTypes.ownedTupleIsFree (.ref z) >>= _) _ _ _;show Db ?_;unfold GT.SmallTypes.ownedTupleIsFree;show Db (Os hz U (x:=.none) U (GM ?_));simp only[if_true];show Db (wpAny_rule (Db (Os hz U (x:=.ref TO) U (Db (wpAny_setField_rec hz (by simp) λha hza sa=>?_)))))
 replace hza:IsZip ha z TI TO .ellipsis:=hza
 show Db ?_;simp only[List.zipIdx_cons,List.zipIdx_nil,List.forIn_cons,List.forIn_nil];show Db (Db (wpAny_onRaise ?_));change EQ _ _ (GT.SmallTypes.nextOf (.ref i1) >>= _) _ _ _;rcases hk with d1 | ⟨h1,d2⟩
 rotate_left
 .refine Db (D1.item k _ _ _ h1 (but D1 sa X.z1 t1) λx hb RJ px t1b sb=>GM ?_);have ob:Re hb TO a b:=sb.extBut _ _ X.TOi1 (sa.extBut _ _ X.TOz hTO);show Db (Sc ob U (Db (wpAny_updateSeq_pair ob λhc oc sc=>Db (wpAny_letGo (GM ?_)))));show Db (Db (wpAny_onRaise ?_));change EQ _ _ (GT.SmallTypes.nextOf (.ref i2) >>= _) _ _ _;show Db (d2 _ _ _ (but D2 sc X.o2 (but D2 sb X.a2 (but D2 sa X.z2 t2))) λhd e sd he=>?_);let(oe,hoe,hce):=he;have zd:IsZip hd z TI TO .ellipsis:=sd _ _ X.i2z.symm (sc.extBut _ _ X.TOz.symm (sb.extBut _ _ X.i1z.symm hza));have hez:e≠z:=λx=>by subst x;rw[zd] at hoe;cases hoe;simp at hce
  exact wpAny_setField_rec zd (by simp) λhf _ sf=>hE hf e _ (λc o c1 c2 c3 c4 x=>sf.extBut _ _ c1 (sd _ _ c4 (sc.extBut _ _ c2 (sb.extBut _ _ c3 (sa.extBut _ _ c1 x))))) #[oe,sf.extBut _ _ hez hoe,hce]
 .refine Db (d1 _ _ _ (but D1 sa X.z1 t1) λhb e sb he=>?_);let(oe,hoe,hce):=he;have zb:IsZip hb z TI TO .ellipsis:=sb _ _ X.i1z.symm hza;have hez:e≠z:=λx=>by subst x;rw[zb] at hoe;cases hoe;simp at hce
  exact wpAny_setField_rec zb (by simp) λhf _ sf=>hE hf e _ (λc o c1 _ c3 _ x=>sf.extBut _ _ c1 (sb _ _ c3 (sa.extBut _ _ c1 x))) #[oe,sf.extBut _ _ hez hoe,hce]
theorem Fe{k:Nat}{Q:Option AT->Ch->Prop}(X:Apart z TI TO i1 i2 f1 f2)(D1:Draws prog w A.in1 i1 f1 n1 P1 S1)(D2:Draws prog w A.in1 i2 f2 n2 P2 S2)(Z:Zip S1 S2 z TI TO i1 i2 .none k k s.heap)(h1:k < n1)(h2:k < n2)(hQ:∀ x y h' tk,P1 k x->P2 k y->Zip S1 S2 z TI TO i1 i2 (NE ↑s) (k+1) (k+1) h'->Re h' ↑s x y->h'.objs.size=↑s+1 ->
   (∀ c o,c≠z->c≠TO->c≠i1->c≠i2->s.heap.get? c=some o->h'.get? c=some o)->Q (some (.ref ↑s)) { s with heap:=h',toks:=tk }):EQ (model prog w) A (pyNext (.ref z)) Q E s:=by
 have hT:s.TypeIs (.ref z) "zip":=#[_,Z.zip,U];unfold pyNext;exact Db (wpAny_attempt (wpAny_callSpecial?_slot (name:=Str.ofString "__next__") hT F.slot_zip_next
  (TW F.slot_zip_next hT F.entry_zip_next (next_item X D1 D2 Z h1 h2 λx y h' tk a1 a2 a3 a4 a5 a6=>GM (hQ x y h' tk a1 a2 a3 a4 a5 a6)) (F.args_zip_next_1 _))))
theorem Ke{k:Nat}{Q:Option AT->Ch->Prop}(X:Apart z TI TO i1 i2 f1 f2)(D1:Draws prog w A.in1 i1 f1 n1 P1 S1)(D2:Draws prog w A.in1 i2 f2 n2 P2 S2)(Z:Zip S1 S2 z TI TO i1 i2 .none k k s.heap)(hk:Ends prog w A.in1 i1 (S1 k)\/(k < n1/\Ends prog w A.in1 i2 (S2 k)))(hQ:∀ h' tk,(∀ c o,c≠z->c≠TO->c≠i1->c≠i2->s.heap.get? c=some o->h'.get? c=some o)->Q none { s with heap:=h',toks:=tk }):EQ (model prog w) A (pyNext (.ref z)) Q E s:=by
 have hT:s.TypeIs (.ref z) "zip":=#[_,Z.zip,U];unfold pyNext;show Db (wpAny_attempt (wpAny_callSpecial?_slot (name:=Str.ofString "__next__") hT F.slot_zip_next
  (TW F.slot_zip_next hT F.entry_zip_next (next_end X D1 D2 Z hk λh' e tk kk he=>?_) (F.args_zip_next_1 _))))
 let(o,ho,hc):=he;show Db (wpAny_isInstance (T:="StopIteration") (b:=true) #[o,ho,hc] isSubtype_stop ?_);exact GM (hQ _ _ kk)
end
end PyZ
namespace PyZ
open PySem Sem L2
def uE(t:Bool)(h:Ev)(l:AC)(xs:Array AT):Prop:=if t=true then h.IsTuple l xs else h.IsList l xs
def JG(t:Bool)(l:AC):Obj:={ cls:=.type (if t=true then "tuple_iterator" else "list_iterator"),data:=.fields #v[.ref l,.int 0 0] }
theorem uE.at{t:Bool}{h h':Ev}{l:AC}{xs:Array AT}(x:uE t h l xs)(k:∀ o,h.get? l=some o->h'.get? l=some o):uE t h' l xs:=by
 cases t with
 | true =>
  let(o,e,r):=(show h.IsTuple l xs from x);exact#[o,k o e,r]
 | false=>exact Ev.IsList.at (show h.IsList l xs from x) k
section
variable{prog:Fr}{w:Fa}{A:GE}{E:abK}{s:Ch}
theorem CT{t:Bool}{l:AC}{xs:Array AT}{Q:abK}(hl:uE t s.heap l xs)(h:Q (.ref ↑s) { s with heap:=s.heap.push (JG t l) }):EQ (model prog w) A (pyIter (.ref l)) Q E s:=by
 cases t with
 | true=>exact wpAny_pyIter_tuple (show s.heap.IsTuple l xs from hl) h
 | false=>exact wpAny_pyIter_list (show s.heap.IsList l xs from hl) h
theorem oC(t:Bool)(hh:A.handled=none)(it l:AC)(iR:l≠it)(xs:Array AT):Draws prog w A it [it,l] xs.size (λi v=>xs[i]?=some v) (λi h=>oh t h it l i/\uE t h l xs):=by
 cases t with
 | true=>exact PU.JZ hh it l iR xs
 | false=>exact Draws.list hh it l iR xs
end
theorem EJ{prog:Fr}{w:Fa}{A:GE}(t:Bool)(hh:A.handled=none){it l:AC}{xs:Array AT}{k:Nat}(hk:xs.size<=k):Ends prog w A it (λh=>oh t h it l k/\uE t h l xs):=λs Q E z6r hE=>by
 let(a,b):=z6r;have hn:xs[k]?=none:=Array.getElem?_eq_none hk;cases t with
 | true=>exact PU.gW hh (show s.heap.IsTupleIter it l k from a) (show s.heap.IsTuple l xs from b) hn hE
 | false=>exact wpAny_nextOf_list_end hh (show s.heap.IsListIter it l k from a) (show s.heap.IsList l xs from b) hn hE
abbrev q1(t1:Bool)(h:Ev)(l1:AC):Ev:=h.push (JG t1 l1)
abbrev q2(t1 t2:Bool)(h:Ev)(l1 l2:AC):Ev:=(q1 t1 h l1).push (JG t2 l2)
abbrev q3(t1 t2:Bool)(h:Ev)(l1 l2:AC):Ev:=(q2 t1 t2 h l1 l2).push { cls:=.type "tuple",data:=.seq #v[.ref h.objs.size,.ref (q1 t1 h l1).objs.size] }
abbrev q4(t1 t2:Bool)(h:Ev)(l1 l2:AC):Ev:=(q3 t1 t2 h l1 l2).push { cls:=.type "tuple",data:=.seq #v[.none,.none] }
abbrev q5(t1 t2:Bool)(h:Ev)(l1 l2:AC):Ev:=(q4 t1 t2 h l1 l2).push { cls:=.type "zip",data:=.fields #v[.none,.bool false,.bool false,.ref (q2 t1 t2 h l1 l2).objs.size,.ref (q3 t1 t2 h l1 l2).objs.size] }
theorem AR(t1 t2:Bool)(l1 l2:AC)(xs ys:Array AT) :
  Meets (GT.«zip.__new__» #[[.type "zip",.ref l1,.ref l2],[]]) (λ_ R s=>uE t1 s.heap l1 xs/\uE t2 s.heap l2 ys /\
   R (.ok (.ret (.ref (q4 t1 t2 s.heap l1 l2).objs.size))) { s with heap:=q5 t1 t2 s.heap l1 l2 }) :=
 .of_wp λprog w A R s h=>by
  let(hp,g,d,tk,os):=s;let(uH,Hg,h):=h;have hsub:=sub_zip;have hL1:uE t1 (Ch.heap #[hp,g,d,tk,os]) l1 xs:=uH;have hL2:uE t2 (Ch.heap #[hp.push (JG t1 l1),g,d,tk,os]) l2 ys:=uE.at Hg λo e=>Zz _ e
  wp_walk using CT hL1,CT hL2
  exact#[_,U,h]
section
variable{prog:Fr}{w:Fa}{A:GE}{E:abK}{s:Ch}
theorem vx{t:Bool}{h:Ev}{it l:AC}(e:h.get? it=some (JG t l)):oh t h it l 0:=by
 cases t with
 | true=>exact (show h.IsTupleIter it l 0 from #[_,e,U,U])
 | false=>exact (show h.IsListIter it l 0 from #[_,e,U,U])
theorem EA{t1 t2:Bool}{l1 l2:AC}{xs ys:Array AT}{Q:abK}(uH:uE t1 s.heap l1 xs)(Hg:uE t2 s.heap l2 ys)(h:∀ h',IsZip h' (↑s+4) (↑s+2) (↑s+3) .none->Re h' (↑s+2) (.ref ↑s) (.ref (↑s+1)) ->
   Re h' (↑s+3) .none .none->oh t1 h' ↑s l1 0->oh t2 h' (↑s+1) l2 0->h'.objs.size=↑s+5 ->
   (∀ c o,s.heap.get? c=some o->h'.get? c=some o)->Q (.ref (↑s+4)) { s with heap:=h' }) :
  EQ (model prog w) A (call (.type "zip") [.ref l1,.ref l2]) Q E s:=by
 show callType_new F.called_zip () (F.typeCall_zip_2 _ _) (F.newCall_zip_2 _ _) (λobj=>F.args_object_init_3 obj _ _) F.entry_zip_new (AR t1 t2 l1 l2 xs ys) #[uH,Hg,?_];have z1:(q1 t1 s.heap l1).objs.size=↑s+1:=aaB ..;have z2:(q2 t1 t2 s.heap l1 l2).objs.size=↑s+2:=by rw[aaB,z1]
 have z3:(q3 t1 t2 s.heap l1 l2).objs.size=↑s+3:=by rw[aaB,z2]
 have z4:(q4 t1 t2 s.heap l1 l2).objs.size=↑s+4:=by rw[aaB,z3]
 have z5:(q5 t1 t2 s.heap l1 l2).objs.size=↑s+5:=by rw[aaB,z4]
 have g5:(q5 t1 t2 s.heap l1 l2).get? (q4 t1 t2 s.heap l1 l2).objs.size=some _:=ZS _ U;have g4:(q5 t1 t2 s.heap l1 l2).get? (q3 t1 t2 s.heap l1 l2).objs.size=some _:=Zz _ (ZS _ U);have g3:(q5 t1 t2 s.heap l1 l2).get? (q2 t1 t2 s.heap l1 l2).objs.size=some _:=Zz _ (Zz _ (ZS _ U));have g2:(q5 t1 t2 s.heap l1 l2).get? (q1 t1 s.heap l1).objs.size=some (JG t2 l2):=Zz _ (Zz _ (Zz _ (ZS _ U)));have g1:(q5 t1 t2 s.heap l1 l2).get? ↑s=some (JG t1 l1):=Zz _ (Zz _ (Zz _ (Zz _ (ZS _ U))));change _/\_;rw[z2,z3,z4] at g5;rw[z1,z2] at g3;rw[z3] at g4;rw[z1] at g2;rw[z4];exact#[#[_,g5,U],h _ g5 g3 g4 (vx g1) (vx g2) z5 λc o x =>
  Zz _ (Zz _ (Zz _ (Zz _ (Zz _ x))))]
end
end PyZ
namespace L2
open PySem PySem.Spec PyZ
open PyProof.Rows hiding St
def WB(K:Frag)(t1 t2:Bool)(a b:AC):It :=
 #[λi H=>∃ xs ys x y,(Bv K t1 H a xs/\Bv K t2 H b ys)/\xs[i]?=some x/\ys[i]?=some y,
  λi H x H'=>∃ p,H p=none/\x=.ref p/\∀ xs ys,Bv K t1 H a xs->Bv K t2 H b ys->∃ u v,xs[i]?=some u/\ys[i]?=some v/\H'=upd H p (.tup [u,v]),
  λi H=>∃ xs ys,(Bv K t1 H a xs/\Bv K t2 H b ys)/\min xs.length ys.length<=i]
section
variable{P:Fr}{w:Fa}{K:Frag}
theorem mF{X:Cx}{Tl:abL}{O:St}{H:Hp}{s:Ch}{a:AC}{t:Bool}{xs:!V}(I:Inv X Tl O H s)(h:Bv X.K t H a xs):∃ its:!AT,Vals xs its/\uE t s.heap a its.toArray/\xs.length<=FB:=by
 cases t with
 | true =>
  let(its,r,p,hz):=I.tuple (show ja X.K H a xs from h);exact#[its,r,p,hz]
 | false =>
  let(its,r,p,hz):=I.list (show dM X.K H a xs from h);exact#[its,r,p.isList,hz]
structure NY(t1 t2:Bool)(z TI TO i1 i2 a b:AC)(i:Nat)(h:Ev):Prop where
 zip:IsZip h z TI TO .none
 ins:Re h TI (.ref i1) (.ref i2)
 out:∃ u v,Re h TO u v
 e1:oh t1 h i1 a i
 e2:oh t2 h i2 b i
theorem EH(t1 t2:Bool){elts:!Da}{k:Nat}{xV:Pos}{z TI TO i1 i2 a b:AC}(Y:Apart z TI TO i1 i2 [i1,a] [i2,b])(ha:a≠i1)(hb:b≠i2):Turn P w K (.Tuple elts k xV) (WB K t1 t2 a b) [z,TI,TO,i1,i2] z (NY t1 t2 z TI TO i1 i2 a b) where
 mem:=by simp
 obj:=λi h st c hc=>by
  simp only[List.mem_cons,List.not_mem_nil,or_false] at hc;rcases hc with rfl | rfl | rfl | rfl | rfl
  .exact#[_,st.zip,λv q=>by
    have q':Data.fields _=Data.cell v:=q;cases q']
  .exact#[_,st.ins,λv q=>by
    have q':Data.seq _ _=Data.cell v:=q;cases q']
  .let(u,v,e):=st.out;exact#[_,e,λv q=>by
    have q':Data.seq _ _=Data.cell v:=q;cases q']
  .exact st.e1.obj
  .exact st.e2.obj
 keep:=λi h h' st kk=>#[kk z (by simp) _ st.zip,kk TI (by simp) _ st.ins,let #[u,v,e]:=st.out;#[u,v,kk TO (by simp) _ e],st.e1.at λo x=>kk i1 (by simp) o x,st.e2.at λo x=>kk i2 (by simp) o x]
 item:=by
  intro X hP hw hK hc i Tl s O H E I hf st hg;subst hP hw hK;let(xs,ys,x,y,(hx,hy),ex,ey):=hg;let(its1,r1,p1,_):=mF I hx;let(its2,r2,p2,_):=mF I hy;let(u,hu,ru):=r1.get ex;let(v,hv,rv):=r2.get ey;have hd:(X.A.in1).handled=none:=I.ok.hd hc;show gB <| Fe Y (oC t1 hd i1 a ha its1.toArray) (oC t2 hd i2 b hb its2.toArray) #[st.zip,st.ins,st.out,#[st.e1,p1],#[st.e2,p2]] ?_ ?_ λu' v' h' tk pu pv Z pT hsz hk=>?_
  .have:=(ZF.mp hu).1;simpa using this
  .have:=(ZF.mp hv).1;simpa using this
  have e1:u'=u:=by
   have q:its1[i]?=some u':=by simpa using pu
   rw[hu] at q;exact (Z7 q).symm
  have e2:v'=v:=by
   have q:its2[i]?=some v':=by simpa using pv
   rw[hv] at q;exact (Z7 q).symm
  subst e1;subst e2;intro tl;show#[_,U,wpAny_letOwnedTupleGo_zip (s:={ s with heap:=h',toks:=tk }) Z.zip λh2 z2 s2=>?_];have hzlt:z < ↑s:=ZK st.zip;have keep:∀ c o,c∉[z,TI,TO,i1,i2]->s.heap.get? c=some o->h2.get? c=some o:=λc o hc q=>by
   simp only[List.mem_cons,List.not_mem_nil,or_false,not_or] at hc;exact s2.extBut _ _ hc.1 (hk c o hc.1 hc.2.2.1 hc.2.2.2.1 hc.2.2.2.2 q)
  have nh:H ↑s=none:=I.aD.fresh (ZC _);have I1:Inv X Tl O (upd H ↑s (.tup [x,y])) { s with heap:=h2,toks:=tk } :=
   Inv.Fy I keep hf (ZC _) #[by change 2<=FB;decide,[u',v'],.cons ru (.cons rv .nil),#[_,s2.extBut _ _ (aah hzlt) pT,U,_,U]] (ZL I.tk tl)
  show#[.ref ↑s,_,I1,U,#[↑s,nh,U,λzs ws q1 q2=>#[x,y,?_,?_,U]],#[z2,s2.extBut _ _ Y.TIz Z.ins,let #[p,q,e]:=Z.out;#[p,q,s2.extBut _ _ Y.TOz e],Z.FQ.1.at λo e=>s2.extBut _ _ Y.i1z e,Z.Dk.1.at λo e=>s2.extBut _ _ Y.i2z e],λc hc=>?_]
  .rw[Ad I hx q1];exact ex
  .rw[Ad I hy q2];exact ey
  .have lK:c < ↑s:=by
    simp only[List.mem_cons,List.not_mem_nil,or_false] at hc;rcases hc with rfl | rfl | rfl | rfl | rfl
    .exact hzlt
    .exact ZK st.ins
    .let(_,_,e):=st.out;exact ZK e
    .let(o,e,_):=st.e1.obj;exact ZK e
    .let(o,e,_):=st.e2.obj;exact ZK e
   rw[ai (ZT lK)];exact (hf c hc).1
 done:=by
  intro X hP hw hK hc i Tl s O H E I hf st hg;subst hP hw hK;let(xs,ys,(hx,hy),hm):=hg;let(its1,r1,p1,_):=mF I hx;let(its2,r2,p2,_):=mF I hy;have l1:=r1.length;have l2:=r2.length;have hd:(X.A.in1).handled=none:=I.ok.hd hc;show gB <| Ke Y (oC t1 hd i1 a ha its1.toArray) (oC t2 hd i2 b hb its2.toArray) #[st.zip,st.ins,st.out,#[st.e1,p1],#[st.e2,p2]] ?_ λh' tk hk tl=>#[U,Inv.G3 (t':=tk) I (λc o hc q=>?_) hf (ZL I.tk tl)]
  .by_cases h1:i < its1.length
   .exact .inr #[by simpa using h1,EJ t2 hd (by simp;cbv)]
   .exact .inl (EJ t1 hd (by simp;cbv))
  .simp only[List.mem_cons,List.not_mem_nil,or_false,not_or] at hc;exact hk c o hc.1 hc.2.2.1 hc.2.2.2.1 hc.2.2.2.2 q
 self:=λ_ _ _ _ _ st h=>wpAny_pyIter_zip st.zip h
end
section
variable{X:Cx}
theorem uE.lt{t:Bool}{h:Ev}{l:AC}{xs:Array AT}(x:uE t h l xs):l < h.objs.size:=by
 cases t with
 | true =>
  let(o,e,_):=(show h.IsTuple l xs from x);exact ZK e
 | false =>
  let(o,e,_):=(show h.IsList l xs from x);exact ZK e
theorem apart_new{n l1 l2:Nat}(h1:l1 < n)(h2:l2 < n):Apart (n+4) (n+2) (n+3) n (n+1) [n,l1] [n+1,l2]:=by
 have ne:∀ (a b:Nat),¬ a=b->¬ ((n+a:Nat):AC)=(n+b:Nat):=λa b h e=>h (Nat.add_left_cancel (show n+a=n+b from e));have nl:∀ {l:Nat} (a:Nat),l < n->¬ ((n+a:Nat):AC)=l:=λ{l} a h e=>aaY l (ZL h (ZH (aaN n a) (Nat.le_of_eq e)));have two:∀ {x a b:AC},¬ x=a->¬ x=b->x∉[a,b]:=λh k z=>(ZD.mp z).elim h λz=>k (ZI.mp z);exact#[ne 2 4 (),ne 3 4 (),ne 0 4 (),ne 1 4 (),ne 2 3 (),ne 2 0 (),ne 2 1 (),ne 3 0 (),ne 3 1 (),two (ne 4 0 ()) (nl 4 h1),two (ne 4 1 ()) (nl 4 h2),two (ne 3 0 ()) (nl 3 h1),two (ne 3 1 ()) (nl 3 h2),two (ne 1 0 ()) (nl 1 h1),two (ne 0 1 ()) (nl 0 h2)]
def Ut(K:Frag)(t:TA):TI:=λO H R=>t O H λvs H1=>∃ a b t1 t2 xs ys,vs=[.ref a,.ref b]/\(Bv K t1 H1 a xs/\Bv K t2 H1 b ys)/\(xs.length<=FB->R (WB K t1 t2 a b) H1)
theorem KG{elts:!Da}{k:Nat}{xV p pos:Pos}{a b:Da}{t:TA}(hg:Gl X "zip")(hm:X.mg "zip"=none)(ha:PA X [a,b] t)(hs:(Go [a,b] X.env=[(false,eval a X.env),(false,eval b X.env)])⁻¹)(xh:(Go [b] X.env=[(false,eval b X.env)])⁻¹):PI X (.Tuple elts k xV) (.Call (.Name "zip" p) [a,b] [] pos) (Ut X.K t):=by
 intro Tl s O H R I h;show Call_ (kf I hg hm (u:=.type "zip") (-()) (PyProof.Rows.callWith_type1 (bQ (ha pos Tl s O H _ I h) λus s1 zz=>el2 zz λvs H1 I1 r1 q1=>?_) (by rw[hs,xh]) (by rw[xh];rfl)));let(l1,l2,t1,t2,xs,ys,e,(hx,hy),q):=q1;subst e;let(u,v,rfl,ru,rv):=Vals.two r1;cases ru;cases rv;let(its1,v1,p1,z1):=mF I1 hx;let(its2,v2,p2,z2):=mF I1 hy;have b1:=uE.lt p1;have b2:=uE.lt p2;show EA p1 p2 λh' hz hI hO e1 e2 hsz hk=>wpAny_pyIter_zip hz ?_;show#[↑s1+4,[↑s1+4,↑s1+2,↑s1+3,↑s1,↑s1+1],_,_,H1,U,I1.kept (t':=s1.toks) hk,
  EH t1 t2 (apart_new b1 b2) (ZT b1) (ZT (Nat.lt_succ_of_lt b2)),#[hz,hI,#[_,_,hO],e1,e2],λc hc=>?_,q z1]
 .have hle:↑s1<=c:=by
   simp only[List.mem_cons,List.not_mem_nil,or_false] at hc;rcases hc with e | e | e | e | e<;>(rw[e];first | exact ZC _ | exact aaN _ _)
  exact I1.ud hle (I1.aD.fresh hle)
end
end L2
namespace DL
open PySem PySem.Spec L2
open PyProof.Rows hiding St
section
variable{X:Cx}{c:Ent}
def wY(xs ys:!D):!D:=xs.zipWith (λx y=>.tup [x,y]) ys
def LC:D->Option (!D)
 | .lst ds=>some ds
 | .tup ds=>some ds
 | _=>none
def Ow(t:eQ):eQ:=λs Q=>t s λas s1=>∃ d e xs ys,as=[d,e]/\(LC d=some xs/\LC e=some ys)/\Q (wY xs ys) s1
theorem u7{xs ys:!D}:(wY xs ys).length=min xs.length ys.length:=by simp[wY]
theorem BS{xs ys:!D}{i:Nat}{d:D}(h:(wY xs ys)[i]?=some d):∃ x y,xs[i]?=some x/\ys[i]?=some y/\d=.tup [x,y]:=by
 unfold wY at h;rw[List.getElem?_zipWith] at h;cases e:xs[i]? with
 | none=>rw[e] at h;cases h
 | some x =>
  cases e2:ys[i]? with
  | none=>rw[e,e2] at h;cases h
  | some y =>
   rw[e,e2] at h;cases h;exact#[x,y,U,U,U]
theorem zt{K:Frag}{M1:AC->Prop}{H1:Hp}{d:D}{xs:!D}{v:V}(h:LC d=some xs)(r:Rep K H1 M1 d v):∃ a t vs,v=.ref a/\av K H1 M1 xs vs/\∀ M2 H2,eC M1 H1 M2 H2->Bv K t H2 a vs/\av K H2 M2 xs vs:=by
 cases d with
 | lst ds =>
  cases h;let(a,vs,rfl,(m,e),r):=r;exact#[a,false,vs,U,r,λM2 H2 G=>#[dM.of ((G a m).2 _ e),G.qN r]]
 | tup ds =>
  cases h;let(a,vs,rfl,e,r):=r;exact#[a,true,vs,U,r,λM2 H2 G=>#[(e.mono (λb m=>(G b m).1) λb o m e=>(G b m).2 o e).sq,G.qN r]]
 | _=>cases h
theorem Pw{elts:!Da}{k:Nat}{xV p pos:Pos}{a b:Da}{t:eQ}(hg:Gl X "zip")(hm:X.mg "zip"=none)(ha:DA X c [a,b] t)(hs:(Go [a,b] X.env=[(false,eval a X.env),(false,eval b X.env)])⁻¹)(xh:(Go [b] X.env=[(false,eval b X.env)])⁻¹):DI X c (.Tuple elts k xV) (.Call (.Name "zip" p) [a,b] [] pos) (Ow t) :=
 #[λTl s O H R I zz=>eF zz λM s0 as R0 L q k=>KG hg hm ha.pa hs xh Tl s O H R I
  #[M,s0,as,_,L,q,λads s1 z7r M1 H1 vs L1 E1 rv _=>by
   let(d,e,xs,ys,ead,(hd,he),q1):=z7r;subst ead;let(u,v,rfl,ru,rw):=wz rv;let(a,t1,us,rfl,r1,g1):=zt hd ru;let(b,t2,ws,rfl,r2,g2):=zt he rw;have G0:eC M1 H1 M1 H1:=λb m=>#[m,λ_ h=>h];show#[a,b,t1,t2,us,ws,U,#[(g1 M1 H1 G0).1,(g2 M1 H1 G0).1],λhl=>k _ s1 q1 M1 H1 _ L1 E1 (λM2 H2 G=>?_) (by rw[u7,<- r1.length];cbv)];let(h1,y1):=g1 M2 H2 G;let(h2,y2):=g2 M2 H2 G;show#[λi hi=>#[us,ws,#[h1,h2],by rw[r1.length,r2.length];rw[u7] at hi;exact hi],λi d hd=>?_];let(x,y,ex,ey,rfl):=BS hd;let(v1,c1,c2):=y1.get ex;let(v2,c3,c4):=y2.get ey;show#[#[us,ws,v1,v2,#[h1,h2],c1,c3],λx H3 #[b,hb,ex,hx]=>.inr ?_];let(w1,w2,m1,m2,m3):=hx us ws h1 h2;rw[c1] at m1;rw[c3] at m2;cases m1;cases m2;subst m3;exact#[b,_,hb,U,b,_,ex,#[.inr U,aj],#[_,_,U,DR hb c2,_,_,U,DR hb c4,U]]]]
theorem aB.over{K:Frag}{c:Ent}{M:AC->Prop}{s:DS}{as:!AC}{O:St}{H:Hp}{p:AC}{o:HO}{ys:!(Key×V)}(L:aB K c M s as O H)(hq:H p=some (.dK ys))(n1:¬ M p)(n2:¬ c.g.own p)(n3:¬ dY s as p)(n4:c.H0 p=none):aB K c M s as O (upd H p o):=by
 have ne:∀ b,M b->b≠p:=λb m q=>n1 (q▸m);have ng:∀ b,c.g.own b->b≠p:=λb m q=>n2 (q▸m);have n0:∀ b u,c.H0 b=some u->b≠p:=λb u e q=>by rw[q,n4] at e;cases e
 show#[#[c.g.loc H _ L.base.lQ λb u g e=>?_,λb u e g=>?_,λb m=>?_,L.base.mo,L.base.m0,L.base.mn],L.len,L.e8,λi d e=>?_,L.own,λk d a e1 e2=>?_,L.inj,L.lt]
 .rw[ai (g.elim (ng b) λ#[φ,f] z=>by subst f;rw[z,hq] at e;cases e)];exact e
 .rw[ai (n0 b u e)];exact L.base.fr b u e g
 .let(u,e):=L.base.md b m;exact#[u,by rw[ai (ne b m)];exact e]
 .let(v,h1,h2):=L.dat i d e;exact#[v,h1,Rep.mono (λ_ h=>h) (λb u m e=>by rw[ai (ne b m)];exact e) d v h2]
 .let((u,q,r),q1):=L.obj k d a e1 e2;show#[#[u,?_,cx.mono (λ_ h=>h) (λb u m e=>by rw[ai (ne b m)];exact e) r],q1];have na:a≠p:=λz=>n3 #[k,d,e1,z▸e2];rw[ai na];exact q
def yh:!(Str×bA)->eQ
 | [],s,Q=>Q [] s
 | kt::r,s,Q=>kt.2 s λd s1=>yh r s1 λds s2=>Q (d::ds) s2
def Cc(K:Frag)(c:Ent)(jP:!(Str×bA)):!(TE×TE):=jP.map λkt=>(tC (.str kt.1),tE K c kt.2)
structure QB(X:Cx)(c:Ent)(pos:Pos)(keys:!(Option Da))(values:!Da)(jP:!(Str×bA)):Prop where
 pp:NS X pos keys values (Cc X.K c jP)
 kl:keys.length=jP.length
theorem Gx{pos:Pos}:QB X c pos [] [] []:=#[yK,U]
theorem fh{pos pk:Pos}{k:Str}{j}{v:Da}{ks:!(Option Da)}{vs:!Da}{te:bA}{jP:!(Str×bA)}(hv:DE X c v te)(hr:QB X c pos ks vs jP):QB X c pos (some (.Constant (.str k) j pk)::ks) (v::vs) ((k,te)::jP):=#[lp bP hv.pe hr.pp,by rw[ZJ,ZJ,hr.kl]]
def lJ:!(Str×bA)->!V->!(Key×V)
 | kt::r,v::vs=>(.inr kt.1,v)::lJ r vs
 | _,_=>[]
theorem v8{O:St}{as:!AC}:∀ (jP:!(Str×bA)) {M:AC->Prop} {s:DS} {H:Hp} {R:!D->DS->Prop} {Q:!(V×V)->Hp->Prop},aB X.K c M s as O H->yh jP s R ->
  (∀ ds s',R ds s'->∀ M' H' vs,aB X.K c M' s' as O H'->Ext c as M s H M' s' H'->av X.K H' M' ds vs->ds.length=jP.length->Q ((lJ jP vs).map λkv=>(kV kv.1,kv.2)) H')->qv (Cc X.K c jP) O H Q
 | [],M,s,H,R,Q,L,q,k=>k [] s q M H [] L .refl U U
 | kt::r,M,s,H,R,Q,L,q,k=>by
  change tC (.str kt.1) O H λx H1=>tE X.K c kt.2 O H1 λy H2=>qv (Cc X.K c r) O H2 λps H3=>Q ((x,y)::ps) H3;show#[M,s,as,_,L,q,λd s1 q1 M1 H1 v L1 E1 rv=>?_];show v8 r L1 q1 λds s2 q2 M2 H2 vs Lb E2 rvs hl=>?_;exact k (d::ds) s2 q2 M2 H2 (v::vs) Lb (E1.trans L1.base E2) #[v,vs,U,E2.rep L1 rv,rvs] (by rw[ZJ,ZJ,hl])
theorem mY:∀ (more az:!(Key×V)),(∀ a∈az,∀ b∈more,a.1≠b.1)->(more.map (·.1)).Nodup->gC az more=az++more
 | [],az,_,_=>by simp[gC]
 | b::more,az,h,nd=>by
  rw[ZG,aaD] at nd;have hp:putK az b.1 b.2=az++[b]:=by
   unfold putK;rw[if_neg];intro q;let(a,m,e):=List.any_eq_true.mp q;exact h a m b Zx (of_decide_eq_true e)
  change gC (putK az b.1 b.2) more=_;rw[hp,mY more (az++[b]) (λa ha x hx=>?_) nd.2,Z4]
  .rfl
  .rcases ZR.mp ha with ha | ha
   .exact h a ha x (Zw _ hx)
   .rw[ZI] at ha;subst ha;exact λe=>nd.1 (e▸aa7 hx)
theorem oX:∀ (jP:!(Str×bA)) (vs:!V),vs.length=jP.length->(lJ jP vs).map (·.1)=jP.map λkt=>Sum.inr kt.1
 | [],[],_=>rfl
 | [],_::_,h=>by simp at h
 | _::_,[],h=>by simp at h
 | kt::r,v::vs,h=>by rw[lJ,List.map_cons,List.map_cons,oX r vs (by simpa using h)]
theorem oW:∀ (jP:!(Str×bA)) (vs:!V),vs.length=jP.length->(lJ jP vs).map (·.2)=vs
 | [],[],_=>rfl
 | [],_::_,h=>by simp at h
 | _::_,[],h=>by simp at h
 | kt::r,v::vs,h=>by rw[lJ,List.map_cons,oW r vs (by simpa using h)]
def Ce(jP:!(Str×bA)):bA:=λs Q=>yh jP s λds s1=>Q (.DM (jP.map λkt=>Sum.inr kt.1) ds) s1
theorem JH{pos:Pos}{keys:!(Option Da)}{values:!Da}{jP:!(Str×bA)}(h:QB X c pos keys values jP)(nd:(jP.map λkt=>(Sum.inr kt.1:Key)).Nodup)(Df:(keys.all (·.isSome)=true)⁻¹)(hl:(keys.length=values.length)⁻¹)(h0:keys≠[]:=by simp)(Qz: ~~~(keys.length<=15)):DN X c (.Dict keys values pos) (Ce jP) :=
 #[(y0 h.pp Df hl h0 Qz).imp λO H Q z5q p hp=>by
   let(M,s,as,R,L,q,k):=z5q;let(n1,n2,n3,n4):=notM L hp;show v8 jP (L.laid (o:=.dK []) hp) q λds s1 q1 M1 H1 vs L1 E1 rvs hd=>?_;have e1:H1 p=some (.dK []):=E1.keep p _ aj n2 n3;have m1:¬ M1 p:=λm=>by
    rcases E1.new p m with z | (z | ⟨_,z⟩) | z
    .exact n1 z
    .rw[aj] at z;cases z
    .rw[aj] at z;cases z
    .exact n3 z
   have w1:¬ dY s1 as p:=λz=>n3 (E1.iY p z);have hv:vs.length=jP.length:=by rw[rvs.length];exact hd
   have hk:=oX jP vs hv;show#[e1,lJ jP vs,U,?_,?_]
   .have:=congrArg List.length hk;rw[Zy,Zy] at this;rw[this,<- h.kl];exact Qz
   .rw[mY _ [] (λa ha=>absurd ha (by simp)) (by rw[hk];exact nd),List.nil_append];have up:∀ b u,M1 b->H1 b=some u->upd H1 p (.dK (lJ jP vs)) b=some u:=λb u m e=>by
     have hb:b≠p:=λq=>m1 (q▸m);rw[ai hb];exact e
    show k _ s1 q1 M1 _ p (.dK (lJ jP vs)) (L1.over e1 m1 n2 w1 n4) ?_ aj #[hk,?_] m1 n2 w1 n4 (.inl hp)
    .refine#[E1.sub,λb m=>?_,λb u e g z=>?_,E1.iY]
     .rcases E1.new b m with z | (z | ⟨xs,z⟩) | z
      .exact .inl z
      .by_cases hb:b=p
       .exact .inr (.inl (.inl (hb▸hp)))
       .rw[ai hb] at z;exact .inr (.inl (.inl z))
      .by_cases hb:b=p
       .exact .inr (.inl (.inl (hb▸hp)))
       .rw[ai hb] at z;exact .inr (.inl (.inr #[xs,z]))
      .exact .inr (.inr z)
     .have hb:b≠p:=au e hp;rw[ai hb];exact E1.keep b u (by rw[ai hb];exact e) g z
    .rw[oW jP vs hv];exact av.mono (λ_ h=>h) up _ _ rvs]
end
end DL
namespace L2
open PySem PySem.Spec PyProof.Rows
section
variable{X:Cx}
end
end L2
namespace DL
open PySem PySem.Spec L2
open PyProof.Rows hiding St
section
variable{X:Cx}{c:Ent}
end
end DL
namespace PySem.F
end PySem.F
namespace PyZ
open PySem Sem
section
variable{prog:Fr}{w:Fa}{A:GE}{E:abK}{s:Ch}{z TI TO i1 i2:AC}{f1 f2:!AC}{n1 n2:Nat}{P1 P2:Nat->AT->Prop}{S1 S2:Nat->Ev->Prop}
end
end PyZ
namespace L2
open PySem PySem.Spec PyZ
open PyProof.Rows hiding St
section
variable{X:Cx}{Tl:abL}{O:St}
end
end L2
namespace DL
open PySem PySem.Spec L2
open PyProof.Rows hiding St
section
variable{X:Cx}{c:Ent}
end
end DL
namespace Q8
open PySem Sem
open PySem.AutoSeq1 (wpAny_loadPart')
section
variable{prog:Fr}{w:Fa}{A:GE}{E:abK}{s:Ch}
end
end Q8
namespace L2
open PySem PySem.Spec
open PyProof.Rows hiding St
section
variable{P:Fr}{w:Fa}{K:Frag}
section
variable{M:Model}{A:GE}{E:abK}{s:Ch}{env:Env}
end
section
variable{X:Cx}
end
end
end L2
namespace DL
open PySem PySem.Spec L2
open PyProof.Rows hiding St
section
variable{X:Cx}{c:Ent}
end
end DL
namespace Q8
open PySem Sem
section
variable{prog:Fr}{w:Fa}{A:GE}{E:abK}{h:Ev}{g:Array GenState}{d:Drawn}{t:Nat}{os:OsState}{a:AC}{o:Obj}
end
end Q8
namespace L2
open PySem PySem.Spec
open PyProof.Rows hiding St
section
variable{X:Cx}{Tl:abL}{O:St}
end
end L2
namespace DL
open PySem PySem.Spec L2
section
variable{X:Cx}{c:Ent}
end
end DL
namespace HT
open PySem PySem.Spec PyProof.Rows
open PySem.AutoSeq1
theorem tuple_addW0(l b:AC)(items JI:Array AT)(n n2:Nat)(dd IB:Option AC)(sl Mj:Array (Option AT))(Zv:items.isEmpty=true) :
  Meets (GT.«tuple.__add__» #[[.ref l,.ref b],[]]) (λ_ R s=>s.heap.get? l=some #[.type "tuple",dd,.seq items n,sl]/\s.heap.get? b=some #[.type "tuple",IB,.seq JI n2,Mj]/\R (.ok (.ret (.ref b))) s) :=
 .of_wp λprog w A R s h=>by
  let(hp,g,d,tk,os):=s;let(hl,hb,h):=h;have f2:=PySem.AutoSeq1.sub_tuple_tuple
  wp_walk using wpAny_loadPart' hl,wpAny_loadPart' hb
  exact#[_,U,h]
section
variable{prog:Fr}{w:Fa}{A:GE}{E:abK}{s:Ch}
theorem EM{t b:AC}{ws:!AT}{Q:abK}(ht:IsTup s.heap t ([]:!AT).toArray)(hb:IsTup s.heap b ws.toArray)(h:Q (.ref b) s):EQ (model prog w) A (P3 .Add (.ref t) (.ref b)) Q E s:=by
 let((cls,dd,data,sl),ho,hc,n,hd):=id ht;let((cls2,IB,data2,Mj),ho2,hc2,n2,hd2):=id hb;simp only at hc hd hc2 hd2;subst hc hd hc2 hd2;exact concat_meets #[_,ho,U] #[_,ho2,U] noFill_tuple_add seq_tuple_add abz abw (abr _ _) (tuple_addW0 t b _ ws.toArray n n2 dd IB sl Mj U) #[ho,ho2,h]
end
end HT
namespace L2
open PySem PySem.Spec PyProof.Rows
section
variable{X:Cx}
def HG(K:Frag):R2:=λx y H Q=>∃ a b xs ys,x=.ref a/\y=.ref b/\ja K H a xs/\ja K H b ys/\xs.length+ys.length<=FB/\(xs=[]->Q (.ref b) H)/\(xs≠[]->ys=[]->Q (.ref a) H)/\(xs≠[]->ys≠[]->∀ p,H p=none->Q (.ref p) (upd H p (.tup (xs++ys))))
theorem uc:iA X (P3 .Add) (HG X.K):=by
 intro Tl s O H x y v u Q I rx ry h;let(a,b,xs,ys,rfl,rfl,ha,hb,hz,q0,q1,q2):=h;by_cases hx:xs=[]
 .cases rx;cases ry;let(its,r1,p1,_):=I.tuple ha;let(its2,r2,p2,_):=I.tuple hb;have e:its=[]:=r1.ou.mpr hx;subst e;exact HT.EM p1 p2 #[.ref b,H,I,U,q0 hx]
 .exact Ga Tl s O H _ _ v u Q I rx ry #[a,b,xs,ys,U,U,ha,hb,hx,hz,q1 hx,q2 hx]
end
end L2
namespace DL
open PySem PySem.Spec L2
section
variable{X:Cx}{c:Ent}
def NP:D->D->(D->Prop)->Prop:=λa b k=>∃ xs ys,a=.tup xs/\b=.tup ys/\xs.length+ys.length<=FB/\k (.tup (xs++ys))
theorem xR:qI X c (HG X.K) NP:=λM s as O H x y dx dy k Q L rx ry z8r kk=>by
 let(xs,ys,e1,e2,hl,hk):=z8r;subst e1;subst e2;let(p,vs,rfl,t,r):=rx;let(p',Ig,rfl,t',r'):=ry;show#[p,p',vs,Ig,U,U,t.sq,t'.sq,by rw[r.length,r'.length];exact hl,λz=>?_,λ_ z=>?_,λ_ z q hq=>?_]
 .have:=r.length;rw[z] at this;have e:xs=[]:=Z6 this.symm;subst e;rw[aaJ] at hk;exact kk _ hk M H _ L .refl #[p',Ig,U,t',r']
 .have:=r'.length;rw[z] at this;have e:ys=[]:=Z6 this.symm;subst e;rw[ZM] at hk;exact kk _ hk M H _ L .refl #[p,vs,U,t,r]
 .exact kk _ hk _ _ _ (L.fresh hq) (Ext.fresh hq) #[q,vs++Ig,U,#[.inr U,aj],oG hq (r.append r')]
end
end DL
namespace DL
open PySem PySem.Spec L2
open PyProof.Rows hiding St
section
variable{K:Frag}{H:Hp}{M:AC->Prop}{a:AC}
end
section
variable{X:Cx}{c:Ent}{k:Nat}{f:AC}{fd:IR}{ps:!Str}{t:abM}{x:Str}{p pos:Pos}{e ex:Da}{te:bA}
end
end DL
namespace DL
open PySem PySem.Spec L2
theorem Nm.ok{x:Str}(h:Nm x):Gc.strOk x=true:=h.1.strOk
theorem fY{α:Type}{f:α->D}{xs:!α}{lo hi:Option Int}:cutD (xs.map f) lo hi=((xs.drop (HT.ck xs.length 0 lo)).take (HT.ck xs.length xs.length hi - HT.ck xs.length 0 lo)).map f:=by
 unfold cutD;rw[Zy,<- List.map_drop,<- List.map_take]
def _root_.DL.Sl.pl:Sl->Bool
 | .own _=>false
 | _=>true
end DL
namespace DL
theorem jn{C G:Prop}(hrest:C)(h:C->G):G:=h hrest
end DL
namespace DL
open PySem L2
theorem gY{x:D}{xs:!D}:cutD (x::xs) (some 1) none=xs:=by
 unfold cutD;have e1:HT.ck (x::xs).length 0 (some 1)=1:=by
  unfold HT.ck;simp only[List.length_cons]
  repeat' split
  all_goals cbv
 have e2:HT.ck (x::xs).length (x::xs).length none=(x::xs).length:=rfl;rw[e1,e2,List.drop_succ_cons,List.drop_zero,List.take_of_length_le (by simp)]
end DL
namespace DL
open PySem PySem.Spec L2
end DL
namespace DL
open PySem L2
end DL
namespace DL
open PySem PySem.Spec L2
open PyProof.Rows hiding St
def del(H:Hp)(r:AC):Hp:=λb=>if b=r then none else H b
theorem ia{H:Hp}{r b:AC}(h:b≠r):del H r b=H b:=if_neg h
theorem vZ{H:Hp}{r:AC}:del H r r=none:=if_pos U
def gR(d l r:AC):Ba:={ bH d l with kc:=[r] }
def GU(K:Frag)(d l r:AC)(t:!D->D->(D->D->Prop)->Prop):Sp:=λvs H Q _=>∃ M ds R d0 o,Base #[bH d l,M,H] M H/\(¬ M r/\¬ (r=d\/r=l))/\H r=some o/\cx K H M d0 o/\av K H M ds vs/\t ds d0 R /\
 ∀ x d1,R x d1->∀ M' H' v o',Base #[bH d l,M,del H r] M' H'->H' r=some o'->cx K H' M' d1 o'->¬ M' r->Rep K H' M' x v->Q v H'
def ub(n nos i:Nat)(ds:!D)(d0:D):DS:=#[(ds.map Sl.dat).set i (.own 0)++List.replicate (n - ds.length) .no,some d0::List.replicate nos none]
section
variable{K:Frag}{d l r:AC}{M:AC->Prop}{H:Hp}
theorem vV{N:!Str}{nos i:Nat}{ds:!D}{vs:!V}{d0:D}{o:HO}(B:Base #[bH d l,M,H] M H)(nr:¬ M r/\¬ (r=d\/r=l))(ho:H r=some o)(ro:cx K H M d0 o)(rs:av K H M ds vs)(hi:ds[i]?=some (.hJ r)) :
  aB K #[gR d l r,M,del H r] M (ub N.length nos i ds d0) (r::List.replicate nos 0) (L2.start N vs) H:=by
 have hl:=rs.length;have hin:i < ds.length:=(ZF.mp hi).1;have gd:∀ {j:Nat} {z:Sl},(ub N.length nos i ds d0).sl[j]?=some z->z≠.no->(j=i/\z=.own 0)\/(j≠i/\∃ x,ds[j]?=some x/\z=.dat x):=λ{j z} h hz=>by
  have h:((ds.map Sl.dat).set i (.own 0)++List.replicate (N.length - ds.length) Sl.no)[j]?=some z:=h;by_cases hj:j < ds.length
  .rw[List.getElem?_append_left (by simpa using hj)] at h;rcases bG h with ⟨e,_,q⟩ | ⟨ne,q⟩
   .exact .inl #[e.symm,by first | exact q.symm | exact q]
   .refine .inr #[λe=>ne e.symm,?_];rw[Z8] at q;let(x,h1,h2):=ZN.mp q;exact#[x,h1,h2.symm]
  .rw[List.getElem?_append_right (by simp;cbv)] at h;let(_,e):=ZF.mp h;simp at e;exact absurd e.symm hz
 have at_:∀ {j:Nat} {x:D},ds[j]?=some x->∃ v,(L2.start N vs)[j]?=some (some v)/\Rep K H M x v:=λ{j x} h=>by
  let(v,h1,h2):=rs.get h;show#[v,?_,h2];have hj:j < vs.length:=(ZF.mp h1).1;change (vs.map some++List.replicate (N.length - vs.length) none)[j]?=_;rw[List.getElem?_append_left (by simpa using hj),List.getElem?_map,h1]
  rfl
 show#[#[B.lQ,λb u e _=>?_,B.md,B.mo,λ_ m=>m,λ_ m=>.inl m],?_,by simp[ub],λj x h=>?_,λj k h=>?_,λk x a h1 h2=>?_,λk m x y a h1 h2 _ _=>?_,λk a h=>?_]
 .by_cases hb:b=r
  .have e:del H r b=some u:=e;rw[hb,vZ] at e;cases e
  .have e:del H r b=some u:=e
   rwa [ia hb] at e
 .show ((ds.map Sl.dat).set i (.own 0)++List.replicate (N.length - ds.length) Sl.no).length=(vs.map some++List.replicate (N.length - vs.length) none).length;simp[hl]
 .rcases gd h (by intro z;cases z) with ⟨_,z⟩ | ⟨_,y,h1,z⟩
  .cases z
  .cases z;exact at_ h1
 .rcases gd h (by intro z;cases z) with ⟨e,z⟩ | ⟨_,y,h1,z⟩
  .cases z;subst e;let(v,h1,h2):=at_ hi;have h2:v=.ref r:=h2;subst h2;exact#[r,U,h1]
  .cases z
 .match k with
  | 0 =>
   have h1:some (some d0)=some (some x):=h1;have h2:some r=some a:=h2;cases h1;cases h2;exact#[#[o,ho,ro],nr.1,nr.2,vZ]
  | k+1 =>
   have h1:(List.replicate nos (none:Option D))[k]?=some (some x):=h1;let(_,e):=ZF.mp h1;simp at e
 .match k,m with
  | 0,0=>rfl
  | k+1,_ =>
   have h1:(List.replicate nos (none:Option D))[k]?=some (some x):=h1;let(_,e):=ZF.mp h1;simp at e
  | 0,m+1 =>
   have h2:(List.replicate nos (none:Option D))[m]?=some (some y):=h2;let(_,e):=ZF.mp h2;simp at e
 .match k with
  | 0=>exact h
  | k+1=>exact (nomatch (show ([]:!AC)[k]?=some a from h))
end
section
variable{P:Fr}{w:Fa}{K:Frag}{mg:Str->Option AT}{base:Ev}{d l r:AC}
theorem Yn{x qual:Str}{st:Fk}{f:AC}{fd:IR}{N ps:!Str}{k nos:Nat}{t:!D->D->(D->D->Prop)->Prop}(i:Nat)(F:pJ K x qual st f fd)(S:ar N ps (ag st))(len:∀ ds d0 R,t ds d0 R->ds.length=ps.length/\ds[i]?=some (.hJ r))(hb:∀ (bp:AT) (A:GE) (outer:!Env) (s:Ch) (H:Hp) (E:XK) (M:AC->Prop),bF k (A.deeper (envOfC qual (ag st) ↑s f bp)) ->
   ∃ tb,vW (jO aV P w K mg base N qual (ag st) f bp A outer s H E).wD #[gR d l r,M,del H r] (aq st) tb/\∀ ds d0 R,t ds d0 R->tb { nx:=λ_=>False,rt:=λ_=>False,rs:=λx s=>∃ d1,s.os[0]?=some (some d1)/\R x d1 } (ub N.length nos i ds d0)):br P w K mg base aV (k+1) f fd ps (GU K d l r t):=by
 show F.ok S (λvs H Q E h=>?_) λbp A outer s H vs Q E hr h=>?_
 .let(M,ds,R,d0,o,B,nr,ho,ro,rs,q,_):=h;rw[rs.length];exact (len ds d0 R q).1
 .let(M,ds,R,d0,o,B,nr,ho,ro,rs,q,kk):=h;let(tb,h1,h2):=hb bp A outer s H E M hr;exact#[_,h1.ps,M,_,_,_,vV B nr ho ro rs (len ds d0 R q).2,h2 ds d0 R q,#[λ_ _ _ _ _ z=>z.elim,λ_ _ _ _ _ z=>z.elim,λ_ _ _ _ _ z=>z.elim,λ_ _ _ _ z=>z.elim,λ_ _ _ _ _ z=>z.elim,λx s as M' O H' v z9r L rv=>by
   let(d1,e1,q1):=z9r;let((o',g1,g2),nm,_,_):=L.obj 0 d1 r e1 (L.lt 0 r U);exact kk x d1 q1 M' H' v o' #[L.base.lQ,L.base.fr,L.base.md,L.base.mo,L.base.m0,L.base.mn] g1 g2 nm rv]]
theorem GP{k:Nat}{f:AC}{fd:IR}{ps:!Str}{t:abM}(F:br P w K mg base aV k f fd ps (b5 K (bH d l) t)):br P w K mg base aV k f fd ps (b5 K (gR d l r) t) :=
 F.imp λvs H Q E #[M,ds,R,B,rs,q,kk]=>#[M,ds,R,#[B.lQ,B.fr,B.md,B.mo,B.m0,B.mn],rs,q,λx rx M' H' v B' rv=>kk x rx M' H' v #[B'.lQ,B'.fr,B'.md,B'.mo,B'.m0,B'.mn] rv]
end
section
variable{X:Cx}{c:Ent}{st:Fk}{e:Da}{te:bA}{pos:Pos}
def Mv(te:bA):jX:=λR s=>te s λx s1=>R.rs x s1
theorem K0(he:DE X c e te):qH X c (.Return (some e) pos) (Mv te):=#[(eI he.pe).imp λE O H zz=>eF zz λM s as R L q k =>
 #[M,s,as,_,L,q,λd s1 r M' H' v L' E' rv=>k.rs d s1 as M' O H' v r L' rv]]
def Xp(i:Nat)(r:AC):bA:=λs Q=>s.sl[i]?=some (.own 0)/\Q (.hJ r) s
theorem XW{i:Nat}{r:AC}(hl:c.g.kc[0]?=some r)(h:PE X e (bO i)):DE X c e (Xp i r):=#[h.imp λO H Q z0r=>by
 let(M,s,as,R,L,(h1,q),kk):=z0r;let(a,g1,g2):=L.own i 0 h1;rw[L.lt 0 r hl] at g1;cases g1;exact#[_,g2,kk _ s q M H _ L .refl U]]
end
section
variable{K:Frag}{c:Ent}{M M':AC->Prop}{s:DS}{as:!AC}{O:St}{H H':Hp}{d l r:AC}
theorem aB.drop(L:aB K c M s as O H)(k:Nat):aB K c M #[s.sl,s.os.set k none] as O H:=by
 have back:∀ {j:Nat} {x:D},(s.os.set k none)[j]?=some (some x)->s.os[j]?=some (some x):=λ{j x} h=>by
  rcases bG h with ⟨_,_,q⟩ | ⟨_,q⟩
  .cases q
  .exact q
 exact#[L.base,L.len,by change as.length=(s.os.set k none).length;rw[aab];exact L.e8,L.dat,L.own,λj x a h1 h2=>L.obj j x a (back h1) h2,λj m x y a h1 h2=>L.inj j m x y a (back h1) (back h2),L.lt]
theorem aB.kc(L:aB K c M s as O H)(V7:c.g.own=λb=>b=d\/b=l)(Oz:c.g.inv=λH=>cj.At H d l)(B:Base #[bH d l,M,del H r] M' H')(nm:¬ M' r)(nM:¬ M r)(h0:c.H0 r=none)(nw:¬ dY s as r):aB K c M' s as O H':=by
 have kp:∀ b u,b≠r->H b=some u->¬ c.g.own b->H' b=some u:=λb u nb e g=>B.fr b u (by change del H r b=_;rw[ia nb];exact e) (by rw[V7] at g;exact g);have km:∀ b u,M b->H b=some u->H' b=some u:=λb u m e=>kp b u (λz=>nM (z▸m)) e (L.base.mo b m);have nu:∀ b,M' b->M b\/Nu H b:=λb m=>by
  rcases B.mn b m with z | z
  .exact .inl z
  .have nb:b≠r:=λq=>nm (q▸m);show .inr ?_;have z:Nu (del H r) b:=z;unfold Nu at z ⊢;rw[ia nb] at z;exact z
 show#[#[by rw[Oz];exact B.lQ,λb u e g=>kp b u (λz=>by rw[z,h0] at e;cases e) (L.base.fr b u e g) g,B.md,λb m=>by rw[V7];exact B.mo b m,λb m=>B.m0 b (L.base.m0 b m),λb m=>?_],L.len,L.e8,λi x e=>?_,L.own,λk x a h1 h2=>?_,L.inj,L.lt]
 .rcases nu b m with m | n | ⟨xs,n⟩
  .exact L.base.mn b m
  .exact .inr (.inl (L.base.lI n))
  .refine .inr ?_;cases e:c.H0 b with
   | none=>exact .inl e
   | some o =>
    have:=L.base.fr b o e λg=>c.g.nt H b xs L.base.lQ g n;rw[n] at this;cases this;exact .inr #[xs,e]
 .let(v,q1,q2):=L.dat i x e;exact#[v,q1,Rep.mono B.m0 km x v q2]
 .let((o,q1,q2),UI,ng,hz):=L.obj k x a h1 h2;have na:a≠r:=λz=>nw #[k,x,h1,z▸h2];show#[#[o,kp a o na q1 ng,q2.mono B.m0 km],λm=>?_,ng,hz];rcases nu a m with m | n | ⟨xs,n⟩
  .exact UI m
  .rw[n] at q1;cases q1
  .rw[n] at q1;cases q1;exact q2.FZ
theorem aB.back{k:Nat}{x:D}{o:HO}(L:aB K c M s as O H)(hk:as[k]?=some r)(ho:H r=some o)(ro:cx K H M x o)(nm:¬ M r)(ng:¬ c.g.own r)(h0:c.H0 r=none)(nw:¬ dY s as r):aB K c M #[s.sl,s.os.set k (some x)] as O H:=by
 show#[L.base,L.len,by change as.length=(s.os.set k _).length;rw[aab];exact L.e8,L.dat,L.own,λj y a h1 h2=>?_,λj m y z a h1 h2 g1 g2=>?_,L.lt]
 .rcases bG h1 with ⟨rfl,_,q⟩ | ⟨_,q⟩
  .cases q;rw[hk] at h2;cases h2;exact#[#[o,ho,ro],nm,ng,h0]
  .exact L.obj j y a q h2
 .rcases bG h1 with ⟨rfl,_,q⟩ | ⟨_,q⟩
  .rcases bG h2 with ⟨rfl,_,q'⟩ | ⟨_,q'⟩
   .rfl
   .rw[hk] at g1;cases g1;exact absurd #[m,z,q',g2] nw
  .rcases bG h2 with ⟨rfl,_,q'⟩ | ⟨_,q'⟩
   .rw[hk] at g2;cases g2;exact absurd #[j,y,q,g1] nw
   .exact L.inj j m y z a q q' g1 g2
end
section
variable{X:Cx}{k:Nat}{f d l r:AC}{M0:AC->Prop}{H0:Hp}{fd:IR}{ps:!Str}{x:Str}{p pos:Pos}{e:Da}{es:!Da}{ta:eQ}
def wL(t:!D->D->(D->D->Prop)->Prop)(ta:eQ):bA:=λs Q=>ta s λds s1=>∃ d0,s1.os[0]?=some (some d0)/\t ds d0 λx d1=>Q x (s1.put 0 d1)
theorem BX{t:!D->D->(D->D->Prop)->Prop}{c:Ent}(hg:c.g=gR d l r){O:St}{H:Hp}{Q:VK}{n:Nat}{E:XK}:tE X.K c (wL t ta) O H Q->vm (GU X.K d l r t) [] E (tA X.K c n ta) O H Q:=λzz=>eF zz λM s as R L q kk =>
 #[M,s,as,_,L,q,λds s1 z1r M1 H1 vs L1 E1 r1 hl=>by
  let(d0,e0,q1):=z1r;let(g,M0,H0):=c;cases (show g=gR d l r from hg);have as0:=L1.lt 0 r U;let((o,ho,ro),nm,ng,h0):=L1.obj 0 d0 r e0 as0;have own_r:dY s1 as r:=#[0,d0,e0,as0];have B1:=L1.base.here;show#[M1,ds,_,d0,o,#[B1.lQ,B1.fr,B1.md,B1.mo,B1.m0,B1.mn],#[nm,ng],ho,ro,by rw[ZM];exact r1,q1,λx d1 rx M' H' v o' B yt ro' nm' rv=>?_];have nw:¬ dY #[s1.sl,s1.os.set 0 none] as r:=λz2r=>by
   let(k,y,z1,z2):=z2r;rcases bG z1 with ⟨_,_,q⟩ | ⟨ne,q⟩
   .cases q
   .exact ne (L1.inj 0 k d0 y r e0 q as0 z2)
  have L2:=(L1.drop 0).kc (d:=d) (l:=l) (r:=r) U U B nm' nm h0 nw;have L3:=L2.back as0 yt ro' nm' ng h0 nw;have e3:(s1.os.set 0 none).set 0 (some d1)=s1.os.set 0 (some d1):=List.set_set _;have L4:aB X.K #[gR d l r,M0,H0] M' (s1.put 0 d1) as O H':=by
   have:=L3;rw[show (#[s1.sl,s1.os.set 0 none]:DS).os.set 0 (some d1)=s1.os.set 0 (some d1) from e3] at this;exact this
  show kk x (s1.put 0 d1) rx M' H' v L4 (E1.trans L1.base #[B.m0,λb m=>?_,λb u e g w=>?_,λb #[k,y,z1,z2]=>?_]) rv
  .rcases B.mn b m with z | z
   .exact .inl z
   .have nb:b≠r:=λq=>nm' (q▸m);have z:Nu (del H1 r) b:=z;unfold Nu at z;rw[ia nb] at z;exact .inr (.inl z)
  .have nb:b≠r:=λz=>w (z▸own_r);exact B.fr b u (by change del H1 r b=_;rw[ia nb];exact e) g
  .rcases bG z1 with ⟨hk,_,q⟩ | ⟨ne,q⟩
   .subst hk;exact#[0,d0,e0,z2]
   .exact#[k,y,q,z2]]
theorem Hr{t:!D->D->(D->D->Prop)->Prop}(hr:bF k X.A)(hg:Gl X x)(hm:X.mg x=some (.ref f))(hk:keepIn X.K (.ref f)=true)(hb:Binds X.K fd ps [])(ha:DA X #[gR d l r,M0,H0] (e::es) ta)(F:br X.prog X.w X.K X.mg X.base aV k f fd ps (GU X.K d l r t))(fM: ~~~(abP x))(he:(abN X.env e es)⁻¹)(dI:(abO X.env pos es)⁻¹) :
  DE X #[gR d l r,M0,H0] (.Call (.Name x p) (e::es) [] pos) (wL t ta):=#[(cU F hr hg hm hk hb .nil (E:=E0) lh ha.pa fM he dI).imp λ_ _ _=>BX U]
def GB(K:Frag)(d l:AC)(t:AC->!D->D->(D->D->Prop)->Prop):Sp:=λvs H Q E=>∃ r,GU K d l r (t r) vs H Q E
theorem Ru{P:Fr}{w:Fa}{K:Frag}{mg:Str->Option AT}{base:Ev}{t:AC->!D->D->(D->D->Prop)->Prop}(G:∀ r,br P w K mg base aV k f fd ps (GU K d l r (t r))):br P w K mg base aV k f fd ps (GB K d l t) :=
 #[λvs H Q E #[r,h]=>(G r).len vs H Q E h,λA outer s H args us vs Q E hr he hb hv #[r,hs]=>(G r).run A outer s H args us vs Q E hr he hb hv hs]
end
end DL
namespace DL
open PySem L2 PyProof.Rows
abbrev D3:=Str×Fk×!Str
def Own(K:Frag)(mg:Str->Option AT)(d:D3):Prop:=∃ f fd,pJ K d.1 d.1 d.2.1 f fd/\mg d.1=some (.ref f)/\Binds K fd d.2.2 []
def C4(P:Fr)(w:Fa)(K:Frag)(mg:Str->Option AT)(base:Ev)(CX:u4)(d:D3)(k:Nat)(sp:Sp):Prop:=∃ f fd,br P w K mg base CX k f fd d.2.2 sp/\pJ K d.1 d.1 d.2.1 f fd/\mg d.1=some (.ref f)/\Binds K fd d.2.2 []
section
variable{P:Fr}{w:Fa}{K:Frag}{mg:Str->Option AT}{base:Ev}{CX:u4}{d:D3}{k:Nat}{sp Nk:Sp}
theorem Own.c(o:Own K mg d)(h:∀ f fd,pJ K d.1 d.1 d.2.1 f fd->br P w K mg base CX k f fd d.2.2 sp):C4 P w K mg base CX d k sp :=
 let #[f,fd,F,m,b]:=o
 #[f,fd,h f fd F,F,m,b]
theorem C4.imp(c:C4 P w K mg base CX d k sp)(h:∀ f fd,br P w K mg base CX k f fd d.2.2 sp->br P w K mg base CX k f fd d.2.2 Nk):C4 P w K mg base CX d k Nk :=
 let #[f,fd,G,r]:=c
 #[f,fd,h f fd G,r]
theorem je{h:Ev}{f:AC}{oc:AT}{od an:Option AC}{vv:Array (Option AT)}{kV doc pm bp ct:AT}(X:K.In h)(G:h.Ns IN mg)(a:nsIn K IN d.1=some (some (.ref f)))(l:K.lookup f=some #[oc,od,.func (fnOf d.1 d.1 (bW d.2.1) (aq d.2.1) (ag d.2.1) .none kV doc pm an bp ct),vv])(c:codeIn K bp d.1=true)(k:keepIn K (.ref f)=true)(b:∀ (kV doc pm:AT) (an:Option AC) (bp ct:AT) (us:!AT),us.length=d.2.2.length->bindArgs (fnOf d.1 d.1 (bW d.2.1) (aq d.2.1) (ag d.2.1) .none kV doc pm an bp ct) #[us,[]]=pure (d.2.2.zip us)):Own K mg d :=
 #[f,_,sY l c k,ZZ X G a,(sY (st:=d.2.1) l c k).binds b]
end
section
variable{X:Cx}{c:Ent}{d:D3}{k m:Nat}{t:abM}{x:Str}{p pos:Pos}{e:Da}{es:!Da}{ta:eQ}
theorem bf(hr:bF m X.A)(G:C4 X.prog X.w X.K X.mg X.base aV d k (b5 X.K c.g t))(ha:DA X c (e::es) ta)(hx:(d.1=x)⁻¹)(hk:k<=m:=by ac_rfl)(hg:(Gl X x)⁻¹)(fM: ~~~(abP x))(he:(abN X.env e es)⁻¹)(dI:(abO X.env pos es)⁻¹) :
  DE X c (.Call (.Name x p) (e::es) [] pos) (gy t ta):=by
 subst hx;let(f,fd,G,F,M,b):=G;exact Kj (hr.mono hk) hg M F.kp b ha G fM he dI
theorem aC(hr:bF m X.A)(G:C4 X.prog X.w X.K X.mg X.base aV d k (b5 X.K .no t))(ha:DA X c (e::es) ta)(hx:(d.1=x)⁻¹)(hk:k<=m:=by ac_rfl)(hg:(Gl X x)⁻¹)(fM: ~~~(abP x))(he:(abN X.env e es)⁻¹)(dI:(abO X.env pos es)⁻¹) :
  DE X c (.Call (.Name x p) (e::es) [] pos) (gy t ta):=by
 subst hx;let(f,fd,G,F,M,b):=G;exact GC (hr.mono hk) hg M F.kp b ha G fM he dI
theorem fw(hr:bF m X.A)(G:C4 X.prog X.w X.K X.mg X.base aV d k (ES X.K .no t))(ha:DA X c (e::es) ta)(hx:(d.1=x)⁻¹)(hk:k<=m:=by ac_rfl)(hg:(Gl X x)⁻¹)(fM: ~~~(abP x))(he:(abN X.env e es)⁻¹)(dI:(abO X.env pos es)⁻¹) :
  DN X c (.Call (.Name x p) (e::es) [] pos) (gy t ta):=by
 subst hx;let(f,fd,G,F,M,b):=G;exact Gn (hr.mono hk) hg M F.kp b ha G fM he dI
end
theorem fQ{N P:!Str}{sc:Scope}(h1:(sc.kind=.function)⁻¹)(h2:(sc.isCoroutine=false)⁻¹)(h3:(sc.isGenerator=false)⁻¹)(h4:N.Nodup:=by decide+kernel)(h5:(N.take P.length=P)⁻¹)(h6:∀ x∈P,sc.names.lookup x=some .local\/sc.names.lookup x=some .cell:=by decide+kernel)(h7:∀ y∈sc.names,y.2≠.free:=by decide+kernel)(h8:∃ n∈P,sc.names.lookup n=some .local:=by decide+kernel):ar N P sc:=#[h1,h2,h3,h4,h5,h6,h7,h8]
theorem lV{g:qL}{tb:jX}{R:gD}(I:!D->DS->Prop)(h0:∀ s,I [] s->R.nx s)(h1:∀ x xs s (E:gD),I (x::xs) s->(∀ s',I xs s'->E.nx s')->(∀ d,R.rt d->E.rt d)->g x s λs1=>tb E s1):∀ xs s,I xs s->mJ g tb R xs s
 | [],s,h=>h0 s h
 | x::xs,s,h=>h1 x xs s { R with nx:=λs'=>mJ g tb R xs s',ct:=λs'=>mJ g tb R xs s',bk:=R.nx } h (λs' h'=>lV I h0 h1 xs s' h') λ_ h=>h
section
variable{X:Cx}{c:Ent}{x:Str}{pos p:Pos}
theorem vd(i:Nat)(hN:(X.N[i]?=some x)⁻¹)(hv:LX X.env.scope x:=by first | exact Or.inl U | exact Or.inr (Or.inl U) | exact Or.inr (Or.inr U))(hd: ~~~(abP x))(rB: ~~~((x == ("__classdict__":Str))=false)):DE X c (.Name x pos) (MG i):=dv (xP hN hv hd rB)
theorem gN{n:Nat}(i:Nat)(hN:X.N.Nodup)(hi:(X.N[i]?=some x)⁻¹)(hx:Loc X.env.scope x:=by exact Or.inl U)(hf:abQ X x:=by ac_nf)(hl: ~~~(i < n)):DG X c n (.Name x pos) (xv i):=CZ (fP hN hi hx hf) hl
theorem gM{n:Nat}(i:Nat)(L:!Str)(hN:L.Nodup:=by decide+kernel)(hL:(X.N=L)⁻¹)(hi:(L[i]?=some x)⁻¹)(hx:Loc X.env.scope x:=by exact Or.inl U)(hf:abQ X x:=by ac_nf)(hl: ~~~(i < n)):DG X c n (.Name x pos) (xv i):=CZ (fP (hL▸hN) (hL▸hi) hx hf) hl
theorem sS{e:Da}{te:bA}(i:Nat)(hN:X.N.Nodup)(he:DE X c e te)(hi:(X.N[i]?=some x)⁻¹)(hx:Loc X.env.scope x:=by exact Or.inl U)(hs:(swapsWith e (some (.Name x p)) pos.line X.env=pure false)⁻¹)(hf:abQ X x:=by ac_nf):qH X c (.Assign [.Name x p] e pos) (rS i te):=C2 (eT hN hi hx he.pe hs hf)
theorem sN{e:Da}{te:bA}(k i:Nat)(hN:X.N.Nodup)(he:DN X c e te)(hi:(X.N[i]?=some x)⁻¹)(hx:Loc X.env.scope x:=by exact Or.inl U)(hs:(swapsWith e (some (.Name x p)) pos.line X.env=pure false)⁻¹)(hf:abQ X x:=by ac_nf)(lK:c.g.kc.length<=k:=by first | exact Z1 _ | exact ZC _ | exact aaM (Z1 _)):qH X c (.Assign [.Name x p] e pos) (HR i k te):=LD (eT hN hi hx he.pe hs hf) lK
variable{a b:Da}{ta tb:bA}
theorem xa(ha:DE X c a ta)(hb:DE X c b tb)(hs:oA b:=by exact λ_ _=>rfl):DE X c (.Subscript a b pos) (ER OZ ta tb):=xX KJ Qg ha hb hs
theorem j0(ha:DE X c a ta)(hb:DE X c b tb)(hs:oA b:=by exact λ_ _=>rfl):DE X c (.Subscript a b pos) (ER Od ta tb):=xX hV Np ha hb hs
theorem sF{tg iter:Da}{body:!Fk}{ti:eQ}{g:qL}{tb:jX}(hi:DI X c tg iter ti)(hg:DG X c 1000 tg g)(hb:vW X c body tb)(hc:(X.calm=true)⁻¹)(hp:PassesOwn (model X.prog X.w) X.A X.env X.xe:=by exact PassesOwn.never)(hs:abR iter X.env:=by intro _;rfl):qH X c (.For tg iter body [] pos) (Ir ti g tb):=Nb hp hc hi hg hb hs
theorem EO{e:Da}{es:!Da}{t:eQ}{apos bq:Pos}(i:Nat)(ha:DA X c (e::es) t)(hN:(X.N[i]?=some x)⁻¹)(hv:LX X.env.scope x:=by first | exact Or.inl U | exact Or.inr (Or.inl U) | exact Or.inr (Or.inr U))(hd: ~~~(abP x))(rB: ~~~((x == ("__classdict__":Str))=false))(eD:(attributeBase (.Name x p) "append" X.env (eval (.Name x p) X.env)=eval (.Name x p) X.env)⁻¹)(kb:(((KB bq (Go (e::es) X.env)).all (λx=>(not x.1))&&(ST bq (SZ [] X.env)).all (λx=>x.1.isSome)
   && decide ((e::es).length+([]:!Ps).length+(if ([]:!Ps).isEmpty then 0 else 1) < 30))=true)⁻¹)(eM:((apos.endLine == bq.line)=true)⁻¹)(hs:(abN X.env e es)⁻¹)(d6:((KB bq (Go es X.env)).any (·.1)=false)⁻¹)(Fs:(swapsWith (.Call (.Attribute (.Name x p) "append" apos) (e::es) [] bq) none pos.line X.env=pure false)⁻¹) :
  qH X c (.Expr (.Call (.Attribute (.Name x p) "append" apos) (e::es) [] bq) pos) (DH (NC i Pu t)):=yk (JE aay aaz eA Qk (xP hN hv hd rB) ha eD kb eM hs d6) Fs
end
section
variable{X:Cx}{c:Ent}{pos p:Pos}{e:Da}{es:!Da}{t:eQ}
theorem jS(hm:X.mg "len"=none)(ha:DA X c (e::es) t)(hg:(Gl X "len")⁻¹)(he:(abN X.env e es)⁻¹)(dI:(abO X.env pos es)⁻¹):DE X c (.Call (.Name "len" p) (e::es) [] pos) (m5 PL t):=a8 fK OO hg hm aaf ha () () he dI
theorem AZ(hm:X.mg "tuple"=none)(ha:DA X c (e::es) t)(hg:(Gl X "tuple")⁻¹)(he:(abN X.env e es)⁻¹)(dI:(abO X.env pos es)⁻¹):DE X c (.Call (.Name "tuple" p) (e::es) [] pos) (m5 MR t):=fU qS MW hg hm (-()) ha () () he dI
variable{tg elt iter:Da}{ifs:!Da}{scope:Scope}{tx:eQ}{g:qL}{ti:nK}{te:bA}
theorem nC(ts:!Str)(us:!Nat)(hi:DI X c tg iter tx)(hg:∀ C s H fp,DG (X.comp ts us scope C s H fp) c ts.length tg g)(qR:∀ C s H fp,LS (X.comp ts us scope C s H fp) c ifs ti)(he:∀ C s H fp,DE (X.comp ts us scope C s H fp) c elt te)(S:aT X ts us scope:=by exact#[U,U,U,U,U,U])(hc:(X.calm=true)⁻¹)(hs:abR iter X.env:=by intro _;rfl):DN X c (.ListComp elt [#[tg,iter,ifs,0]] scope pos) (mE ts.length us tx g ti te):=IY S hc hi hg qR he hs
end
section
variable{P:Fr}{w:Fa}{K:Frag}{mg:Str->Option AT}{base:Ev}{q:D3}{k nos:Nat}{g:Ba}{t:abM}{N:!Str}
theorem Own.d(o:Own K mg q)(S:ar N q.2.2 (ag q.2.1))(len:∀ ds R,t ds R->ds.length=q.2.2.length)(hb:∀ (f:AC) (bp:AT) (A:GE) (outer:!Env) (s:Ch) (H:Hp) (E:XK) (M:AC->Prop),bF k (A.deeper (envOfC q.1 (ag q.2.1) ↑s f bp)) ->
   ∃ tb,vW (jO aV P w K mg base N q.1 (ag q.2.1) f bp A outer s H E).wD #[g,M,H] (aq q.2.1) tb/\∀ ds R,t ds R->tb { nx:=λ_=>R .bX,rt:=R } (eV N.length nos ds))(hg:(g.kc=[])⁻¹):C4 P w K mg base aV q (k+1) (b5 K g t):=o.c λf fd F=>Zp F S len (hb f) hg
end
end DL
namespace DL
open PySem PySem.Spec L2
open PyProof.Rows hiding St
section
variable{X:Cx}{k m:Nat}{d l r:AC}{M0:AC->Prop}{H0:Hp}{q:D3}{x:Str}{p pos:Pos}
theorem CH{t:!D->D->(D->D->Prop)->Prop}{e:Da}{es:!Da}{ta:eQ}(hr:bF m X.A)(G:C4 X.prog X.w X.K X.mg X.base aV q k (GU X.K d l r t))(ha:DA X #[gR d l r,M0,H0] (e::es) ta)(hx:(q.1=x)⁻¹)(hk:k<=m:=by ac_rfl)(hg:(Gl X x)⁻¹)(fM: ~~~(abP x))(he:(abN X.env e es)⁻¹)(dI:(abO X.env pos es)⁻¹) :
  DE X #[gR d l r,M0,H0] (.Call (.Name x p) (e::es) [] pos) (wL t ta):=by
 subst hx;let(f,fd,G,F,hm,hb):=G;exact Hr (hr.mono hk) hg hm F.kp hb ha G fM he dI
end
end DL
namespace HT
open PySem PySem.Spec PyProof.Rows
open PySem.AutoSeq1
section
variable{prog:Fr}{w:Fa}{A:GE}{E:abK}{s:Ch}
end
end HT
namespace L2
open PySem PySem.Spec PyProof.Rows
section
variable{X:Cx}
end
end L2
namespace DL
open PySem PySem.Spec L2
section
variable{X:Cx}{c:Ent}
end
end DL
namespace DL
open PySem L2
def qQ(x:Str):Prop:=Nm x\/x="number"
def Fm.w:Fm->Nat
 | .nm _=>0
 | .num _=>0
 | _=>1
theorem vC:∀ {ks:!Tm} {n:Nat},(∀ t∈ks,t.dep<=n)->n8 ks<=n
 | [],n,_=>Z1 _
 | k::ks,n,h=>Nat.max_le.mpr #[h k Zx,vC λt ht=>h t (Zw _ ht)]
theorem zA:∀ {ks:!Tm} {t:Tm},t∈ks->t.dep<=n8 ks
 | k::ks,t,h=>by
  rcases ZD.mp h with rfl | h
  .exact Nat.le_max_left _ _
  .exact ZH (zA h) (Nat.le_max_right _ _)
abbrev cd(x:Str):!Nat:=x.cps.toList
abbrev cn(l:!Nat):Str:=#[l.toArray]
theorem g9{x y:Str}(h:cd x=cd y):x=y:=by
 obtain⟨a⟩:=x;obtain⟨b⟩:=y;have:a=b:=Array.toList_inj.mp h;rw[this]
theorem b6(x y:Str):cd (x++y)=cd x++cd y:=Array.toList_append
theorem gk(x:Str):cn (cd x)=x:=g9 U
theorem d4(a:!Nat):(cn a).length=a.length:=by simp[Str.length]
theorem aG(x:Str):(cd x).length=x.length:=by simp[Str.length]
def ba:!(!Nat)->!Nat
 | []=>[]
 | a::l=>a++l.flatMap (32::·)
theorem kR:∀ zs:!Str,cd (Txt.join " " zs)=ba (zs.map cd)
 | []=>rfl
 | a::l=>by
  change cd (GT.Str.glued " " (a::l))=_;rw[StrLaws.glued_eq_join]
  induction l generalizing a with
  | nil=>simp[PySem.Str.join,ba]
  | cons b l ih =>
   change cd (a++" "++PySem.Str.join " " (b::l))=_;rw[b6,b6,ih b];change cd a++[32]++(cd b++(l.map cd).flatMap (32::·))=cd a++(32::cd b++(l.map cd).flatMap (32::·));simp
def cR(i:Int):Str:=toString i
def fo:!(Str×!Str)->!(!Nat)->!Nat
 | h::hs,t::ts=>32::124::32::(ba (cd h.1::h.2.map cd)++32::58::32::t)++fo hs ts
 | _,_=>[]
def dR:Fm->!(!Nat)->!Nat
 | .nm x,_=>cd x
 | .num i,_=>cd (cR i)
 | .op s,ts=>cd s++ts.flatMap (32::·)
 | .jK,ts=>cd "zero"++ts.flatMap (32::·)
 | .lt x,ts=>cd "let "++cd x++ts.flatMap (32::·)
 | .mk c,ts=>cd "make "++cd c++ts.flatMap (32::·)
 | .ask f,ts=>cd "ask "++ts.headD []++(32::cd f)++ts.tail.flatMap (32::·)
 | .jb r hs,ts=>cd "case "++ts.headD []++cd " to "++cd r++fo hs ts.tail
 | .new k hs,ts=>cd "new "++cd k++fo hs ts
def jW(f:Fm)(l:!Nat):!Nat:=if f.w=0 then l else 40::l++[41]
mutual
noncomputable def Tm.T:Tm->!Nat
 | .node f ks=>jW f (dR f (oo ks))
noncomputable def oo:!Tm->!(!Nat)
 | []=>[]
 | t::r=>t.T::oo r
end
theorem sy:∀ ks:!Tm,oo ks=ks.map Tm.T
 | []=>rfl
 | t::r=>by rw[oo,sy r,ZG]
inductive Pc where
 | s (x:Str) | t (u:Tm)
def Dj:Pc->D
 | .s x=>.str x
 | .t u=>toD u
def qJ:Pc->!Nat
 | .s x=>cd x
 | .t u=>u.T
def bE(ks:!Tm):!Pc:=ks.flatMap λk=>[.s " ",.t k]
def mm(h:Str×!Str):Str:=" | "++Txt.join " " (h.1::h.2)++" : "
def aU:!(Str×!Str)->!Tm->!Pc
 | h::hs,k::ks=>.s (mm h)::.t k::aU hs ks
 | _,_=>[]
def pieces:Fm->!Tm->!Pc
 | .nm x,_=>[.s x]
 | .num i,_=>[.s (cR i)]
 | .op s,ks=>[.s ("("++s)]++bE ks++[.s ")"]
 | .jK,ks=>[.s "(zero"]++bE ks++[.s ")"]
 | .lt x,ks=>[.s ("(let "++x)]++bE ks++[.s ")"]
 | .mk c,ks=>[.s ("(make "++c)]++bE ks++[.s ")"]
 | .ask f,ks=>[.s "(ask ",.t (ks.headD (.node .jK [])),.s (" "++f)]++bE ks.tail++[.s ")"]
 | .jb r hs,ks=>[.s "(case ",.t (ks.headD (.node .jK [])),.s (" to "++r)]++aU hs ks.tail++[.s ")"]
 | .new k hs,ks=>[.s ("(new "++k)]++aU hs ks++[.s ")"]
theorem kZ(ks:!Tm):(bE ks).flatMap qJ=(oo ks).flatMap (32::·):=by
 induction ks with
 | nil=>rfl
 | cons k ks ih =>
  change ([Pc.s " ",.t k]++bE ks).flatMap qJ=(k.T::oo ks).flatMap (32::·);rw[Z0,ih,ZA];change [32]++(k.T++[])++_=_;simp
theorem uA(h:Str×!Str):cd (mm h)=32::124::32::(ba (cd h.1::h.2.map cd)++[32,58,32]):=by
 unfold mm;rw[b6,b6,kR];change [32,124,32]++ba (cd h.1::h.2.map cd)++[32,58,32]=_;simp
theorem xI:∀ (hs:!(Str×!Str)) (ks:!Tm),(aU hs ks).flatMap qJ=fo hs (oo ks)
 | [],_=>by simp[aU,fo]
 | h::hs,[]=>by simp[aU,fo,oo]
 | h::hs,k::ks=>by
  rw[aU,ZA,ZA,xI hs ks];change cd (mm h)++(k.T++fo hs (oo ks))=fo (h::hs) (k.T::oo ks);rw[uA,fo];simp
def yQ:Pc->Nat
 | .s _=>1
 | .t u=>4 * u.size - 1
theorem eG(u:Tm):1<=u.size:=by
 cases u with
 | node f ks=>exact aaM (Z1 _)
theorem lg(ks:!Tm):((bE ks).map yQ).sum=4 * dZ ks:=by
 induction ks with
 | nil=>rfl
 | cons k ks ih =>
  have hp:=eG k;change (([Pc.s " ",.t k]++bE ks).map yQ).sum=_;rw[ZO,abn,ih];change 1+(4 * k.size - 1+0)+_=4 * (k.size+dZ ks);cbv
theorem w6:∀ (hs:!(Str×!Str)) (ks:!Tm),((aU hs ks).map yQ).sum<=4 * dZ ks
 | [],_=>by simp[aU]
 | h::hs,[]=>by simp[aU]
 | h::hs,k::ks=>by
  have:=w6 hs ks;have hp:=eG k;change 1+(4 * k.size - 1+((aU hs ks).map yQ).sum)<=4 * (k.size+dZ ks);cbv
end DL
namespace L2
open PySem PySem.Spec PyProof.Rows
section
variable{X:Cx}
theorem A8:eE X (.type "str") (λxs H Q=>(∃ i,xs=[.int i]/\i.natAbs.log2 < 1920/\Q (.str (toString i)) H)\/∃ z,xs=[.str z]/\Q (.str z) H):=by
 intro Tl s O H xs us Q I r h;rcases h with h | ⟨z,rfl,q⟩
 .exact ux Tl s O H xs us Q I r h
 .let(u,rfl,t,rfl):=vals1 r;exact PySem.P.str_of_str #[.str z,H,I,#[_,U],q]
theorem rj:eE X (.type "int") (λxs H Q=>∃ n:Int,xs=[.str (toString n)]/\0<=n/\n < 10 ^ 10/\Q (.int n) H):=by
 intro Tl s O H xs us Q I r h;let(n,rfl,h0,h1,q):=h;let(u,rfl,t,rfl):=vals1 r;exact PySem.W.KIN.call_num h0 h1 #[.int n,H,I.tok _,#[_,U],q]
theorem Av:FO X "str.startswith" (λx vs H Q=>∃ z y,x=.str z/\vs=[.str y]/\Q (.bl (Txt.startswith z y)) H):=by
 intro Tl s O H x vs v us Q I rx rv h;let(z,y,rfl,rfl,q):=h;let(t,rfl):=rx;let(u,rfl,t',rfl):=rv.one;exact PySem.SC.startswith #[.bl _,H,I,U,q]
theorem xB:FO X "str.rstrip" (λx vs H Q=>∃ z y,x=.str z/\vs=[.str y]/\z.length<=FB/\Q (.str (Txt.rstripChars z y)) H):=by
 intro Tl s O H x vs v us Q I rx rv h;let(z,y,rfl,rfl,hz,q):=h;let(t,rfl):=rx;let(u,rfl,t',rfl):=rv.one;exact PySem.call_gives PySem.F.slot_str_rstrip (typeIs_str _ _ _) PySem.F.entry_str_rstrip (PySem.F.args_str_rstrip_2 _ _) (gives_str_rstrip_chars z y t.1 t'.1) (gA I.tk (λt' k hk=>#[.str _,H,I.tok k hk,#[t',U],q]) (MT.ite t.2 trivial) (post_val_or_made (λ_=>fits_stripped _ _ _ hz) λt' k=>#[t',U]))
end
end L2
namespace DL
open PySem PySem.Spec L2
section
variable{X:Cx}{c:Ent}
def MU:abM:=λas k=>(∃ i,as=[.int i]/\i.natAbs.log2 < 1920/\k (.str (toString i)))\/∃ z,as=[.str z]/\k (.str z)
theorem Ku:BP X c (λxs H Q=>(∃ i,xs=[.int i]/\i.natAbs.log2 < 1920/\Q (.str (toString i)) H)\/∃ z,xs=[.str z]/\Q (.str z) H) MU:=λM s as O H xs ds k Q L r h kk=>by
 rcases h with ⟨i,rfl,hz,hk⟩ | ⟨i,rfl,hk⟩
 .let(v,rfl,e1):=cG r;have e1:v=.int i:=e1;subst e1;exact .inl #[i,U,hz,kk _ hk M H _ L .refl U]
 .let(v,rfl,e1):=cG r;have e1:v=.str i:=e1;subst e1;exact .inr #[i,U,kk _ hk M H _ L .refl U]
def Qs:abM:=λas k=>∃ n:Int,as=[.str (toString n)]/\0<=n/\n < 10 ^ 10/\k (.int n)
theorem Cg:BP X c (λxs H Q=>∃ n:Int,xs=[.str (toString n)]/\0<=n/\n < 10 ^ 10/\Q (.int n) H) Qs:=λM s as O H xs ds k Q L r h kk=>by
 let(i,rfl,h0,h1,hk):=h;let(v,rfl,e1):=cG r;have e1:v=.str (toString i):=e1;subst e1;exact#[i,U,h0,h1,kk _ hk M H _ L .refl U]
end
theorem Ks{i:Int}(h0:0<=i)(h1:i < 1000000):i.natAbs.log2 < 1920:=by
 have h:i.natAbs < 2 ^ 20:=by cbv
 by_cases z:i.natAbs=0
 .rw[z];decide
 .have:=(Nat.log2_lt z).mpr h;cbv
end DL
namespace DL
open PySem L2
theorem Cs:∀ zs:!Str,cd (Txt.join "" zs)=zs.flatMap cd
 | []=>rfl
 | a::l=>by
  change cd (GT.Str.glued "" (a::l))=_;rw[StrLaws.glued_eq_join]
  induction l generalizing a with
  | nil=>simp[PySem.Str.join]
  | cons b l ih =>
   change cd (a++""++PySem.Str.join "" (b::l))=_;rw[b6,b6,ih b];change cd a++[]++_=cd a++_;rw[ZM]
   rfl
theorem IW(u:Tm):sV (toD u) "str"=some false:=by
 cases u with
 | node f ks =>
  change sV (Bs f (toDs ks)) "str"=_;cases f<;>rfl
theorem va(ts:!(!Nat)):(ts.flatMap (32::·)).length=ts.length+(ts.map List.length).sum:=by
 induction ts with
 | nil=>rfl
 | cons a l ih =>
  rw[ZA,ZE,ih];simp only[List.length_cons,List.map_cons,List.sum_cons];cbv
def cV:Fm->Str
 | .op s=>s
 | .jK=>"zero"
 | .lt _=>"let"
 | .mk _=>"make"
 | .ask _=>"ask"
 | .jb _ _=>"case"
 | .new _ _=>"new"
 | .nm x=>x
 | .num i=>cR i
theorem HP(a b:Nat):(([a]:!Nat) < [b])↔a < b:=by
 constructor
 .intro h;cases h with
  | rel h=>exact h
  | cons h=>cases h
 .intro h;exact .rel h
theorem yL{X:Cx}{j p pos}:PE X (.UnaryOp .USub (.Constant (.int 2) j p) pos) (tC (.int (-2))):=λTl s O H Q I h=>Iq Eu bg Tl s O H Q I #[2,U,h]
theorem Lp{x y:D}{l:!D}:kW (x::y::l) 1=some y:=gu (j:=1) U
set_option genInjectivity true in inductive El where
 | w (x:Str) | k (t:Tm)
def El.T:El->!Nat
 | .w x=>cd x
 | .k t=>t.T
def b4:!(Str×!Str)->!Tm->!El
 | h::hs,k::ks=>.w "|"::.w h.1::(h.2.map .w++.w ":"::.k k::b4 hs ks)
 | _,_=>[]
def cf:Fm->!Tm->!El
 | .lt x,ks=>.w x::ks.map .k
 | .mk c,ks=>.w c::ks.map .k
 | .ask f,ks=>.k (ks.headD (.node .jK []))::.w f::ks.tail.map .k
 | .jb r hs,ks=>.k (ks.headD (.node .jK []))::.w "to"::.w r::b4 hs ks.tail
 | .new k hs,ks=>.w k::b4 hs ks
 | _,ks=>ks.map .k
theorem lA:∀ (hs:!(Str×!Str)) (ks:!Tm),((b4 hs ks).flatMap λe=>32::e.T)=fo hs (oo ks)
 | [],_=>by simp[b4,fo]
 | _::_,[]=>by simp[b4,fo,oo]
 | h::hs,k::ks=>by
  rw[b4,oo,fo,ZA,ZA,Z0,ZA,ZA,lA hs ks,ba];have e:((h.2.map El.w).flatMap λe=>32::e.T)=(h.2.map cd).flatMap (32::·):=by
   rw[aaG,aaG]
   rfl
  rw[e];change (32::[124])++((32::cd h.1)++((h.2.map cd).flatMap (32::·)++((32::[58])++((32::k.T)++fo hs (oo ks)))))=_;simp only[List.cons_append,List.nil_append,List.append_assoc]
def dm(n:Nat):!(!Nat)->!(!Nat)
 | []=>[]
 | [x]=>[x++List.replicate n 41]
 | x::y::l=>x::dm n (y::l)
theorem oK(n:Nat):∀ {l:!(!Nat)},l≠[]->dm n l≠[]
 | [x],_=>by simp[dm]
 | x::y::l,_=>by simp[dm]
theorem qE(n:Nat):∀ (a:!(!Nat)) {b:!(!Nat)},b≠[]->dm n (a++b)=a++dm n b
 | [],b,_=>rfl
 | [x],b,h=>by
  cases b with
  | nil=>exact absurd U h
  | cons y b=>rfl
 | x::y::a,b,h=>by
  have:=qE n (y::a) h;change x::dm n ((y::a)++b)=x::((y::a)++dm n b);rw[this]
theorem rO(m n:Nat):∀ l:!(!Nat),dm n (dm m l)=dm (m+n) l
 | []=>rfl
 | [x]=>by simp[dm,List.replicate_append_replicate]
 | x::y::l=>by
  have:=rO m n (y::l);cases e:dm m (y::l) with
  | nil=>exact absurd e (oK m (by simp))
  | cons z r =>
   change dm n (x::dm m (y::l))=x::dm (m+n) (y::l);rw[<- this,e]
   rfl
theorem mU:∀ l:!(!Nat),dm 0 l=l
 | []=>rfl
 | [x]=>by simp[dm]
 | x::y::l=>by
  change x::dm 0 (y::l)=_;rw[mU (y::l)]
theorem dE{l:!(!Nat)}(h:l≠[]):l.flatMap (32::·)=32::ba l:=by
 cases l with
 | nil=>exact absurd U h
 | cons x l=>rfl
theorem rl(n:Nat):∀ {l:!(!Nat)},l≠[]->ba (dm n l)=ba l++List.replicate n 41
 | [x],_=>by simp[dm,ba]
 | x::y::l,_=>by
  have h:=rl n (l:=y::l) (by simp);change x++(dm n (y::l)).flatMap (32::·)=x++(y::l).flatMap (32::·)++_;rw[dE (oK n (by simp)),h,dE (by simp)];simp
mutual
noncomputable def Tm.ws:Tm->!(!Nat)
 | .node f ks=>if f.w=0 then [dR f []] else dm 1 ((40::cd (cV f))::Cq f ks)
noncomputable def Cq:Fm->!Tm->!(!Nat)
 | .lt x,ks=>cd x::Ik ks
 | .mk c,ks=>cd c::Ik ks
 | .ask f,[]=>[cd f]
 | .ask f,t::ks=>t.ws++cd f::Ik ks
 | .jb r hs,[]=>[cd r]
 | .jb r hs,t::ks=>t.ws++cd "to"::cd r::Lu hs ks
 | .new k hs,ks=>cd k::Lu hs ks
 | _,ks=>Ik ks
noncomputable def Ik:!Tm->!(!Nat)
 | []=>[]
 | t::ks=>t.ws++Ik ks
noncomputable def Lu:!(Str×!Str)->!Tm->!(!Nat)
 | h::hs,k::ks=>cd "|"::cd h.1::(h.2.map cd++cd ":"::(k.ws++Lu hs ks))
 | _,_=>[]
end
def El.ws:El->!(!Nat)
 | .w x=>[cd x]
 | .k t=>t.ws
theorem jg:∀ ks:!Tm,Ik ks=(ks.map El.k).flatMap El.ws
 | []=>by simp[Ik]
 | t::ks=>by rw[Ik,jg ks];rfl
theorem yj:∀ (hs:!(Str×!Str)) (ks:!Tm),Lu hs ks=(b4 hs ks).flatMap El.ws
 | [],_=>by simp[Lu,b4]
 | _::_,[]=>by simp[Lu,b4]
 | h::hs,k::ks=>by
  rw[Lu,b4,yj hs ks,ZA,ZA,Z0,ZA,ZA];have e:(h.2.map El.w).flatMap El.ws=h.2.map cd:=by
   induction h.2 with
   | nil=>rfl
   | cons a l ih=>rw[ZG,ZA,ih];rfl
  rw[e]
  rfl
def n9(c:!Nat):Prop:=c≠[]/\∀ n∈c,n≠32/\n≠40/\n≠41
noncomputable instance (c:!Nat):Decidable (n9 c):=by unfold n9;infer_instance
theorem f7{x:Str}(h:Nm x):n9 (cd x):=by
 show#[λz=>?_,λn hn=>?_]
 .have:=aG x;rw[z] at this;have:=h.2.1;simp at *;cbv
 .have:=h.1 n hn;cbv
theorem zB{x:Str}(h:qQ x):n9 (cd x):=by
 rcases h with h | rfl
 .exact f7 h
 .decide
theorem eL{i:Int}(h0:0<=i):n9 (cd (cR i)):=by
 let(n,rfl):=aaC h0;have e:cd (cR (n:Int))=(Nat.toDigits 10 n).map Char.toNat:=abF n;show#[λz=>?_,λc hc=>?_]
 .rw[e] at z;exact Nat.toDigits_ne_nil (abj.mp z)
 .rw[e] at hc;let(ch,hm,rfl):=Z5.mp hc;have:=aaV () () hm;unfold Char.isDigit at this;simp only[Bool.and_eq_true,decide_eq_true_eq] at this;have h2:48<=ch.toNat:=this.1;cbv
def Bh(ks:!Tm):El->Prop
 | .w x=>n9 (cd x)
 | .k t=>t∈ks
def L8(e:El):Prop:=e.ws≠[]/\ba e.ws=e.T/\∀ x∈e.ws,32∉x
theorem v9{n:Nat}:∀ {l:!(!Nat)},(∀ x∈l,32∉x)->∀ x∈dm n l,32∉x
 | [],_,x,hx=>(nomatch hx)
 | [y],h,x,hx=>by
  rw[dm,ZI] at hx;rw[hx];intro z;rcases ZR.mp z with z | z
  .exact h y Zx z
  .exact absurd (abt z) ()
 | y::z::l,h,x,hx=>by
  rw[dm] at hx;rcases ZD.mp hx with rfl | hx
  .exact h x Zx
  .exact v9 (λx hx=>h x (Zw _ hx)) x hx
theorem Yp{es:!El}(h:∀ e∈es,L8 e):((es.flatMap El.ws).flatMap (32::·)=es.flatMap λe=>32::e.T)/\∀ x∈es.flatMap El.ws,32∉x:=by
 induction es with
 | nil=>exact#[U,λx hx=>(nomatch hx)]
 | cons e es ih =>
  let(h1,h2):=ih λx hx=>h x (Zw _ hx);let(g1,g2,g3):=h e Zx;show#[?_,λx hx=>?_]
  .rw[ZA,Z0,h1,dE g1,g2,ZA]
  .rw[ZA] at hx;exact (ZR.mp hx).elim (g3 x) (h2 x)
theorem Ab(n:Nat):cd (cR (n:Int))=(Nat.toDigits 10 n).map Char.toNat:=abF n
theorem D6{i j:Int}(hi:0<=i)(hj:0<=j)(h:cR i=cR j):i=j:=by
 let(n,rfl):=aaC hi;let(m,rfl):=aaC hj;have h:=congrArg cd h;rw[Ab,Ab] at h;have h2:Nat.toDigits 10 n=Nat.toDigits 10 m:=(List.map_inj_right (f:=Char.toNat) (λa b e=>Char.ext (UInt32.toNat_inj.mp e))).mp h;have:=congrArg (λl=>Nat.ofDigitChars 10 l 0) h2;simp only[Nat.ofDigitChars_toDigits (b:=10) () ()] at this;rw[this]
def FH(hs:!(Str×!Str)):Prop:=∀ h∈hs,Nm h.1/\∀ n∈h.2,Nm n
def wC:Fm->Nat->Prop
 | .nm x,n=>Nm x/\n=0
 | .num i,n=>(0<=i/\i < 1000000)/\n=0
 | .op s,n=>(s="+"\/s="-"\/s="*")/\n=2
 | .jK,n=>n=3
 | .lt x,n=>Nm x/\n=2
 | .mk c,_=>Nm c
 | .ask f,n=>Nm f/\1<=n
 | .jb r hs,n=>qQ r/\FH hs/\n=hs.length+1
 | .new k hs,n=>qQ k/\FH hs/\n=hs.length
mutual
noncomputable def Tm.gg:Tm->Prop
 | .node f ks=>wC f ks.length/\qK ks
noncomputable def qK:!Tm->Prop
 | []=>True
 | t::r=>t.gg/\qK r
end
theorem uy{f:Fm}{ks:!Tm}(h:wC f ks.length)(hw:f.w=1):dR f (oo ks)=cd (cV f)++(cf f ks).flatMap λe=>32::e.T:=by
 have hm:∀ ks:!Tm,((ks.map El.k).flatMap λe=>32::e.T)=(oo ks).flatMap (32::·):=λks=>by
  rw[sy,aaG,aaG]
  rfl
 have c1:∀ (a b:!Nat) (x:Str) (l:!Nat),a=b++[32]->a++cd x++l=b++((32::cd x)++l):=λa b x l e=>by
  rw[e];simp only[List.cons_append,List.nil_append,List.append_assoc]
 cases f with
 | nm x=>cases hw
 | num x=>cases hw
 | op s=>exact congrArg (cd s++·) (hm ks).symm
 | jK=>exact congrArg (cd "zero"++·) (hm ks).symm
 | lt x =>
  rw[cf,ZA,hm];exact c1 _ (cd "let") x _ U
 | mk x =>
  rw[cf,ZA,hm];exact c1 _ (cd "make") x _ U
 | ask x =>
  cases ks with
  | nil=>exact absurd h.2 ()
  | cons a r =>
   rw[cf,ZA,ZA,aam,aac,hm];change cd "ask "++a.T++(32::cd x)++_=cd "ask"++((32::a.T)++((32::cd x)++_));rw[show cd "ask "=cd "ask"++[32] from U];simp only[List.cons_append,List.nil_append,List.append_assoc]
   rfl
 | jb r hs =>
  cases ks with
  | nil=>exact absurd h.2.2 (by simp)
  | cons a js =>
   rw[cf,ZA,ZA,ZA,aam,aac,lA];change cd "case "++a.T++cd " to "++cd r++fo hs (oo js)=cd "case"++((32::a.T)++((32::cd "to")++((32::cd r)++fo hs (oo js))));rw[show cd "case "=cd "case"++[32] from U,show cd " to "=32::cd "to"++[32] from U];simp only[List.cons_append,List.nil_append,List.append_assoc]
 | new k hs =>
  rw[cf,ZA,lA];exact c1 _ (cd "new") k _ U
section
open Classical
noncomputable def ir (x:Str):Option Int:=if h:∃ i:Int,(0<=i/\i < 1000000)/\x=cR i then some h.choose else none
theorem gL{x:Str}{i:Int}(h:ir x=some i):(0<=i/\i < 1000000)/\x=cR i:=by
 unfold ir at h;split at h
 .rename_i q
  cases h;exact q.choose_spec
 .cases h
theorem kC{i:Int}(h:0<=i/\i < 1000000):ir (cR i)=some i:=by
 unfold ir;have q:∃ j:Int,(0<=j/\j < 1000000)/\cR i=cR j:=#[i,h,U];rw[dif_pos q,D6 q.choose_spec.1.1 h.1 q.choose_spec.2.symm]
noncomputable def bo:El->Option Tm
 | .k t=>some t
 | .w x=>match ir x with
  | some i=>some (.node (.num i) [])
  | none=>if Nm x then some (.node (.nm x) []) else none
noncomputable def eR:El->Option Str
 | .w x=>if Nm x then some x else none
 | .k _=>none
noncomputable def lB:El->Option Str
 | .w x=>if qQ x then some x else none
 | .k _=>none
def allI{α β:Type}(f:α->Option β):!α->Option (!β)
 | []=>some []
 | e::es=>match f e,allI f es with
  | some a,some as=>some (a::as)
  | _,_=>none
def lj:El->Bool
 | .w x=>decide (x="|")
 | .k _=>false
def aR:!El->!El×!(!El)
 | []=>([],[])
 | e::es=>if lj e=true then ([],(aR es).1::(aR es).2) else (e::(aR es).1,(aR es).2)
noncomputable def ic (g:!El):Option ((Str×!Str)×Tm):=match g.reverse with
 | e::.w c::r=>if c=":" then (match allI eR r.reverse,bo e with
  | some (n::ns),some t=>some ((n,ns),t)
  | _,_=>none) else none
 | _=>none
noncomputable def gF (x:Str) (es:!El):Option Tm :=
 if x="+"\/x="-"\/x="*" then (if es.length=2 then (allI bo es).map (.node (.op x) ·) else none)
 else if x="zero" then (if es.length=3 then (allI bo es).map (.node .jK ·) else none)
 else if x="let" then (match es with
  | [a,b,c]=>match eR a,allI bo [b,c] with
   | some n,some ks=>some (.node (.lt n) ks)
   | _,_=>none
  | _=>none)
 else if x="make" then (match es with
  | a::r=>match eR a,allI bo r with
   | some n,some ks=>some (.node (.mk n) ks)
   | _,_=>none
  | _=>none)
 else if x="ask" then (match es with
  | a::b::r=>match bo a,eR b,allI bo r with
   | some t,some n,some ks=>some (.node (.ask n) (t::ks))
   | _,_,_=>none
  | _=>none)
 else if x="case" then (match (aR es).1,allI ic (aR es).2 with
  | [a,.w c,k],some rs=>if c="to" then (match bo a,lB k with
   | some t,some n=>some (.node (.jb n (rs.map (·.1))) (t::rs.map (·.2)))
   | _,_=>none) else none
  | _,_=>none)
 else if x="new" then (match (aR es).1,allI ic (aR es).2 with
  | [k],some rs=>(match lB k with
   | some n=>some (.node (.new n (rs.map (·.1))) (rs.map (·.2)))
   | none=>none)
  | _,_=>none)
 else none
def Bk:El->Prop
 | .w _=>True
 | .k t=>t.gg
abbrev jr(es:!El):!Nat:=es.flatMap λe=>32::e.T
theorem jJ(a b:!El):jr (a++b)=jr a++jr b:=Z0
theorem k7{e:El}{t:Tm}(h:bo e=some t)(g:Bk e):t.gg/\t.T=e.T:=by
 cases e with
 | k u =>
  cases h;exact#[g,U]
 | w x =>
  cases hq:ir x with
  | some i =>
   simp only[bo,hq] at h;cases h;let(h1,h2):=gL hq;exact#[#[#[h1,U],trivial],by rw[h2];rfl]
  | none =>
   simp only[bo,hq] at h;by_cases q:Nm x
   .rw[if_pos q] at h;cases h;exact#[#[#[q,U],trivial],U]
   .rw[if_neg q] at h;cases h
theorem oN{e:El}{x:Str}(h:eR e=some x):Nm x/\e=.w x:=by
 cases e with
 | k u=>cases h
 | w y =>
  replace h:(if Nm y then some y else none)=some x:=h
  by_cases q:Nm y
  .rw[if_pos q] at h;cases h;exact#[q,U]
  .rw[if_neg q] at h;cases h
theorem yE{e:El}{x:Str}(h:lB e=some x):qQ x/\e=.w x:=by
 cases e with
 | k u=>cases h
 | w y =>
  replace h:(if qQ y then some y else none)=some x:=h
  by_cases q:qQ y
  .rw[if_pos q] at h;cases h;exact#[q,U]
  .rw[if_neg q] at h;cases h
theorem jm{α β:Type}{f:α->Option β}{e:α}{es:!α}{bs:!β}(h:allI f (e::es)=some bs):∃ a as,f e=some a/\allI f es=some as/\bs=a::as:=by
 unfold allI at h;split at h
 .rename_i a as h1 h2
  cases h;exact#[a,as,h1,h2,U]
 .cases h
theorem dX{α β:Type}{f:α->Option β}:∀ {es:!α} {bs:!β},allI f es=some bs->bs.length=es.length
 | [],bs,h=>by cases h;rfl
 | e::es,bs,h=>by
  let(a,as,_,h2,rfl):=jm h;rw[ZJ,ZJ,dX h2]
theorem gZ:∀ {es:!El} {ks:!Tm},allI bo es=some ks->(∀ e∈es,Bk e)->qK ks/\(oo ks).flatMap (32::·)=jr es
 | [],ks,h,_=>by cases h;exact#[trivial,U]
 | e::es,ks,h,g=>by
  let(t,ts,h1,h2,rfl):=jm h;let(g1,g2):=k7 h1 (g e Zx);let(g3,g4):=gZ h2 λx hx=>g x (Zw _ hx);show#[#[g1,g3],?_];change (32::t.T)++(oo ts).flatMap (32::·)=_;rw[g2,g4]
  rfl
theorem wq:∀ {es:!El} {ns:!Str},allI eR es=some ns->(∀ n∈ns,Nm n)/\es=ns.map .w
 | [],ns,h=>by cases h;exact#[λ_ h=>(nomatch h),U]
 | e::es,ns,h=>by
  let(t,ts,h1,h2,rfl):=jm h;let(g1,rfl):=oN h1;let(g3,rfl):=wq h2;exact#[λn hn=>(ZD.mp hn).elim (λe=>e▸g1) (g3 n),U]
theorem uq:∀ es:!El,es=(aR es).1++(aR es).2.flatMap (.w "|"::·)
 | []=>rfl
 | e::es=>by
  have ih:=uq es;unfold aR;cases e with
  | k t=>exact congrArg (_::·) ih
  | w x =>
   by_cases hx:x="|"
   .subst hx;change _=[]++((.w "|"::(aR es).1)++(aR es).2.flatMap (.w "|"::·));rw[aaJ,aad,<- ih]
   .rw[if_neg (by change ¬ decide (x="|")=true;simpa using hx)];exact congrArg (_::·) ih
theorem Jr{g:!El}{r:(Str×!Str)×Tm}(h:ic g=some r)(hg:∀ e∈g,Bk e):(Nm r.1.1/\∀ n∈r.1.2,Nm n)/\r.2.gg/\jr (.w "|"::g)=32::124::32::(ba (cd r.1.1::r.1.2.map cd)++32::58::32::r.2.T):=by
 unfold ic at h;split at h
 .rename_i e c q er
  split at h
  .rename_i hc
   subst hc;split at h
   .rename_i n ns t h1 h2
    cases h;have eg:g=(q.reverse++[.w ":"])++[e]:=by
     have:=congrArg List.reverse er;simpa using this
    let(a1,a2):=k7 h2 (hg e (by rw[eg];simp));let(b1,b2):=wq h1;show#[#[b1 n Zx,λm hm=>b1 m (Zw _ hm)],a1,?_];rw[eg,b2];change (32::[124])++jr ((((n::ns).map El.w)++[.w ":"])++[e])=_;rw[jJ,jJ,ZG];have e3:(List.flatMap (λe:El=>32::e.T) (ns.map El.w))=(ns.map cd).flatMap (32::·):=by
     rw[aaG,aaG]
     rfl
    change (32::[124])++((32::cd n++List.flatMap (λe:El=>32::e.T) (ns.map El.w))++(32::[58]++[])++(32::e.T++[]))=_;rw[e3];change (32::[124])++((32::cd n++(ns.map cd).flatMap (32::·))++(32::[58]++[])++(32::e.T++[]))=32::124::32::((cd n++(ns.map cd).flatMap (32::·))++32::58::32::t.T);rw[a2];simp only[List.cons_append,List.nil_append,List.append_assoc,List.append_nil]
   .cases h
  .cases h
 .cases h
theorem su:∀ {gs:!(!El)} {rs:!((Str×!Str)×Tm)},allI ic gs=some rs->(∀ g∈gs,∀ e∈g,Bk e)->FH (rs.map (·.1))/\qK (rs.map (·.2))/\jr (gs.flatMap (.w "|"::·))=fo (rs.map (·.1)) (oo (rs.map (·.2)))
 | [],rs,h,_=>by cases h;exact#[λ_ h=>(nomatch h),trivial,U]
 | g::gs,rs,h,hg=>by
  let(r,qs,h1,h2,rfl):=jm h;let(a1,a2,a3):=Jr h1 (hg g Zx);let(b1,b2,b3):=su h2 λx hx=>hg x (Zw _ hx);show#[λx hx=>?_,#[a2,b2],?_]
  .rcases ZD.mp hx with rfl | hx
   .exact a1
   .exact b1 x hx
  .rw[ZA,jJ,b3,a3]
   rfl
theorem NA{x:Str}{es:!El}{t:Tm}(h:gF x es=some t)(hg:∀ e∈es,Bk e):t.gg/\t.T=40::(cd x++jr es)++[41]:=by
 have key:∀ (f:Fm) (ks:!Tm),f.w=1->wC f ks.length->qK ks->cd (cV f)++((cf f ks).flatMap λe=>32::e.T)=cd x++jr es->(Tm.node f ks).gg/\(Tm.node f ks).T=40::(cd x++jr es)++[41]:=λf ks hw h1 h2 h3=>by
  show#[#[h1,h2],?_];rw[Tm.T,jW,if_neg (by rw[hw];decide),uy h1 hw,h3]
 have mid:∀ ks:!Tm,((ks.map El.k).flatMap λe=>32::e.T)=(oo ks).flatMap (32::·):=λks=>by
  rw[sy,aaG,aaG]
  rfl
 unfold gF at h;split at h
 .rename_i hx
  split at h
  .rename_i hl
   let(ks,h1,rfl):=ZN.mp h;let(g1,g2):=gZ h1 hg;show key (.op x) ks U #[hx,by rw[dX h1];exact hl] g1 ?_;change cd x++((ks.map El.k).flatMap λe=>32::e.T)=_;rw[mid,g2]
  .cases h
 split at h
 .rename_i hx
  subst hx;split at h
  .rename_i hl
   let(ks,h1,rfl):=ZN.mp h;let(g1,g2):=gZ h1 hg;show key .jK ks U (show ks.length=3 by rw[dX h1];exact hl) g1 ?_;change cd "zero"++((ks.map El.k).flatMap λe=>32::e.T)=_;rw[mid,g2]
  .cases h
 split at h
 .rename_i hx
  subst hx;split at h
  .rename_i a b c
   split at h
   .rename_i n ks h1 h2
    cases h;let(n1,rfl):=oN h1;let(g1,g2):=gZ h2 λe he=>hg e (Zw _ he);show key (.lt n) ks U #[n1,by rw[dX h2];rfl] g1 ?_;change cd "let"++((32::cd n)++((ks.map El.k).flatMap λe=>32::e.T))=cd "let"++((32::cd n)++jr [b,c]);rw[mid,g2]
   .cases h
  .cases h
 split at h
 .rename_i hx
  subst hx;split at h
  .rename_i a r
   split at h
   .rename_i n ks h1 h2
    cases h;let(n1,rfl):=oN h1;let(g1,g2):=gZ h2 λe he=>hg e (Zw _ he);show key (.mk n) ks U n1 g1 ?_;change cd "make"++((32::cd n)++((ks.map El.k).flatMap λe=>32::e.T))=cd "make"++((32::cd n)++jr r);rw[mid,g2]
   .cases h
  .cases h
 split at h
 .rename_i hx
  subst hx;split at h
  .rename_i a b r
   split at h
   .rename_i t n ks h0 h1 h2
    cases h;let(a1,a2):=k7 h0 (hg a Zx);let(n1,rfl):=oN h1;let(g1,g2):=gZ h2 λe he=>hg e (Zw _ (Zw _ he));show key (.ask n) (t::ks) U #[n1,by simp] #[a1,g1] ?_;change cd "ask"++((32::t.T)++((32::cd n)++((ks.map El.k).flatMap λe=>32::e.T)))=cd "ask"++((32::a.T)++((32::cd n)++jr r));rw[mid,g2,a2]
   .cases h
  .cases h
 split at h
 .rename_i hx
  subst hx;have hpe:=uq es;split at h
  .rename_i a c k rs e1 h2
   split at h
   .rename_i hc
    subst hc;split at h
    .rename_i t n h3 h4
     cases h;rw[e1] at hpe;let(a1,a2):=k7 h3 (hg a (by rw[hpe];simp));let(n1,rfl):=yE h4;let(b1,b2,b3):=su h2 λg Oz e he=>hg e (by
      rw[hpe];exact ZQ _ (aaQ.mpr #[g,Oz,Zw _ he]))
     show key (.jb n _) _ U #[n1,b1,by simp] #[a1,b2] ?_;have e4:jr es=(32::a.T)++((32::cd "to")++((32::cd n)++jr ((aR es).2.flatMap (.w "|"::·)))):=by
      conv=>lhs;rw[hpe]
      rfl
     rw[e4,b3,<- lA,<- a2]
     rfl
    .cases h
   .cases h
  .cases h
 split at h
 .rename_i hx
  subst hx;have hpe:=uq es;split at h
  .rename_i k rs e1 h2
   split at h
   .rename_i n h4
    cases h;rw[e1] at hpe;let(n1,rfl):=yE h4;let(b1,b2,b3):=su h2 λg Oz e he=>hg e (by
     rw[hpe];exact ZQ _ (aaQ.mpr #[g,Oz,Zw _ he]))
    show key (.new n _) _ U #[n1,b1,by simp] b2 ?_;have e4:jr es=(32::cd n)++jr ((aR es).2.flatMap (.w "|"::·)):=by
     conv=>lhs;rw[hpe]
     rfl
    rw[e4,b3,<- lA]
    rfl
   .cases h
  .cases h
 .cases h
end
noncomputable def bS:Nat->!(!El)->Option (!(!El))
 | 0,fs=>some fs
 | n+1,(.w x::es)::prev::rest=>match gF x es with
  | some t=>bS n ((prev++[.k t])::rest)
  | none=>none
 | _+1,_=>none
def bY(w:!Nat):!Nat:=(w.reverse.dropWhile (·== 41)).reverse
theorem oB(w:!Nat):w=bY w++List.replicate (w.length - (bY w).length) 41:=by
 unfold bY;have h:=List.takeWhile_append_dropWhile (p:=(·== 41)) (l:=w.reverse);have hr:w=(w.reverse.dropWhile (·== 41)).reverse++(w.reverse.takeWhile (·== 41)).reverse:=by
  have:=congrArg List.reverse h;rw[List.reverse_append,abe] at this;exact this.symm
 have hl:w.length - ((w.reverse.dropWhile (·== 41)).reverse).length=(w.reverse.takeWhile (·== 41)).length:=by
  have:=congrArg List.length hr;rw[ZE,aaE,aaE] at this;rw[aaE];cbv
 rw[hl];have ht:(w.reverse.takeWhile (·== 41)).reverse=List.replicate (w.reverse.takeWhile (·== 41)).length 41:=by
  rw[List.eq_replicate_iff];show#[aaE ..,λb hb=>?_];have:=ZW.mp (List.all_takeWhile (p:=(·== 41)) (l:=w.reverse)) b (abB.mp hb);simpa using this
 rw[<- ht];exact hr
noncomputable def stepI (w:!Nat) (fs:!(!El)):Option (!(!El)) :=
 if w.head?=some 40 then some ([.w (cn w.tail)]::fs) else match fs with
  | f::r=>bS (w.length - (bY w).length) ((f++[.w (cn (bY w))])::r)
  | []=>none
noncomputable def dQ:!(!Nat)->!(!El)->Option (!(!El))
 | [],fs=>some fs
 | w::ws,fs=>match stepI w fs with
  | some jN=>dQ ws jN
  | none=>none
def FL:!(!El)->!Nat
 | []=>[]
 | [f]=>jr f
 | f::r=>FL r++(match f with
  | e::es=>32::40::(e.T++jr es)
  | []=>[])
def uG:!(!El)->Prop
 | []=>False
 | [f]=>∀ e∈f,Bk e
 | f::r=>((∃ x es,f=.w x::es)/\∀ e∈f,Bk e)/\uG r
theorem uG.all{f:!El}:∀ {r:!(!El)},uG (f::r)->∀ e∈f,Bk e
 | [],h=>h
 | _::_,h=>h.1.2
theorem y9{f:!El}{e:El}:∀ {r:!(!El)},uG (f::r)->FL ((f++[e])::r)=FL (f::r)++32::e.T
 | [],_=>by
  change jr (f++[e])=jr f++_;rw[jJ];change jr f++(32::e.T++[])=_;rw[ZM]
 | g::r,h=>by
  let((x,es,rfl),_):=h.1;change FL (g::r)++(32::40::(cd x++jr (es++[e])))=FL (g::r)++(32::40::(cd x++jr es))++32::e.T;rw[jJ,Z4];change _++(32::40::(cd x++(jr es++(32::e.T++[]))))=_;simp only[List.cons_append,List.nil_append,List.append_assoc,List.append_nil]
theorem uG.push{f:!El}{e:El}(he:Bk e):∀ {r:!(!El)},uG (f::r)->uG ((f++[e])::r)
 | [],h=>λx hx=>(ZR.mp hx).elim (h x) λz=>ZI.mp z▸he
 | g::r,h=>by
  let(((x,es,rfl),h2),h3):=h;exact#[#[#[x,es++[e],U],λy hy=>(ZR.mp hy).elim (h2 y) λz=>ZI.mp z▸he],h3]
theorem zc:∀ {n:Nat} {fs jN:!(!El)},bS n fs=some jN->uG fs->uG jN/\FL jN=FL fs++List.replicate n 41
 | 0,fs,jN,h,hg=>by
  cases h;exact#[hg,(ZM _).symm]
 | n+1,[],jN,h,hg=>hg.elim
 | n+1,[f],jN,h,hg=>by
  unfold bS at h;cases f with
  | nil=>cases h
  | cons e es=>cases e<;>cases h
 | n+1,f::prev::rest,jN,h,hg=>by
  let(((x,es,rfl),h2),h3):=hg;rw[bS] at h;split at h
  .rename_i t ht
   let(g1,g2):=NA ht λe he=>h2 e (Zw _ he);let(a1,a2):=zc h (uG.push (e:=.k t) g1 h3);show#[a1,?_];rw[a2,y9 h3];change FL (prev::rest)++32::t.T++List.replicate n 41=FL (prev::rest)++(32::40::(cd x++jr es))++List.replicate (n+1) 41;rw[g2,List.replicate_succ];simp only[List.cons_append,List.nil_append,List.append_assoc]
  .cases h
theorem Lm{w:!Nat}{fs jN:!(!El)}(h:stepI w fs=some jN)(hg:uG fs):uG jN/\FL jN=FL fs++32::w:=by
 unfold stepI at h;split at h
 .rename_i hw
  cases h;cases w with
  | nil=>cases hw
  | cons c w =>
   have hc:c=40:=by simpa using hw
   subst hc;cases fs with
   | nil=>exact hg.elim
   | cons f r =>
    show#[#[#[#[_,_,U],λe he=>?_],hg],?_]
    .rw[ZI.mp he];trivial
    .show FL (f::r)++(32::40::(cd (cn w)++[]))=_;rw[ZM]
 .split at h
  .rename_i f r
   let(a1,a2):=zc h (uG.push (e:=.w _) trivial hg);show#[a1,?_];rw[a2,y9 hg];change FL (f::r)++32::bY w++_=_
   conv=>rhs;rw[oB w]
   simp only[List.cons_append,List.append_assoc]
  .cases h
theorem Ci:∀ {ws:!(!Nat)} {fs jN:!(!El)},dQ ws fs=some jN->uG fs->uG jN/\FL jN=FL fs++ws.flatMap (32::·)
 | [],fs,jN,h,hg=>by
  cases h;exact#[hg,(ZM _).symm]
 | w::ws,fs,jN,h,hg=>by
  rw[dQ] at h;split at h
  .rename_i fs1 h1
   let(a1,a2):=Lm h1 hg;let(b1,b2):=Ci h a1;show#[b1,?_];rw[b2,a2,ZA,Z4]
  .cases h
noncomputable def Az (ws:!(!Nat)):Option Tm:=match dQ ws [[]] with
 | some [[e]]=>bo e
 | _=>none
theorem Oj{ws:!(!Nat)}{t:Tm}(hw:ws≠[])(h:Az ws=some t):t.gg/\t.T=ba ws:=by
 unfold Az at h;split at h
 .rename_i e he
  let(a1,a2):=Ci he (show uG [[]] from λ_ h=>(nomatch h));let(b1,b2):=k7 h (a1 e Zx);show#[b1,?_];rw[dE hw] at a2;have a3:32::e.T++[]=[]++32::ba ws:=a2;rw[ZM] at a3;rw[b2];exact (aaj a3).2
 .cases h
end DL
namespace HT
open PySem PySem.Spec PyProof.Rows
open PySem.Builtin PySem.Builtin.Str
section
variable{prog:Fr}{w:Fa}{A:GE}{E:abK}{s:Ch}{x y:Str}{t u:Tok}{Q:abK}
theorem lM:∀ {k:Nat} {xs:!Str},0 < k->∀ p∈numbered k xs,p.2≠0
 | _,[],_,_,h=>nomatch h
 | k,x::r,hk,p,h=>by
  rcases ZD.mp h with z | z
  .rw[z];exact aah hk
  .exact lM (aai _) p z
theorem ye(ht:t≠0)(HH:0 < s.toks)(hy:(y.length == 0)=false)(h:∀ (l:!(Str×Tok)) (k:Nat),l.map (·.1)=Txt.split x y->(∀ p∈l,p.2≠0)->0 < k->Q (.ref ↑s) { s with heap:=s.heap.push { cls:=.type "list",data:=.seq (strValues l).toArray },toks:=k })(hsz:x.length+2<=FB) :
  EQ (model prog w) A (call (.builtin "str.split") [.str x t,.str y u]) Q E s:=by
 have hn:(partsBetween x (occurrences x y 0 x.length (x.length+1)) y.length).length<=FB:=by
  have e1:=StrLaws.occ_length_le x y 0 x.length (x.length+1);rw[length_partsBetween];cbv
 cases h1:(decide (x.length < y.length)||decide (strKind x < strKind y))
 .cases hf:(occurrences x y 0 x.length (x.length+1)).isEmpty
  .refine call_meets aaR (typeIs_str _ _ _) abx (abu _ _) (meets_str_split_sep x y t u h1 hy hf (by cbv) hn) ?_;change wants Q E _ { s with toks:=_,heap:=s.heap.push { cls:=.type "list",data:=.seq (strsFrom s.toks (partsBetween x (occurrences x y 0 x.length (x.length+1)) y.length)).toArray } };rw[strsFrom_eq];exact h (numbered s.toks _) _ ((numbered_texts _ _).trans ((if_neg (ne_true_of_eq_false h1)).trans (if_neg (ne_true_of_eq_false hf))).symm) (lM HH) (ZL HH (aaN _ _))
  .exact call_meets aaR (typeIs_str _ _ _) abx (abu _ _) (meets_str_split_not_found x y t u h1 hy hf)
    (h [(x,t)] s.toks ((if_neg (ne_true_of_eq_false h1)).trans (if_pos hf)).symm (λp hp=>by rw[ZI.mp hp];exact ht) HH)
 .exact call_meets aaR (typeIs_str _ _ _) abx (abu _ _) (meets_str_split_cannot_occur x y t u h1)
   (h [(x,t)] s.toks (if_pos h1).symm (λp hp=>by rw[ZI.mp hp];exact ht) HH)
end
end HT
namespace L2
open PySem PySem.Spec PyProof.Rows
section
variable{X:Cx}
theorem rF:∀ (l:!(Str×Tok)),(∀ p∈l,p.2≠0)->Vals ((l.map (·.1)).map V.str) (strValues l)
 | [],_=>.nil
 | p::l,h=>.cons #[#[p.2,h p Zx],U] (rF l λq hq=>h q (Zw _ hq))
def Ln:V->!V->Hp->VK->Prop:=λx vs H Q=>∃ z y,x=.str z/\vs=[.str y]/\(y.length == 0)=false/\z.length+2<=FB/\(Txt.split z y).length<=FB/\∀ p,H p=none->Q (.ref p) (upd H p (.lst ((Txt.split z y).map V.str)))
theorem vJ:FO X "str.split" Ln:=by
 intro Tl s O H x vs v us Q I rx rv h;let(z,y,rfl,rfl,hy,hz,hl,q):=h;let(t,rfl):=rx;let(u,rfl,t',rfl):=rv.one;show HT.ye t.2 I.tk hy (λl k e hp hk=>?_) hz;have hf:H ↑s=none:=I.aD.fresh (ZC _);show#[.ref ↑s,upd H ↑s (.lst ((Txt.split z y).map V.str)),I.laid (t':=k) (λb u e=>Zz _ e) (ZC _) ?_ hk,U,q _ hf];have hv:=rF l hp;rw[e] at hv;exact#[by rw[Zy];exact hl,strValues l,0,hv,ZS _ U]
end
end L2
namespace DL
open PySem L2
theorem zT:∀ {x y:!Nat} {r s:!Nat},32∉x->32∉y->x++32::r=y++32::s->x=y/\r=s
 | [],[],r,s,_,_,h=>#[U,by injection h]
 | [],b::y,r,s,_,hy,h=>by
  injection h with h1 h2;exact absurd (h1▸Zx) hy
 | a::x,[],r,s,hx,_,h=>by
  injection h with h1 h2;exact absurd (h1▸Zx) hx
 | a::x,b::y,r,s,hx,hy,h=>by
  injection h with h1 h2;let(e1,e2):=zT (λz=>hx (Zw _ z)) (λz=>hy (Zw _ z)) h2;exact#[by rw[h1,e1],e2]
theorem uO:∀ {a b:!(!Nat)},a≠[]->b≠[]->(∀ x∈a,32∉x)->(∀ x∈b,32∉x)->ba a=ba b->a=b
 | [x],[y],_,_,_,_,h=>by simpa [ba] using h
 | [x],y::z::b,_,_,ha,_,h=>by
  have h:x++[]=y++(z::b).flatMap (32::·):=h;rw[dE (by simp),List.append_nil] at h;exact absurd (by rw[h];simp) (ha x List.mem_cons_self)
 | x::z::a,[y],_,_,_,hb,h=>by
  have h:x++(z::a).flatMap (32::·)=y++[]:=h;rw[dE (by simp),List.append_nil] at h;exact absurd (by rw[<- h];simp) (hb y List.mem_cons_self)
 | x::z::a,y::u::b,_,_,ha,hb,h=>by
  have h:x++(z::a).flatMap (32::·)=y++(u::b).flatMap (32::·):=h;rw[dE (by simp),dE (by simp)] at h;let(e1,e2):=zT (ha x Zx) (hb y Zx) h;rw[e1,uO (by simp) (by simp) (λx hx=>ha x (List.mem_cons_of_mem _ hx)) (λx hx=>hb x (List.mem_cons_of_mem _ hx)) e2]
end DL
namespace DL
open PySem L2
open PySem.Builtin.Str
theorem Fu(a:Nat)(l:!Nat):Txt.startswith (cn (a::l)) "("=decide (a=40):=by
 unfold Txt.startswith subAt;have e:(cn (a::l)).cps.extract 0 (0+("(":Str).length)=#v[a]:=by
  change ((a::l).toArray.extract 0 1)=#v[a];simp
 rw[e];have:(cn (a::l)).length=l.length+1:=d4 _;rw[this];change (decide (0+1<=l.length+1)&&(#v[a] == #v[40]))=_;rw[decide_eq_true (by cbv),Bool.true_and];by_cases h:a=40
 .subst h;decide
 .rw[decide_eq_false h];simp[h]
theorem IS(a:Nat)(l:!Nat):Txt.slice (cn (a::l)) (some 1) none=cn l:=by
 have hn:(cn (a::l)).length=l.length+1:=d4 _;have hi:strSliceIndices (some 1) none 1 (l.length+1)=(List.range l.length).map (·+1):=by
  change sliceRange (max 0 (min (1:Int) ((l.length+1:Nat):Int))) ((l.length+1:Nat):Int) 1=_;rw[show max 0 (min (1:Int) ((l.length+1:Nat):Int))=1 by cbv];have hc:(if (1:Int) < ((l.length+1:Nat):Int) then (((l.length+1:Nat):Int) - 1+1 - 1) / 1 else 0).toNat=l.length:=by
   split
   .rw[Int.ediv_one];cbv
   .cbv
  change (List.range (if (1:Int) < ((l.length+1:Nat):Int) then (((l.length+1:Nat):Int) - 1+1 - 1) / 1 else 0).toNat).map (λ(k:Nat)=>(1+1 * (k:Int)).toNat)=_;rw[hc];show aa8 λk _=>?_;cbv
 unfold Txt.slice;rw[hn,hi];rw[if_neg (by simp)];show g9 ?_;change ((List.range l.length).map (·+1)).filterMap ((a::l).toArray[·]?)=l;rw[List.filterMap_map];have:∀ (k:Nat),(((a::l).toArray[·]?)∘(·+1)) k=l[k]?:=λk=>by simp
 rw[show (((a::l).toArray[·]?)∘(·+1))=λk=>l[k]? from funext this];have hg:∀ k∈List.range l.length,l[k]?=some (l.getD k 0):=λk hk=>by
  have:=aa0.mp hk;rw[abg,aax this]
  rfl
 have hf:∀ m:!Nat,(∀ k∈m,l[k]?=some (l.getD k 0))->m.filterMap (λk=>l[k]?)=m.map λk=>l.getD k 0:=λm=>by
  induction m with
  | nil=>intro _;rfl
  | cons k m ih =>
   intro hm;rw[abi,hm k Zx,ZG];exact congrArg (_::·) (ih λx hx=>hm x (Zw _ hx))
 rw[hf _ hg];show List.ext_getElem (by simp) λi h1 h2=>?_;simp[List.getD_eq_getElem?_getD,List.getElem?_eq_getElem h2]
end DL
namespace L2
open PySem PySem.Calls PyProof.Rows PyProof.V PySem.Spec
structure LQ(P:Fr)(w:Fa)(K:Frag)(d:AC)(az:!(Str×AT)):Prop where
 ob:∃ o,K.lookup d=some o/\o.IsDictOf (strKind P w) az
 nm:(d == SB)=false
section
variable{X:Cx}{d:AC}{az:!(Str×AT)}
def NO(d:AC)(az:!(Str×AT)):R2:=λx y H Q=>∃ i,x=.str i/\y=.ref d/\Q (.bl (valueAt az i).isSome) H
def Po(d:AC)(az:!(Str×AT)):R2:=λx y H Q=>∃ i f,x=.ref d/\y=.str i/\valueAt az i=some (.ref f)/\Q (.ref f) H
theorem LQ.dict{Tl:abL}{O:St}{H:Hp}{s:Ch}(h:LQ X.prog X.w X.K d az)(I:Inv X Tl O H s):s.heap.DictOf (strKind X.prog X.w) d az:=by
 let(o,hk,hd):=h.ob;exact Ev.dictOf_iff.mpr #[o,I.iW d o hk,hd]
theorem J4(h:LQ X.prog X.w X.K d az):iA X (PP .In) (NO d az):=by
 intro Tl s O H x y v u Q I rx ry q;let(i,rfl,rfl,q):=q;let(t,rfl):=rx;cases (show u=AT.ref d from ry);exact wpAny_in_of (strKind_is _ _ _ _) h.nm (h.dict I).mapOf (bc (I.tok _) q U)
theorem TF(h:LQ X.prog X.w X.K d az):LW X (Po d az):=by
 intro value slice Tl s O H x y v u Q I rx ry q hs;let(i,f,rfl,rfl,e,q):=q;let(t,rfl):=ry;cases (show v=AT.ref d from rx);exact tail_any (h.dict I).typeIs slot_dict_getitem.lookup (wpAny_getItem_of (strKind_is _ _ _ _) (h.dict I).mapOf e #[.ref f,H,I.tok _,U,q]) hs
end
end L2
namespace DL
open PySem L2
section
variable{X:Cx}{c:Ent}{k:Nat}{p pos:Pos}{a b e:Da}{es:!Da}{tf:bA}{ta:eQ}
end
end DL
namespace DL
open PySem L2 PyProof.Rows
def LJ(H:Hp)(dd:Option AC)(fs:!(Str×V)):Prop:=(fs=[]/\dd=none)\/∃ d,dd=some d/\H d=some (xf d fs)
def K5(C:AC):Sp:=λvs H Q _=>∃ ea y,vs=[.ref ea,y]/\H ea=some (xo ea C none true)/\∀ d,H d=none->d≠ea->Q .bX (upd (upd H ea (xo ea C (some d) true)) d (xf d [("row",y)]))
abbrev XD:=AC->!(Str×V)->Prop
def XT(E:XK)(c:Ent)(RX:XD):Prop:=∀ C fs,RX C fs->∀ M' H' dd,Base c M' H'->LJ H' dd fs->E (.ref C) dd H'
def cE(K:Frag)(t:!D->(D->Prop)->XD->Prop):Sp:=λvs H Q E=>∃ M ds R RX,Base #[.no,M,H] M H/\av K H M ds vs/\t ds R RX/\(∀ d,R d->∀ M' H' v,Base #[.no,M,H] M' H'->Rep K H' M' d v->Q v H')/\XT E #[.no,M,H] RX
theorem Base.same{M0 M:AC->Prop}{H0 H H':Hp}(B:Base #[.no,M0,H0] M H)(S:cQ H H'):Base #[.no,M0,H0] M H' :=
 #[trivial,λb o e n=>S b o (B.fr b o e n),λb m=>let #[o,e]:=B.md b m;#[o,S b o e],B.mo,B.m0,B.mn]
theorem Jl{H:Hp}{ea d:AC}{o1 o2 o3 o4:HO}(h1:H ea=none)(h2:upd H ea o1 d=none):cQ H (upd (upd (upd (upd H ea o1) ea o2) d o3) ea o4):=λb u e=>by
 have n1:=au e h1;have n2:b≠d:=λq=>by
  rw[<- q,ai n1] at h2;rw[e] at h2;cases h2
 rw[ai n1,ai n2,ai n1,ai n1];exact e
section
variable{P:Fr}{w:Fa}{K:Frag}{mg:Str->Option AT}{base:Ev}
theorem fnX{x qual:Str}{st:Fk}{f:AC}{fd:IR}{N ps:!Str}{k nos:Nat}{t:!D->(D->Prop)->XD->Prop}(F:pJ K x qual st f fd)(S:ar N ps (ag st))(len:∀ ds R RX,t ds R RX->ds.length=ps.length)(hb:∀ (bp:AT) (A:GE) (outer:!Env) (s:Ch) (H:Hp) (E:XK) (M:AC->Prop) (RX:XD),bF k (A.deeper (envOfC qual (ag st) ↑s f bp))->XT E #[.no,M,H] RX ->
   ∃ tb,vW (JD P w K mg base N qual (ag st) f bp A outer s H E) #[.no,M,H] (aq st) tb/\∀ ds R,t ds R RX->tb { nx:=λ_=>R .bX,rt:=R } (eV N.length nos ds)):br P w K mg base (cA P w) (k+1) f fd ps (cE K t):=by
 show F.WE S (λvs H Q E h=>?_) λbp A outer s H vs Q E hr h=>?_
 .let(M,ds,R,RX,B,r,q,_):=h;rw[r.length];exact len ds R RX q
 .let(M,ds,R,RX,B,r,q,kk,hX):=h;let(tb,h1,h2):=hb bp A outer s H E M RX hr hX;exact#[_,h1.ps,M,_,_,_,j6 B r U,h2 ds R q,#[λs as M' O H' r L _=>kk .bX r M' H' .bX L.base U,λ_ _ _ _ _ z=>z.elim,λ_ _ _ _ _ z=>z.elim,λd M' H' v r B' rv=>kk d r M' H' v B' rv,λ_ _ _ _ _ z=>z.elim,λ_ _ _ _ _ _ _ z=>z.elim]]
end
section
variable{X:Cx}{M0:AC->Prop}{H0:Hp}{E:XK}{RX:XD}{C f:AC}{fd:IR}{x:Str}{p p2 pos:Pos}{e:Da}{es:!Da}{te:bA}{ta:eQ}{k:Nat}{ps:!Str}
theorem BV(hc:X.calm=true)(hR:Raises X E)(hX:XT E #[.no,M0,H0] RX)(M:Nv X.K C f)(G:br X.prog X.w X.K X.mg X.base aV 1 f fd ["self","row"] (K5 C))(hr:bF 2 X.A)(hg:Gl X x)(hm:X.mg x=some (.ref C))(b:Binds X.K fd ["self","row"] [])(ha:DA X #[.no,M0,H0] [e] ta)(fM: ~~~(abP x))(he:(Go [e] X.env=(false,eval e X.env)::Go [] X.env)⁻¹)(dI:((KB p2 (Go [] X.env)).any (·.1)=false)⁻¹) :
  qH X #[.no,M0,H0] (.Raise (some (.Call (.Name x p) [e] [] p2)) none pos) (λ_ s=>ta s λds _=>∃ i,ds=[.int i]/\RX C [("row",.int i)]) :=
 #[(Cb hc hR (C9 M G hr hg hm b ha.pa fM he dI)).imp λE O H z7q=>by let(M',s,as,R,L,q,_):=z7q;exact#[M',s,as,_,L,q,λds s1 z8q M1 H1 vs L1 E1 r1 _=>by
   let(i,ed,q1):=z8q;subst ed;let(v,rfl,ev):=cG r1;have ev:v=.int i:=ev;subst ev;exact#[by change 1<=1000;decide,λea oO=>#[ea,_,U,aj,λd hd iR=>#[U,ea,_,_,U,(by rw[ai (Ne.symm iR)];exact aj),M.toExC,hX C _ q1 M1 _ (some d) (L1.base.same (Jl oO hd)) (.inr #[d,U,by rw[ai iR];exact aj])]]]]]
theorem FX{t:!D->(D->Prop)->XD->Prop}(hp:∀ E':XK,(∀ c dd H',E' c dd H'->E c dd H')->Passes (cA X.prog X.w) X E')(hX:XT E #[.no,M0,H0] RX)(hr:bF k X.A)(hg:Gl X x)(hm:X.mg x=some (.ref f))(hk:keepIn X.K (.ref f)=true)(hb:Binds X.K fd ps [])(ha:DA X #[.no,M0,H0] (e::es) ta)(F:br X.prog X.w X.K X.mg X.base (cA X.prog X.w) k f fd ps (cE X.K t))(fM: ~~~(abP x))(he:(abN X.env e es)⁻¹)(dI:((KB p2 (Go es X.env)).any (·.1)=false)⁻¹)(hs:(swapsWith (.Call (.Name x p) (e::es) [] p2) none pos.line X.env=pure false)⁻¹) :
  qH X #[.no,M0,H0] (.Expr (.Call (.Name x p) (e::es) [] p2) pos) (λD s=>ta s λds s1=>t ds (λ_=>D.nx s1) RX) :=
 #[(ff (cU F hr hg hm hk hb .nil (E:=λcv dd H'=>∃ C fs M',cv=.ref C/\RX C fs/\Base #[.no,M0,H0] M' H'/\LJ H' dd fs) (hp _ λcv dd H' z9q=>by let(C,fs,M',e,h1,h2,h3):=z9q;subst e;exact hX C fs h1 M' H' dd h2 h3) ha.pa fM he dI) hs).imp λE2 O H zz=>eF zz λM s as R L q kk =>
   #[M,s,as,_,L,q,λds s1 q1 M1 H1 vs L1 E1 r1 hl=>#[M1,ds,_,RX,L1.base.nF,by rw[ZM];exact r1,q1,λd rd M' H' v B rv=>by
    have L2:=L1.after (L1.base.gK B);exact kk.nx s1 as M' O H' rd L2 ((E1.trans L1.base (Ext.after (L1.base.gK B))).grow L),λC fs hx M' H' dd B fa=>#[C,fs,M',U,hx,(L1.after (L1.base.gK B)).base,fa]]]]
end
end DL
namespace L2
open PySem PyProof.Rows
section
variable{X:Cx}
end
end L2
namespace DL
open PySem L2 PyProof.Rows
section
variable{X:Cx}{M0:AC->Prop}{H0:Hp}{f:AC}{fd:IR}{x xn:Str}{p p2 p3 p5 p6 pos:Pos}{a e:Da}{es:!Da}{t0:bA}{ta:eQ}{k i:Nat}{ps:!Str}{th:EU}
def WR(K:Frag)(c:Ent)(th:EU)(D:gD)(s:DS):XD:=λC fs=>∀ (E:Ends) (M M1:AC->Prop) (as:!AC) (O:L2.St) (H H1:Hp) (ea:AC) (dd:Option AC),we K c M1 H1 D E->eC M1 H1 M H->aB K c M s as O H->LJ H dd fs->H ea=some (xo ea C dd false)->th C dd ea E O H
end
end DL
namespace L2
open PySem PyProof.Rows
section
variable{X:Cx}
theorem pf:∀ {as:!AC} {us:!AT},Vals (as.map V.ref) us->us=as.map AT.ref
 | [],_,.nil=>rfl
 | a::as,u::us,.cons h r=>by
  obtain rfl:u=AT.ref a:=h;rw[pf r]
  rfl
def IE(K:Frag)(as:!AC):!V->Hp->VK->Prop:=λxs H Q=>∃ ea C dd fr b p,xs=[.ref ea,.ref p]/\ja K H p (as.map V.ref)/\H ea=some (xo ea C dd fr)/\eX H dd/\Pj K C/\kitAny K (.ref C) (as.map AT.ref)=some b/\Q (.bl b) H
theorem Aw{K:Frag}{as:!AC}(hK:X.K=K):eE X (.builtin "isinstance") (IE K as):=by
 subst hK;intro Tl s O H xs us Q I r h;let(ea,C,dd,fr,b,p,rfl,ht,e,D,t,k,q):=h;cases r with
 | @cons _ u _ us' ru rr =>
  cases rr with
  | @cons _ u2 _ us2 ru2 rr2 =>
   cases rr2;obtain rfl:u=AT.ref ea:=ru;obtain rfl:u2=AT.ref p:=ru2;let(its,rv,(o,ho,hc,n,hs),_):=I.tuple ht;let(oc,od',odt,vv):=o;cases hc;cases hs;rw[pf rv] at ho;let(ox,od,J):=zJ I e (D.at I);exact gB (PySem.W.kia_tup (vf t.toExC t.cc) I.iW J ho k (λz=>nomatch z) λtk tl=>#[.bl b,H,I.tok _ (ZL I.tk tl),U,q])
end
end L2
namespace DL
open PySem L2 PyProof.Rows
def Lo(X:Cx)(lq:!Fk):TS:=λE O H=>∃ t,(∀ ev,nX (X.hand ev) lq t)/\t E O H
theorem Gp{X:Cx}{lq:!Fk}:∀ ev,nX (X.hand ev) lq (Lo X lq):=λev Tl s O H D I #[t,h,q]=>h ev Tl s O H D I q
section
variable{K:Frag}{M0 M M':AC->Prop}{H0 H H':Hp}{s s':DS}{as qP:!AC}{O O':L2.St}
theorem aB.down(L:aB K #[.no,M0,H0] M s as O H)(xA:∀ (k:Nat) (d:D),s.os[k]?≠some (some d)):aB K #[.no,M,H] M s as O H :=
 #[L.base.nF,L.len,L.e8,L.dat,L.own,λk d a e _=>absurd e (xA k d),λk l d e a h1=>absurd h1 (xA _ _),L.lt]
theorem aB.up(L:aB K #[.no,M0,H0] M s as O H)(L':aB K #[.no,M,H] M' s' qP O' H'):aB K #[.no,M0,H0] M' s' qP O' H' :=
 #[(L.after L'.base).base,L'.len,L'.e8,L'.dat,L'.own,λk d a e1 e2=>by
   let(h1,h2,h3,h4):=L'.obj k d a e1 e2;exact#[h1,h2,h3,L.base.lI h4],L'.inj,L'.lt]
theorem aB.Pr{c:Ent}{x:Option V}(L:aB K c M s as O H)(i:Nat):aB K c M (s.set i .no) as (O.set i x) H:=by
 have ne:∀ {j:Nat} {y:Sl},(s.set i .no).sl[j]?=some y->y≠.no->s.sl[j]?=some y/\j≠i:=λ{j y} e n=>by
  have e:(s.sl.set i .no)[j]?=some y:=e;by_cases h:i=j
  .subst h;rw[List.getElem?_set] at e;simp at e;exact absurd e.2.symm n
  .rw[ZU h] at e;exact#[e,Ne.symm h]
 show#[L.base,?_,L.e8,λj d e=>?_,λj k e=>?_,L.obj,L.inj,L.lt]
 .show (s.sl.set i .no).length=(O.set i x).length;rw[aab,aab];exact L.len
 .let(e,n):=ne e (by simp);let(v,h1,h2):=L.dat j d e;exact#[v,by rw[ZU (Ne.symm n)];exact h1,h2]
 .let(e,n):=ne e (by simp);let(a,h1,h2):=L.own j k e;exact#[a,h1,by rw[ZU (Ne.symm n)];exact h2]
end
section
variable{X:Cx}{M0:AC->Prop}{H0:Hp}{i:Nat}{ea C d:AC}{dd:Option AC}{fr b:Bool}{e:Da}{fs:!(Str×V)}{f:Str}{r:Int}
def Ur(i:Nat)(ea:AC)(d:D):bA:=λs Q=>s.sl[i]?=some (.dat (.hJ ea))/\Q d s
theorem IH{c:AT}{cv:V}(hc:RelV cv c)(hH:H0 ea=some (xo ea C dd fr))(hD:eX H0 dd)(hT:Pj X.K C)(hk:kitOne X.K (.ref C) c=some b)(h:PE X e (HY (Nh X.K c) (lD (bO i) (lD (tC cv) Ay)))):DE X #[.no,M0,H0] e (Ur i ea (.bl b)) :=
 #[h.imp λO H Q z7q=>by
  let(M,s,as,R,L,(hi,q),kk):=z7q;let(v,h1,h2):=L.dat i _ hi;have h2:v=.ref ea:=h2;subst h2;exact#[_,h1,ea,C,dd,fr,b,cv,U,hc,L.base.fr ea _ hH λz=>z,λd e=>let #[fs,z]:=hD d e;#[fs,L.base.fr d _ z λz=>z],hT,hk,kk _ s q M H _ L .refl U]]
def Up:!AC->TA
 | []=>Ay
 | a::as=>lD (tC (.ref a)) (Up as)
theorem BH:∀ {cs:!AC} {O:L2.St} {H:Hp} {Q:!V->Hp->Prop},Q (cs.map V.ref) H->Up cs O H Q
 | [],_,_,_,h=>h
 | a::cs,O,H,Q,h=>BH (cs:=cs) (Q:=λxs H2=>Q (.ref a::xs) H2) h
theorem Kc{cs:!AC}(hl:cs.length<=1000)(hH:H0 ea=some (xo ea C dd fr))(hD:eX H0 dd)(hT:Pj X.K C)(hk:kitAny X.K (.ref C) (cs.map AT.ref)=some b)(h:PE X e (HY (IE X.K cs) (lD (bO i) (lD (Pq (Up cs)) Ay)))):DE X #[.no,M0,H0] e (Ur i ea (.bl b)) :=
 #[h.imp λO H Q z3r=>by
  let(M,s,as,R,L,(hi,q),kk):=z3r;let(v,h1,h2):=L.dat i _ hi;have h2:v=.ref ea:=h2;subst h2;show#[_,h1,BH #[by rw[Zy];exact abp (me hl),λp hp=>?_]];have up:∀ b o,H b=some o->upd H p (.tup (cs.map V.ref)) b=some o:=λb o e=>by rw[ai (au e hp)];exact e
  exact#[ea,C,dd,fr,b,p,U,.inl (.inl aj),up _ _ (L.base.fr ea _ hH λz=>z),λd e=>let #[fs,z]:=hD d e;#[fs,up _ _ (L.base.fr d _ z λz=>z)],hT,hk,kk _ s q _ _ _ (L.fresh hp) (Ext.fresh hp) U]]
theorem CU(hH:H0 ea=some (xo ea C (some d) fr))(hd:H0 d=some (xf d fs))(hC:ExC X.K C)(hN:Hu X.K C f)(hl:fs.lookup f=some (.int r))(h:PE X e (IK X.K (bO i) f)):DE X #[.no,M0,H0] e (Ur i ea (.int r)) :=
 #[h.imp λO H Q z8q=>by
  let(M,s,as,R,L,(hi,q),kk):=z8q;let(v,h1,h2):=L.dat i _ hi;have h2:v=.ref ea:=h2;subst h2;exact#[_,h1,ea,C,d,fr,fs,_,U,L.base.fr ea _ hH λz=>z,L.base.fr d _ hd λz=>z,hC,hN,hl,kk _ s q M H _ L .refl U]]
theorem Ck{H:Hp}(h:LJ H dd fs):eX H dd:=λd e=>by
 rcases h with ⟨_,h⟩ | ⟨d',h,z⟩
 .rw[h] at e;cases e
 .rw[h] at e;cases e;exact#[_,z]
end
section
variable{P:Fr}{w:Fa}{K:Frag}{mg:Str->Option AT}{base:Ev}{q:D3}{N:!Str}{k nos:Nat}{t:!D->(D->Prop)->XD->Prop}
theorem Own.x(o:Own K mg q)(S:ar N q.2.2 (ag q.2.1))(len:∀ ds R RX,t ds R RX->ds.length=q.2.2.length)(hb:∀ (f:AC) (bp:AT) (A:GE) (outer:!Env) (s:Ch) (H:Hp) (E:XK) (M:AC->Prop) (RX:XD),bF k (A.deeper (envOfC q.1 (ag q.2.1) ↑s f bp))->XT E #[.no,M,H] RX ->
   ∃ tb,vW (JD P w K mg base N q.1 (ag q.2.1) f bp A outer s H E) #[.no,M,H] (aq q.2.1) tb/\∀ ds R,t ds R RX->tb { nx:=λ_=>R .bX,rt:=R } (eV N.length nos ds)):C4 P w K mg base (cA P w) q (k+1) (cE K t):=o.c λf fd F=>fnX F S len (hb f)
theorem C4.calm(c:C4 P w K mg base (cA P w) q k (cE K t)):C4 P w K mg base aV q k (b5 K .no λds R=>t ds R λ_ _=>False):=by
 let(f,fd,G,r):=c;have h0:∀ vs H Q E,b5 K .no (λds R=>t ds R λ_ _=>False) vs H Q E->cE K t vs H Q λ_ _ _=>False:=λvs H Q E h=>by
  let(M,ds,R,B,r,q,kk):=h;exact#[M,ds,R,_,B,r,q,kk,λ_ _ z=>z.elim]
 show#[f,fd,#[λvs H Q E h=>G.len vs H Q _ (h0 vs H Q E h),λA outer s H args us vs Q E hr he hb hv h=>?_],r];show codeAny_mono (G.run A outer s H args us vs Q _ hr he hb hv (h0 vs H Q E h)) λr s' hq=>?_;cases r with
 | ok fl=>cases fl<;>exact hq
 | error e =>
  let(ea,C,dd,T,H',_,_,_,_,_,_,_,_,_,_,z):=hq;exact z.elim
end
section
variable{X:Cx}{M0:AC->Prop}{H0:Hp}{E:XK}{RX:XD}{q:D3}{x:Str}{p p2 pos:Pos}{e:Da}{es:!Da}{ta:eQ}{k m:Nat}{t:!D->(D->Prop)->XD->Prop}
theorem cF(hp:∀ E':XK,(∀ c dd H',E' c dd H'->E c dd H')->Passes (cA X.prog X.w) X E')(hX:XT E #[.no,M0,H0] RX)(hr:bF m X.A)(G:C4 X.prog X.w X.K X.mg X.base (cA X.prog X.w) q k (cE X.K t))(ha:DA X #[.no,M0,H0] (e::es) ta)(hx:(q.1=x)⁻¹)(hk:k<=m:=by ac_rfl)(hg:(Gl X x)⁻¹)(fM: ~~~(abP x))(he:(abN X.env e es)⁻¹)(dI:((KB p2 (Go es X.env)).any (·.1)=false)⁻¹)(hs:(swapsWith (.Call (.Name x p) (e::es) [] p2) none pos.line X.env=pure false)⁻¹) :
  qH X #[.no,M0,H0] (.Expr (.Call (.Name x p) (e::es) [] p2) pos) (λD s=>ta s λds s1=>t ds (λ_=>D.nx s1) RX):=by
 subst hx;let(f,fd,G,F,M,b):=G;exact FX hp hX (hr.mono hk) hg M F.kp b ha G fM he dI hs
theorem Lk{pos':Pos}{h₀:ExceptHandler}{hs:!ExceptHandler}{th:EU}(h1:X.stack=X.env::X.outer)(h2:X.env.frame=some X.env.locals)(hr:bF m X.A)(G:C4 X.prog X.w X.K X.mg X.base (cA X.prog X.w) q k (cE X.K t))(ha:DA X.wD #[.no,M0,H0] (e::es) ta)(hh:PH X (h₀::hs) th)(hx:(q.1=x)⁻¹)(hk:k<=m:=by ac_rfl)(hg:(Gl X x)⁻¹)(fM: ~~~(abP x))(he:(abN X.env e es)⁻¹)(dI:((KB p2 (Go es X.env)).any (·.1)=false)⁻¹)(Fs:(swapsWith (.Call (.Name x p) (e::es) [] p2) none pos.line X.env=pure false)⁻¹) :
  qH X #[.no,M0,H0] (.Try [.Expr (.Call (.Name x p) (e::es) [] p2) pos] (h₀::hs) [] [] pos') (λD s=>ta s λds s1=>t ds (λ_=>D.nx s1) (WR X.K #[.no,M0,H0] th D s1)):=by
 subst hx;let(f,fd,G,F,m,hb):=G;exact#[(Je h1 h2 (EF (BQ G (hr.mono hk) hg m F.kp hb ha.pa fM he dI) Fs) hh).imp λE O H zz=>eF zz λM s as R L q kk =>
  #[M,s,as,_,L,q,λds s1 q1 M2 H2 vs L2 E2 r2 hl=>#[M2,ds,_,_,L2.base.nF,r2,q1,λd rd M' H' y B ry=>by
   have L3:=L2.after (L2.base.gK B);have E3:=E2.trans L2.base (Ext.after (L2.base.gK B));exact kk.nx _ as _ _ _ rd L3 (E3.grow L),λC fs hx M' H' dd B fa=>#[C,U,λea oO=>by
    have L3:=L2.after (L2.base.gK B);have E3:=E2.trans L2.base (Ext.after (L2.base.gK B));exact hx E M' M as O H' H ea dd kk (E3.grow L) L3 fa oO]]]]
end
section
variable{X:Cx}{M0:AC->Prop}{H0:Hp}{E:XK}{RX:XD}{f:AC}{fd:IR}{x:Str}{p p2:Pos}{e:Da}{es:!Da}{ta:eQ}{k:Nat}{ps:!Str}
def Ec(t:!D->(D->Prop)->XD->Prop)(RX:XD)(ta:eQ):bA:=λs Q=>ta s λds s1=>t ds (λd=>Q d s1) RX
theorem GJ{t:!D->(D->Prop)->XD->Prop}(hp:∀ E':XK,(∀ c dd H',E' c dd H'->E c dd H')->Passes (cA X.prog X.w) X E')(hX:XT E #[.no,M0,H0] RX)(hr:bF k X.A)(hg:Gl X x)(hm:X.mg x=some (.ref f))(hk:keepIn X.K (.ref f)=true)(hb:Binds X.K fd ps [])(ha:DA X #[.no,M0,H0] (e::es) ta)(F:br X.prog X.w X.K X.mg X.base (cA X.prog X.w) k f fd ps (cE X.K t))(fM: ~~~(abP x))(he:(abN X.env e es)⁻¹)(dI:((KB p2 (Go es X.env)).any (·.1)=false)⁻¹) :
  DE X #[.no,M0,H0] (.Call (.Name x p) (e::es) [] p2) (Ec t RX ta) :=
 #[(cU F hr hg hm hk hb .nil (E:=λcv dd H'=>∃ C fs M',cv=.ref C/\RX C fs/\Base #[.no,M0,H0] M' H'/\LJ H' dd fs) (hp _ λcv dd H' z9q=>by let(C,fs,M',e,h1,h2,h3):=z9q;subst e;exact hX C fs h1 M' H' dd h2 h3) ha.pa fM he dI).imp λO H Q zz=>eF zz λM s as R L q kk =>
   #[M,s,as,_,L,q,λds s1 q1 M1 H1 vs L1 E1 r1 hl=>#[M1,ds,_,RX,L1.base.nF,by rw[ZM];exact r1,q1,λd rd M' H' v B rv=>kk d s1 rd M' H' v (L1.after (L1.base.gK B)) (E1.trans L1.base (Ext.after (L1.base.gK B))) rv,λC fs hx M' H' dd B fa=>#[C,fs,M',U,hx,(L1.after (L1.base.gK B)).base,fa]]]]
end
end DL
namespace PySem
section
variable{M:Model}{A:GE}{E:abK}{s:Ch}
theorem CW{x:AT}{e1 e2:Env}(h:e1.frame=e2.frame):noteFrame x e1=noteFrame x e2:=by
 unfold noteFrame frameOf;rw[h]
theorem Lz{env:Env}{L e T:AC}{oe:Obj}{vs:Array AT}{Q:Unit->Ch->Prop}(hf:env.frame=some L)(he:s.heap.get? e=some oe)(hd:oe.data=.fields vs)(h1:vs[1]?=some (.ref T))(ht:kT s.heap T (NE L))(h:Q Unit.unit s):EQ M A (noteFrame (.ref e) env) Q E s:=by
 let(oT,ts,hT,hdT,h3):=ht;unfold noteFrame;simp only[hf];show Db (Os he hd h1 ?_);rw[if_pos (show (AT.ref T != AT.none)=true from by simp)];show Db (Os hT hdT h3 ?_);rw[if_pos (show (NE L == NE L)=true from by simp)];exact GM h
theorem CI{fr:Option AC}{e T:AC}{oe:Obj}{vs:Array AT}{fl:AT}{Q:Unit->Ch->Prop}(he:s.heap.get? e=some oe)(hd:oe.data=.fields vs)(h1:vs[1]?=some (.ref T))(ht:kT s.heap T fl)(h:∀ h',(∀ b o,b≠T->s.heap.get? b=some o->h'.get? b=some o)->kT h' T (fr.elim AT.none λf=>NE f)->Q Unit.unit { s with heap:=h' }):EQ M A (setFlight (.ref e) fr) Q E s:=by
 let(oT,ts,hT,hdT,h3):=ht;have hsz3:3 < ts.size:=(Z9.mp h3).1;unfold setFlight;show Db (Os he hd h1 ?_);rw[if_pos (show (AT.ref T != AT.none)=true from by simp)];show wpAny_setField hT hdT hsz3 (h _ (λb o hb e=>(ZY _ _ (Ne.symm hb)).trans e) ?_);exact#[_,_,Ev.get?_update_self _ hT (Obj.isFreed_of_fields (Obj.data_mapFields hdT _)),Obj.data_mapFields hdT _,by simp[hsz3]]
theorem Bl{base:Ev}{env:Env}{outer:!Env}{L e T0:AC}{oe:Obj}{vs:Array AT}{fl:AT}{Q:Unit->Ch->Prop}(nh:A.frames=some (env::outer))(hl:s.heap.FunFrames base (env::outer))(hf:env.frame=some L)(he:s.heap.get? e=some oe)(hd:oe.data=.fields vs)(h1:vs[1]?=some (.ref T0))(Gb:T0≠e)(ht:kT s.heap T0 fl)(Fh:(fl == NE L)=false)(h:∀ h' T,eK ((env::outer).filterMap (·.frame)) [e,T0] s.heap h'->h'.get? e=some (Obj.mapFields (·.setIfInBounds 1 (.ref T)) oe)->↑s<=T->kT h' T (NE L)->h'.FunFrames base (env::outer)->Q Unit.unit { s with heap:=h' }) :
  EQ M A (noteFrame (.ref e) env) Q E s:=by
 let(oT,ts,hT,hdT,h3):=ht;unfold noteFrame;simp only[hf];show Db (Os he hd h1 ?_);rw[if_pos (show (AT.ref T0 != AT.none)=true from by simp)];show Db (Os hT hdT h3 ?_);rw[if_neg (show ¬ ((fl == NE L)=true) from by rw[Fh];decide)];show Db (wpAny_setField hT hdT (Z9.mp h3).1 ?_);have other:∀ b,b≠T0->(s.heap.update T0 (Obj.mapFields (·.setIfInBounds 3 AT.none))).get? b=s.heap.get? b:=λb hb=>ZY _ _ (Ne.symm hb);have noRecord:∀ b o,s.heap.get? b=some o->(∀ vs,o.data≠.fields vs)->b≠T0:=λb o hb hnf q=>by
  rw[q,hT] at hb;injection hb with hb;subst hb;exact hnf ts hdT
 have nfr:T0∉(env::outer).filterMap (·.frame):=λhm=>by
  let(_,o,ho,hnf):=hl.mem hm;rw[hT] at ho;injection ho with ho;subst ho;exact hnf ts hdT
 show mM nh (hl.of_keeps λb o hb hnf=>#[o,(other b (noRecord b o hb hnf)).trans hb,U]) hf ((other e (Ne.symm Gb)).trans he) hd (Z9.mp h1).1
  λh' T k1 k2 k3 k4 k5=>h h' T #[λb o hb hc eb=>?_,λb o hb eb=>?_] k2 ?_ k4 k5
 .have n1:b≠e:=λq=>hc (by simp[q]);have n2:b≠T0:=λq=>hc (by simp[q]);exact k1.keep b o hb (by simpa using n1) ((other b n2).trans eb)
 .exact k1.slot b o hb ((other b λq=>nfr (q▸hb)).trans eb)
 .exact ZH (Nat.le_of_eq (Ev.size_after_update ..).symm) k3
end
end PySem
namespace L2
open PySem PyProof.Rows
section
variable{X:Cx}{Tl:abL}{O:St}{H:Hp}{s:Ch}{ea C T:AC}{dd:Option AC}{A:GE}{E:abK}
structure j4(X:Cx)(Tl:abL)(H:Hp)(s:Ch)(ea C:AC)(dd:Option AC)(T:AC)(v:AT):Prop where
 ex:∃ vs:Array AT,s.heap.get? ea=some { cls:=.ref C,dict:=dd,data:=.fields vs }/\vs.size=6/\vs[1]?=some (.ref T)
 tb:kT s.heap T v
 at_:H ea=some (xo ea C dd false)
 free:H T=none
 new:X.s₀.heap.objs.size<=T
 nl:T≠X.env.locals
 nc:∀ x c,X.env.cells.lookup x=some c->c≠T
 np:∀ p∈X.pn++Tl,p.1≠T
 nf:T∉X.fs
theorem j4.Zq(F:j4 X Tl H s ea C dd T .none):vG X Tl H s ea C dd T:=#[F.ex,F.tb,F.at_,F.free,F.new,F.nl,F.nc,F.np,F.nf]
theorem j4.ne{v:AT}(F:j4 X Tl H s ea C dd T v):T≠ea:=λq=>by have:=F.free;rw[q,F.at_] at this;cases this
theorem CY{fr:Option AC}{v:AT}{Q:Unit->Ch->Prop}(I:Inv X Tl O H s)(F:j4 X Tl H s ea C dd T v)(h:∀ s2,Inv X Tl O H s2->j4 X Tl H s2 ea C dd T (fr.elim AT.none λf=>NE f)->Q Unit.unit s2):EQ (model X.prog X.w) A (setFlight (.ref ea) fr) Q E s:=by
 let(vs,he,h6,h1):=F.ex;show CI he U h1 F.tb λhb k2 ht2=>?_;exact h _ (I.turned (t':=s.toks) k2 F.free F.nl (.inr F.new) F.nc F.np) #[#[vs,k2 _ _ (Ne.symm F.ne) he,h6,h1],ht2,F.at_,F.free,F.new,F.nl,F.nc,F.np,F.nf]
theorem uR{v:AT}{Q:Unit->Ch->Prop}(I:Inv X Tl O H s)(hA:A.frames=some X.stack)(hs:X.stack=X.env::X.outer)(hf:X.env.frame=some X.env.locals)(F:j4 X Tl H s ea C dd T v)(h:∀ s2 T2,Inv X Tl O H s2->j4 X Tl H s2 ea C dd T2 (NE X.env.locals)->Q Unit.unit s2) :
  EQ (model X.prog X.w) A (noteFrame (.ref ea) X.env) Q E s:=by
 let(vs,he,h6,h1):=F.ex;have fun1:=I.stack;rw[hs] at hA fun1;cases hv:v == NE X.env.locals with
 | true =>
  have hv:v=NE X.env.locals:=eq_of_beq hv;subst hv;exact Lz hf he U h1 F.tb (h s T I F)
 | false =>
  show Bl hA fun1 hf he U h1 F.ne F.tb hv λha T2 P oO hT ht _=>?_;rw[kr] at oO;have hv1:(vs.setIfInBounds 1 (AT.ref T2))[1]?=some (.ref T2):=by rw[aaK (by cbv)]
  have I2:=kg I hs hf F.at_ (P:eK ((X.env::X.outer).filterMap (·.frame)) (ea::[T]) s.heap ha) (λb z=>by
   have q:b=T:=ZI.mp z;rw[q];exact#[F.free,F.new,F.nl,F.nc,F.np]) oO (by simp[h6])
  rw[uS F.at_] at I2;let(a1,a2,a3,a4,a5):=I.apart hT;exact h _ T2 I2 #[#[_,oO,by simp[h6],hv1],ht,F.at_,I.aD.fresh hT,a1,a2,a3,a4,a5]
theorem AV{v:AT}{Q:Unit->Ch->Prop}(I:Inv X Tl O H s)(hA:A.frames=some X.stack)(hs:X.stack=X.env::X.outer)(hf:X.env.frame=some X.env.locals)(F:j4 X Tl H s ea C dd T v)(h:∀ s2 T2,Inv X Tl O H s2->vG X Tl H s2 ea C dd T2->Q Unit.unit s2):EQ (model X.prog X.w) A (leaving X.env (.ref ea)) Q E s:=by
 unfold leaving;show Db (uR I hA hs hf F λs1 T1 I1 F1=>?_);exact CY (fr:=none) I1 F1 λs2 I2 F2=>h s2 T1 I2 F2.Zq
end
end L2
namespace L2
open PySem PySem.Spec PyProof.Rows
def Yl(X:Cx)(E0:XK):abK:=λe s'=>∃ (ea C':AC) (dd:Option AC) (T:AC) (H':Hp) (kX:abL) (O':St),e=.ref ea/\Inv X kX O' H' s'/\vG X kX H' s' ea C' dd T/\E0 (.ref C') dd H'
abbrev Cx.ny(X:Cx)(E0:XK)(ts:!Str)(us:!Nat)(scope:Scope)(C:AC)(s:Ch)(H:Hp)(fp:!AC):Cx:=(X.comp ts us scope C s H fp).kF (Yl (X.comp ts us scope C s H fp) E0)
theorem vG.e9{X:Cx}{E:abK}{Tl:abL}{H:Hp}{s:Ch}{ea C T:AC}{dd:Option AC}(F:vG (X.kF E) Tl H s ea C dd T):vG X Tl H s ea C dd T:=#[F.ex,F.tb,F.at_,F.free,F.new,F.nl,F.nc,F.np,F.nf]
theorem iU{X:Cx}{E0 E':XK}{ts:!Str}{us:!Nat}{scope:Scope}{C:AC}{s:Ch}{H:Hp}{fp:!AC}(h:∀ c dd H',E' c dd H'->E0 c dd H'):Passes (cA X.prog X.w) (X.ny E0 ts us scope C s H fp) E':=λTl O H1 s1 e s' I tl hx=>by
 let(ea,C',dd,T,H',rfl,I1,F,q):=DC (X:=X.ny E0 ts us scope C s H fp) I tl hx;exact#[ea,C',dd,T,H',Tl,O,U,I1.e9,F.e9,h _ _ _ q]
def o7(X:Cx)(E:XK):Prop:=∀ (Tl:abL) (O:St) (H:Hp) (s:Ch) (ea C:AC) (dd:Option AC) (T:AC) (v:AT),Inv X Tl O H s->j4 X Tl H s ea C dd T v->E (.ref C) dd H->X.xe (.ref ea) s
theorem qC{P:Fr}{w:Fa}{K:Frag}{mg:Str->Option AT}{base:Ev}{N:!Str}{qual:Str}{scope:Scope}{f:AC}{cd:AT}{A:GE}{outer:!Env}{s:Ch}{H:Hp}{E E':XK}(h:∀ c dd H',E' c dd H'->E c dd H'):o7 (JD P w K mg base N qual scope f cd A outer s H E) E':=λTl O H1 s1 ea C dd T v I F q=>by
 change EQ _ _ (leaving _ _) _ _ _;show AV I I.ok.frames U U F λs2 T2 I2 F2=>?_;exact#[ea,C,dd,T2,_,U,I2.os,I2.bare,I2.base,I2.aD,F2.at_,F2.ex,F2.tb,F2.free,F2.new,h _ _ _ q]
section
variable{X:Cx}{ts:!Str}{us:!Nat}{scope:Scope}{E0:XK}
theorem wj{Tl kX:abL}{O O':St}{H3 H':Hp}{s3 sx:Ch}{fp:!AC}{ea C' T':AC}{dd:Option AC}{R:abK}(I3:Inv X Tl O H3 s3)(J0:Inv X Tl O H' sx)(Ix:Inv (X.comp ts us scope ↑s3 s3 H3 fp) kX O' H' sx)(Fx:vG (X.comp ts us scope ↑s3 s3 H3 fp) kX H' sx ea C' dd T')(hc:X.calm=true)(jQ:X.stack=X.env::X.outer)(nh:X.env.frame=some X.env.locals)(h:∀ s2 T2,Inv X Tl O H' s2->(∃ m,s2.heap.Ns ↑s3 m)->fE X Tl H' ↑s3->T2≠↑s3->j4 X Tl H' s2 ea C' dd T2 (NE X.env.locals)->R (.ref ea) s2) :
  notedBy (model X.prog X.w) X.A (compEnvC scope (fz X.env scope.names []) ↑s3 X.env) R (.ref ea) sx:=by
 let(m,hn,_):=Ix.loc;have hn:sx.heap.Ns ↑s3 m:=hn;have fk:fE X Tl H' ↑s3:=I3.ud (ZC _) Ix.free;let(o,es,ep,ho,hd,hk):=hn;have J1:Inv X (Tl++iz [↑s3] sx.heap) O H' sx:=J0.pinned (λb hb=>by rw[ZI.mp hb];exact fk) λb hb=>by
  rw[ZI.mp hb];exact#[o,ho,λv z=>by rw[hd] at z;cases z]
 have hT:↑s3<=T':=Fx.new;have tC:T'≠↑s3:=Fx.nl;let(a1,a2,a3,a4,a5):=I3.apart hT;have F1:j4 X (Tl++iz [↑s3] sx.heap) H' sx ea C' dd T' .none:=#[Fx.ex,Fx.tb,Fx.at_,Fx.free,a1,a2,a3,λp hp=>by
  rcases ZR.mp hp with z | z
  .exact a4 p (Z2 _ z)
  .rcases ZR.mp z with z | z
   .exact a4 p (ZQ _ z)
   .rw[ZI.mp (qY z).1];exact Ne.symm tC,a5]
 change EQ _ _ (noteFrame _ _) _ _ _;rw[CW (e1:=compEnvC scope (fz X.env scope.names []) ↑s3 X.env) (e2:=X.env) U];show uR J1 J1.ok.frames jQ nh F1 λs2 T2 I2 F2=>?_;have pc:=d8 (fp:=[↑s3]) (ZI.mpr U) ho;have hp:(↑s3,o)∈X.pn++(Tl++iz [↑s3] sx.heap):=ZQ _ (ZQ _ pc);show h s2 T2 I2.gE #[m,o,es,ep,(I2.pin _ hp).1,hd,hk] fk (Ne.symm (F2.np _ hp)) #[F2.ex,F2.tb,F2.at_,F2.free,F2.new,F2.nl,F2.nc,λp z=>F2.np p ?_,F2.nf];rcases ZR.mp z with z | z
 .exact Z2 _ z
 .exact ZQ _ (Z2 _ z)
theorem p7{Tl:abL}{O:St}{H':Hp}{s':Ch}{C ea C' T:AC}{dd:Option AC}{v:AT}{use:Option (AT->Sem Unit)}{Q:abK}{acc:AT}(hL:o7 X E0)(I:Inv X Tl O H' s')(hn:∃ m,s'.heap.Ns C m)(fk:fE X Tl H' C)(tC:T≠C)(F:j4 X Tl H' s' ea C' dd T v)(q:E0 (.ref C') dd H'):compPost (model X.prog X.w) X.A X.xe use Q acc C (.error (.ref ea)) s':=by
 let(m,hn):=hn;let(f0,f1,f2,f3,f4,f5):=fk;show#[m,hn,λh' sb cenv _=>?_];have keep:∀ b o,b≠C->s'.heap.get? b=some o->h'.get? b=some o:=λb o hb e=>(sb.2 b hb).trans e;have I8:Inv X Tl O H' { s' with heap:=h' }:=I.turned (t':=s'.toks) keep f0 f1 f3 f4 f5;let(vs,he,h6,h1):=F.ex;let(oT,ts',hT,hdT,h3):=F.tb;have he':=keep _ _ (λz=>by rw[<- z,F.at_] at f0;cases f0) he;have F8:j4 X Tl H' { s' with heap:=h' } ea C' dd T v:=#[#[vs,he',h6,h1],#[oT,ts',keep _ _ tC hT,hdT,h3],F.at_,F.free,F.new,F.nl,F.nc,F.np,F.nf];unfold PySem.passOn;show Db (Os he' U h1 ?_);rw[if_neg (show ¬ ((AT.ref T == AT.none)=true) from by simp)];show Db (CY I8 F8 λs9 I9 F9=>?_);exact wpAny_throw (hL _ _ _ _ _ _ _ _ _ I9 F9 q)
theorem nj{tg elt iter:Da}{ifs:!Da}{pos:Pos}{g:TG}{ti:TT}{te:TE}{Tl:abL}{O:St}{H:Hp}{s:Ch}{it:AC}{fp:!AC}{tn:Nat->Ev->Prop}{J:It}{Q:VK}{E:abK}{RR:AT->AC->Result->Ch->Prop}(S:aT X ts us scope)(hc:X.calm=true)(I:Inv X Tl O H s)(T:Turn X.prog X.w X.K tg J fp it tn)(st:tn 0 s.heap)(hf:∀ b∈fp,fE X Tl H b)(hg:∀ C s H fp,PG (X.comp ts us scope C s H fp) tg g)(qR:∀ C s H fp,Gw (X.comp ts us scope C s H fp) ifs ti)(he:∀ C s H fp,PE (X.ny E0 ts us scope C s H fp) elt te)(q:pN ts.length us O g ti te J H Q)(SR:∀ D C s' H',Inv X Tl O H' s'->(∃ m,s'.heap.Ns C m)->fE X Tl H' C->Q (.ref D) H'->RR (.ref D) C (.ok .next) s')(jQ:X.stack=X.env::X.outer)(nh:X.env.frame=some X.env.locals)(YZ:∀ D C s' H' ea C' dd T,Inv X Tl O H' s'->(∃ m,s'.heap.Ns C m)->fE X Tl H' C->T≠C->j4 X Tl H' s' ea C' dd T (NE X.env.locals)->E0 (.ref C') dd H'->RR (.ref D) C (.error (.ref ea)) s') :
  EQ (model X.prog X.w) X.A (newList []) (λacc s₃=>EQ (model X.prog X.w) X.A (newFunctionEnv scope X.env.globals (fz X.env scope.names []) [] X.env.qual none .none (some X.env)) (λcenv s₄ =>
   codeAny (model X.prog X.w) X.A (.compStart (.ListComp elt [#[tg,iter,ifs,0]] scope pos) 0 (.ref it) acc { cenv with scope:=relabel scope X.env }) (RR acc cenv.locals) s₄) E s₃) E s:=by
 show TD (wpAny_newFunctionEnv S.nc (by intro y hy;simp at hy) (λh₁ hns₁ hsb₁=>?_) S.kind);dsimp only at hns₁ hsb₁ ⊢;have I3:Inv X Tl O (upd H ↑s (.lst [])) { s with heap:=s.heap.push { cls:=.type "list",data:=.seq ([]:!AT).toArray } }:=I.K6 (its:=[]) (ys:=[]) (t':=s.toks) .nil (Z1 _);have Fh:∀ b∈fp,b < ↑s:=λb hb=>by
  let(o,e,_):=T.obj 0 _ st b hb;exact ZK e
 have hf3:∀ b∈fp,fE X Tl (upd H ↑s (.lst [])) b:=λb hb=>by
  let(f0,fr):=hf b hb;exact#[by rw[ai (ZT (Fh b hb))];exact f0,fr]
 generalize hs3:({ s with heap:=s.heap.push { cls:=.type "list",data:=.seq ([]:!AT).toArray } }:Ch)=s3 at I3;have hs3h:s3.heap=s.heap.push { cls:=.type "list",data:=.seq ([]:!AT).toArray }:=by rw[<- hs3]
 have keep:∀ b o,s3.heap.get? b=some o->h₁.get? b=some o:=λb o e=>by
  rw[hs3h] at e;exact hsb₁.extBut b o (ZT (ZK e)) (Zz _ e)
 have keep0:∀ b o,s.heap.get? b=some o->h₁.get? b=some o:=λb o e=>keep b o (by rw[hs3h];exact Zz _ e);let(W,(m0,w0),turn):=q ↑s (I.aD.fresh (ZC _));have hC:(s.heap.push { cls:=.type "list",data:=.seq ([]:!AT).toArray }).objs.size=↑s3:=by rw[hs3h]
 have hfl3:∀ b∈fp,b < ↑s3:=λb hb=>by
  rw[hs3h,aaB];exact Nat.lt_succ_of_lt (Fh b hb)
 have hns3:h₁.Ns ↑s3 (λx=>([]:!(Str×AT)).reverse.lookup x):=by rw[<- hC];exact hns₁
 have I4:∀ t,0 < t->Inv (X.comp ts us scope ↑s3 s3 (upd H ↑s (.lst [])) fp) [] (lift ts.length us O) (upd H ↑s (.lst [])) { s3 with heap:=h₁,toks:=t }:=λt ht=>vU S I3 hf3 hfl3 hns3 keep ht;have FQ:tn 0 h₁:=T.keep 0 _ _ st λb _ o e=>keep0 b o e;have loop:∀ s₄:Ch,(∃ t,0 < t/\s₄={ s3 with heap:=h₁,toks:=t }) ->
   codeAny (model X.prog X.w) X.A (.compLoop (.ListComp elt [#[tg,iter,ifs,0]] scope pos) 0 (.ref it) (.ref ↑s) (compEnvC scope (fz X.env scope.names []) ↑s3 X.env)) (RR (.ref ↑s) ↑s3) s₄:=by
  rintro s₄ ⟨t4,ht4,rfl⟩;have stat:∀ {H':Hp},(∀ b∈fp,H' b=none)->∀ b∈fp,fE (X.comp ts us scope ↑s3 s3 (upd H ↑s (.lst [])) fp) [] H' b:=λ{H'} hn b hb=>by
   have ok:=(I4 1 Nat.one_pos).ok;exact#[hn b hb,(ok.Kl b hb).1,ok.xK b hb,.inl hb,(ok.Kl b hb).2,λp hp=>absurd (show p∈([]:abL) from hp) (by simp)]
  show kJ (λn s'=>∃ i ys H',Inv (X.comp ts us scope ↑s3 s3 (upd H ↑s (.lst [])) fp) [] (lift ts.length us O) H' s'/\tn i s'.heap/\(∀ b∈fp,H' b=none)/\W i n ys H') ?_ m0
   #[0,[],_,I4 t4 ht4,FQ,λb hb=>(hf3 b hb).1,w0]
  rintro n s5 ⟨i,ys,H5,I5,st5,fr5,w5⟩;let(hD,hturn):=turn i n ys H5 w5;rcases hturn with ⟨stop,qn⟩ | ⟨go,hlen,step⟩
  .refine bQ (T.done (X.comp ts us scope ↑s3 s3 (upd H ↑s (.lst [])) fp) U U U hc i [] s5 (lift ts.length us O) H5 _ I5 (stat fr5) st5 stop) λr s6 z9q=>?_;let(hr,I6):=z9q;subst hr;have I7:Inv X Tl O H5 s6:=I3.yB (ch:=fp) I6.os I6.base I6.aD I6.bare λb hb=>by
    let(f0,f1,f2,f3,f4,f5):=hf3 b hb;exact#[f3,f1,f4,f5]
   let(m6,hn6,_):=I6.loc;exact SR _ _ s6 H5 I7 #[m6,hn6] (I3.ud (ZC _) I6.free) qn
  .refine bQ (T.item (X.comp ts us scope ↑s3 s3 (upd H ↑s (.lst [])) fp) U U U hc i [] s5 (lift ts.length us O) H5 _ I5 (stat fr5) st5 go) λr s6 z0q=>?_;let(u,hr,h6):=z0q;subst hr;show bQ h6 λ_ s7 z1q=>?_;let(x,H7,I7,r7,y7,st7,fr7):=z1q;have I7':=I7.pinned (stat fr7) (T.obj _ _ st7);show KM (hg _ _ _ _ _ s7 (lift ts.length us O) H7 x u _ I7' r7 (step x H7 y7)) (λ_ s8 #[O8,H8,I8,kp8,q8]=>?_) λ_ _ z=>False.elim z;show KM (qR _ _ _ _ _ s8 O8 H8 _ I8 q8) (λb s9 #[H9,I9,q9]=>?_) λ_ _ z=>False.elim z;have fin:∀ {s':Ch} {H':Hp} {Jo:!V},Inv (X.comp ts us scope ↑s3 s3 (upd H ↑s (.lst [])) fp) ([]++iz fp s7.heap) O8 H' s'->(∃ m',m' < n/\W (i+1) m' Jo H') ->
     ∃ m,m < n/\∃ i ys H',Inv (X.comp ts us scope ↑s3 s3 (upd H ↑s (.lst [])) fp) [] (lift ts.length us O) H' s'/\tn i s'.heap/\(∀ b∈fp,H' b=none)/\W i m ys H':=λ{s' H' Jo} J' z2q=>by
    let(m',hm,w'):=z2q;show#[m',hm,i+1,Jo,H',J'.gE.weak ?_ kp8,T.keep _ _ _ st7 λb hb o e=>(J'.pin (b,o) (ZQ _ (ZQ _ (d8 hb e)))).1,λb hb=>?_,w']
    .rw[J'.len,I7.len]
    .let(o,e,d):=T.obj _ _ st7 b hb;exact (J'.pin (b,o) (ZQ _ (ZQ _ (d8 hb e)))).2.1
   cases b with
   | false =>
    rw[if_neg ZP] at q9 ⊢;exact fin I9 q9
   | true =>
    rw[if_pos U] at q9 ⊢;show KM (he _ _ _ _ _ s9 O8 H9 _ (I9.kF _) q9) (λyv s10 #[y,H10,I10',r10,hD10,q10]=>?_) λe sx hx=>by
     let(ea,C',dd,T',H',kX,O',rfl,Ix,Fx,qx):=hx;have J0:Inv X Tl O H' sx:=I3.yB (ch:=fp) Ix.os Ix.base Ix.aD Ix.bare λb hb=>by
      let(f0,f1,f2,f3,f4,f5):=hf3 b hb;exact#[f3,f1,f4,f5]
     exact wj I3 J0 Ix Fx hc jQ nh λs2 T2 I2 n2 f2 t2 F2=>YZ _ _ s2 H' ea C' dd T2 I2 n2 f2 t2 F2 qx
    have I10:=I10'.e9;show KM (eA (X:=X.comp ts us scope ↑s3 s3 (upd H ↑s (.lst [])) fp) _ s10 O8 H10 (.ref ↑s) [y] (.ref ↑s) [yv] (λ_ H'=>∃ m',m' < n/\W (i+1) m' (ys++[y]) H') I10 U (.cons r10 .nil) #[_,ys,y,U,U,hD10,hlen,q10]) (λ_ s11 #[_,H11,I11,_,q11]=>?_) λ_ _ z=>False.elim z;exact fin I11 q11
 have e4:({ s with heap:=h₁,toks:=s.toks+([]:!(Str×AT)).length }:Ch)={ s3 with heap:=h₁,toks:=s.toks+([]:!(Str×AT)).length }:=by rw[<- hs3]
 first
  | (rw[e4,hC];exact codeAny_compStart_list (loop _ #[_,I.tk,rfl]) (T.self _ 0 _ _ _ FQ (loop _ #[_,I.tk,rfl])))
  | (have L4:=codeAny_compStart_list (elt:=elt) (target:=tg) (iter:=iter) (ifs:=ifs) (rest:=[]) (scope:=scope) (pos:=pos) (loop _ #[s.toks+([]:!(Str×AT)).length,I.tk,U]) (T.self _ 0 _ _ _ FQ (loop _ #[s.toks+([]:!(Str×AT)).length,I.tk,U]))
     subst hs3;exact L4)
theorem CB{tg elt iter:Da}{ifs:!Da}{pos:Pos}{wi:TI}{g:TG}{ti:TT}{te:TE}(hL:o7 X E0)(jQ:X.stack=X.env::X.outer)(nh:X.env.frame=some X.env.locals)(S:aT X ts us scope)(hc:X.calm=true)(hi:PI X tg iter wi)(hg:∀ C s H fp,PG (X.comp ts us scope C s H fp) tg g)(qR:∀ C s H fp,Gw (X.comp ts us scope C s H fp) ifs ti)(he:∀ C s H fp,PE (X.ny E0 ts us scope C s H fp) elt te)(hs:abR iter X.env:=by intro _;rfl):PE X (.ListComp elt [#[tg,iter,ifs,0]] scope pos) (qA ts.length us wi g ti te):=by
 intro Tl s O H Q I h;rw[eval_ListComp];show wpAny_comprehension_free (use:=none) U hs (fe S.fr) S.kind S.lc (bQ (hi Tl s O H _ I h) λv s1 h1=>bQ h1 λMk s2 h2=>?_);let(it,fp,tn,J,H2,e,I2,T,Dk,f2,q):=h2;subst e;show nj (E0:=E0) (RR:=λacc C=>compPost (model X.prog X.w) X.A X.xe none (EP X Tl O Q) acc C) S hc I2 T Dk f2 hg qR he q ?_ jQ nh λD C s' H' ea C' dd T' I' hn F tC F' q'=>p7 hL I' hn F tC F' q';intro D C s' H' I' hn F q';let(m,hn):=hn;let(f0,f1,f2,f3,f4,f5):=F;show#[m,hn,λh' sb=>?_];have I8:Inv X Tl O H' { s' with heap:=h' }:=I'.turned (t':=s'.toks) (λb o hb e=>(sb.2 b hb).trans e) f0 f1 f3 f4 f5;exact#[.ref D,H',I8,U,q']
theorem Dh{i:Nat}{x:Str}{tg elt iter:Da}{ifs:!Da}{pos px u1:Pos}{wi:TI}{g:TG}{ti:TT}{te:TE}(hL:o7 X E0)(jQ:X.stack=X.env::X.outer)(nh:X.env.frame=some X.env.locals)(hN:X.N.Nodup)(AM:X.N[i]?=some x)(hx:X.env.scope.names.lookup x=some .local)(S:aT X ts us scope)(hc:X.calm=true)(hi:PI X tg iter wi)(hg:∀ C s H fp,PG (X.comp ts us scope C s H fp) tg g)(qR:∀ C s H fp,Gw (X.comp ts us scope C s H fp) ifs ti)(he:∀ C s H fp,PE (X.ny E0 ts us scope C s H fp) elt te)(Fs:(swapsWith (.ListComp elt [#[tg,iter,ifs,0]] scope pos) (some (.Name x px)) u1.line X.env=pure true)⁻¹)(hs:abR iter X.env:=by intro _;rfl):PS X (.Assign [.Name x px] (.ListComp elt [#[tg,iter,ifs,0]] scope pos) u1) (jh (qA ts.length us wi g ti te) (dJ i)):=by
 intro Tl s O H D I h;rw[exec_Assign_Name_used _ _ _ _ Fs];show Db (wpAny_standAt (Db ?_));change EQ _ _ (do let _ <- comprehension (.ListComp elt [#[tg,iter,ifs,0]] scope pos) scope X.env _ (newList []) false (eval iter X.env) (some (assign (.Name x px) X.env))) _ _ s;show Db (KM (wpAny_comprehension_free (use:=some (assign (.Name x px) X.env)) (Q:=λ_ s'=>SP X Tl D .next s') U hs (fe S.fr) S.kind S.lc
  (bQ (hi Tl s O H _ I h) λv s1 h1=>bQ h1 λMk s2 h2=>?_)) (λ_ s' hq=>GM (GM hq)) λ_ _ e=>e)
 let(it,fp,tn,J,H2,e,I2,T,Dk,f2,q):=h2;subst e;show nj (E0:=E0) (RR:=λacc C=>compPost (model X.prog X.w) X.A X.xe (some (assign (.Name x px) X.env)) (λ_ s'=>SP X Tl D .next s') acc C) S hc I2 T Dk f2 hg qR he q ?_ jQ nh λD C s' H' ea C' dd T' I' hn F tC F' q'=>p7 hL I' hn F tC F' q';intro L C s' H' I' hn F q';let(m,hn):=hn;let(f0,f1,f2,f3,f4,f5):=F;change EQ _ _ (assign (.Name x px) X.env (.ref L)) _ _ s';show wpAny_assign_Name (mV I' hN AM (.inl hx) (v:=.ref L) U (λBp I'' hsb=>?_) (.inr hx));let(a,sb,ha):=hsb;have iR:C≠a:=by
  rcases ha with z | z
  .rw[z];exact f1
  .exact λw=>f4 x a z w.symm
 show#[m,hn.sameBut sb iR,λh' sb'=>?_];have I8:Inv X Tl (O.set i (some (.ref L))) H' { Bp with heap:=h' }:=I''.turned (t':=Bp.toks) (λb o hb e=>(sb'.2 b hb).trans e) f0 f1 f3 f4 f5;exact#[_,H',I8,q']
end
end L2
namespace DL
open PySem L2 PyProof.Rows
section
variable{X:Cx}{c:Ent}{E0:XK}{ts:!Str}{us:!Nat}{scope:Scope}{pos:Pos}{tg elt iter:Da}{ifs:!Da}{tx:eQ}{g:qL}{ti:nK}{te:bA}
theorem Fq(hL:o7 X E0)(S:aT X ts us scope)(hc:X.calm=true)(hi:DI X c tg iter tx)(hg:∀ C s H fp,DG (X.comp ts us scope C s H fp) c ts.length tg g)(qR:∀ C s H fp,LS (X.comp ts us scope C s H fp) c ifs ti)(he:∀ C s H fp,DE (X.ny E0 ts us scope C s H fp) c elt te)(jQ:(X.stack=X.env::X.outer)⁻¹)(nh:(X.env.frame=some X.env.locals)⁻¹)(hs:abR iter X.env:=by intro _;rfl):DN X c (.ListComp elt [#[tg,iter,ifs,0]] scope pos) (mE ts.length us tx g ti te) :=
 #[(CB hL jQ nh S hc hi.pi (λC s H fp=>(hg C s H fp).pg) (λC s H fp=>(qR C s H fp).U8) (λC s H fp=>(he C s H fp).pe) hs).imp λ_ _ _=>uv]
theorem Gg{i:Nat}{x:Str}{px u1:Pos}(hL:o7 X E0)(hN:X.N.Nodup)(AM:X.N[i]?=some x)(hx:X.env.scope.names.lookup x=some .local)(S:aT X ts us scope)(hc:X.calm=true)(hi:DI X c tg iter tx)(hg:∀ C s H fp,DG (X.comp ts us scope C s H fp) c ts.length tg g)(qR:∀ C s H fp,LS (X.comp ts us scope C s H fp) c ifs ti)(he:∀ C s H fp,DE (X.ny E0 ts us scope C s H fp) c elt te)(jQ:(X.stack=X.env::X.outer)⁻¹)(nh:(X.env.frame=some X.env.locals)⁻¹)(Fs:(swapsWith (.ListComp elt [#[tg,iter,ifs,0]] scope pos) (some (.Name x px)) u1.line X.env=pure true)⁻¹)(hs:abR iter X.env:=by intro _;rfl):PS X (.Assign [.Name x px] (.ListComp elt [#[tg,iter,ifs,0]] scope pos) u1) (jh (tN X.K c (mE ts.length us tx g ti te)) (dJ i)) :=
 (Dh hL jQ nh hN AM hx S hc hi.pi (λC s H fp=>(hg C s H fp).pg) (λC s H fp=>(qR C s H fp).U8) (λC s H fp=>(he C s H fp).pe) Fs hs).imp λE O H q=>uv q
end
end DL
namespace L2
open PySem PySem.Calls PyProof.Rows PyProof.V PySem.Spec
section
variable{X:Cx}{E:XK}
def Qn(X:Cx)(k:Nat)(f:AC)(sp:Sp):Prop:=∃ fd ps,br X.prog X.w X.K X.mg X.base (cA X.prog X.w) k f fd ps sp/\keepIn X.K (.ref f)=true/\Binds X.K fd ps []
def Hn(X:Cx)(E:XK)(k:Nat)(tf:TE)(t:TA):TE:=λO H Q=>tf O H λv H1=>∃ f sp,v=.ref f/\Qn X k f sp/\t O H1 λvs H2=>sp vs H2 Q E
theorem Bc{k:Nat}{a b e:Da}{es:!Da}{p pos:Pos}{tf:TE}{t:TA}(hx:Passes (cA X.prog X.w) X E)(hr:bF k X.A)(hf:PE X (.Subscript a b p) tf)(ha:PA X (e::es) t)(he:(abN X.env e es)⁻¹)(dI:(abO X.env pos es)⁻¹) :
  PE X (.Call (.Subscript a b p) (e::es) [] pos) (Hn X E k tf t):=by
 intro Tl s O H Q I h;rw[show eval (.Call (.Subscript a b p) (e::es) [] pos) X.env=(do callWith pos (<- eval (.Subscript a b p) X.env) [] (KB pos (Go (e::es) X.env)) (ST pos (SZ [] X.env))) from U];show Db (bQ (hf Tl s O H _ I h) λv s1 #[x,H1,I1,r,f,sp,e1,#[fd,ps,F,hk,hb],q]=>?_);subst e1;cases (show v=AT.ref f from r);show abq (h₀:=X.base) I1.ok.mod.Mb hk (bQ (ha pos Tl s1 O H1 _ I1 q) λus s2 zz=>el2 zz λvs H2 I2 r2 q2=>#[I2.iW,?_]) he dI;exact BU F hr hb .nil hx I2 r2 (by rw[ZM];exact q2)
end
end L2
namespace DL
open PySem L2 PyProof.Rows
section
variable{X:Cx}{c:Ent}{d:AC}{az:!(Str×AT)}
def Vg(d:AC)(az:!(Str×AT)):D->D->(D->Prop)->Prop:=λx y k=>∃ i,x=.str i/\y=.hJ d/\k (.bl (valueAt az i).isSome)
theorem Ou:qI X c (NO d az) (Vg d az):=λM s as O H x y dx dy k Q L rx ry z4r kk=>by
 let(i,e1,e2,hk):=z4r;subst e1;subst e2;exact#[i,rx,ry,kk _ hk M H _ L .refl U]
def Sy(d:AC)(az:!(Str×AT)):D->D->(D->Prop)->Prop:=λx y k=>∃ i f,x=.hJ d/\y=.str i/\valueAt az i=some (.ref f)/\k (.hJ f)
theorem PB:qI X c (Po d az) (Sy d az):=λM s as O H x y dx dy k Q L rx ry z5r kk=>by
 let(i,f,e1,e2,e3,hk):=z5r;subst e1;subst e2;exact#[i,f,rx,ry,e3,kk _ hk M H _ L .refl U]
end
section
variable{X:Cx}{M0:AC->Prop}{H0:Hp}{E:XK}{RX:XD}{p pos:Pos}{a b e:Da}{es:!Da}{tf:bA}{ta:eQ}{k:Nat}
def Fp(X:Cx)(k:Nat)(RX:XD)(tf:bA)(ta:eQ):bA:=λs Q=>tf s λd s1=>∃ f t,d=.hJ f/\Qn X k f (cE X.K t)/\ta s1 λds s2=>t ds (λd=>Q d s2) RX
theorem CN(hp:∀ E':XK,(∀ c dd H',E' c dd H'->E c dd H')->Passes (cA X.prog X.w) X E')(hX:XT E #[.no,M0,H0] RX)(hr:bF k X.A)(hf:DE X #[.no,M0,H0] (.Subscript a b p) tf)(ha:DA X #[.no,M0,H0] (e::es) ta)(he:(abN X.env e es)⁻¹)(dI:(abO X.env pos es)⁻¹) :
  DE X #[.no,M0,H0] (.Call (.Subscript a b p) (e::es) [] pos) (Fp X k RX tf ta) :=
 #[(Bc (E:=λcv dd H'=>∃ C fs M',cv=.ref C/\RX C fs/\Base #[.no,M0,H0] M' H'/\LJ H' dd fs) (hp _ λcv dd H' z9q=>by let(C,fs,M',e,h1,h2,h3):=z9q;subst e;exact hX C fs h1 M' H' dd h2 h3) hr hf.pe ha.pa he dI).imp λO H Q zz=>eF zz λM s as R L q kk =>
   #[M,s,as,_,L,q,λd s1 z2q M1 H1 v L1 E1 r1=>by
    let(f,t,ed,C,q1):=z2q;subst ed;exact#[f,_,r1,C,M1,s1,as,_,L1,q1,λds s2 q2 M2 H2 vs L2 E2 r2 hl=>#[M2,ds,_,RX,L2.base.nF,r2,q2,λd rd M' H' v B rv=>kk d s2 rd M' H' v (L2.after (L2.base.gK B)) ((E1.trans L1.base E2).trans L2.base (Ext.after (L2.base.gK B))) rv,λC fs hx M' H' dd B fa=>#[C,fs,M',U,hx,(L2.after (L2.base.gK B)).base,fa]]]]]
variable{P:Fr}{w:Fa}{K:Frag}{mg:Str->Option AT}{base:Ev}{q:D3}{m:Nat}{sp:Sp}
theorem C4.wX{f:AC}(g:C4 P w K mg base (cA P w) q k sp)(h:mg q.1=some (.ref f))(hk:k<=m):∃ fd ps,br P w K mg base (cA P w) m f fd ps sp/\keepIn K (.ref f)=true/\Binds K fd ps []:=by
 let(f2,fd,J,F,m2,b):=g;rw[h] at m2;cases m2;exact#[fd,_,J.mono hk,F.kp,b]
end
end DL
namespace DL
open PySem L2
theorem Dg{x:Str}(h:qQ x):Gc.strOk x=true:=by
 rcases h with h | rfl
 .exact h.ok
 .decide+kernel
theorem yN{hs:!(Str×!Str)}(hh:FH hs):∀ x∈(hs.map λh=>h.1::h.2).flatten,Gc.strOk x=true:=λx hx=>by
 let(l,hl,hx):=List.mem_flatten.mp hx;let(h,hm,rfl):=Z5.mp hl;rcases ZD.mp hx with rfl | hx
 .exact (hh h hm).1.ok
 .exact ((hh h hm).2 x hx).ok
theorem GX{f:Fm}{n:Nat}(h:wC f n):∀ x∈f.strs,Gc.strOk x=true:=by
 have one:∀ {x:Str},Gc.strOk x=true->∀ y∈[x],Gc.strOk y=true:=λh y hy=>by
  rw[ZI.mp hy];exact h
 cases f with
 | nm x=>exact one h.1.ok
 | num i=>exact λ_ h=>nomatch h
 | op s =>
  show one ?_;rcases h.1 with rfl | rfl | rfl<;>decide+kernel
 | jK=>exact λ_ h=>nomatch h
 | lt x=>exact one h.1.ok
 | mk x=>exact one (show Nm x from h).ok
 | ask x=>exact one h.1.ok
 | jb r hs=>exact λx hx=>(ZD.mp hx).elim (λe=>e▸Dg h.1) (yN h.2.1 x)
 | new r hs=>exact λx hx=>(ZD.mp hx).elim (λe=>e▸Dg h.1) (yN h.2.1 x)
mutual
theorem DQ:∀ t:Tm,t.gg->oV (toD t)=true
 | .node f ks,#[ha,hk]=>by
  have ih:=zy ks hk;have hs:=GX ha;let(l1,l2,l3,l4,l5,l6,l7,l8,l9):=Fw;cases f with
  | nm x =>
   change (Gc.strOk "name"&&(Gc.strOk x&&true))=true;rw[l1,hs x Zx]
   rfl
  | num x =>
   change (Gc.strOk "num"&&(true&&true))=true;rw[l2]
   rfl
  | op x =>
   change (Gc.strOk "op"&&(Gc.strOk x&&fq (toDs ks)))=true;rw[l3,hs x Zx,ih]
   rfl
  | jK =>
   change (Gc.strOk "zero"&&fq (toDs ks))=true;rw[l4,ih]
   rfl
  | lt x =>
   change (Gc.strOk "let"&&(Gc.strOk x&&fq (toDs ks)))=true;rw[l5,hs x Zx,ih]
   rfl
  | mk x =>
   change (Gc.strOk "make"&&(Gc.strOk x&&(fq (toDs ks)&&true)))=true;rw[l6,hs x Zx,ih]
   rfl
  | ask x =>
   let(a,r,rfl):=tV (l:=ks) ha.2;have ih:(oV (toD a)&&fq (toDs r))=true:=ih;rw[ZX] at ih;change (Gc.strOk "ask"&&(oV (toD a)&&(Gc.strOk x&&(fq (toDs r)&&true))))=true;rw[l7,hs x Zx,ih.1,ih.2]
   rfl
  | jb x hd =>
   let(a,r,rfl):=tV (l:=ks) (by rw[ha.2.2];cbv);have ih:(oV (toD a)&&fq (toDs r))=true:=ih;rw[ZX] at ih;change (Gc.strOk "case"&&(oV (toD a)&&(Gc.strOk x&&(fq (cW hd (toDs r))&&true))))=true;rw[l8,hs x Zx,ih.1,qq (λy hy=>hs y (Zw _ hy)) ih.2]
   rfl
  | new x hd =>
   change (Gc.strOk "new"&&(Gc.strOk x&&(fq (cW hd (toDs ks))&&true)))=true;rw[l9,hs x Zx,qq (λy hy=>hs y (Zw _ hy)) ih]
   rfl
theorem zy:∀ ks:!Tm,qK ks->fq (toDs ks)=true
 | [],_=>rfl
 | t::r,h=>by
  change (oV (toD t)&&fq (toDs r))=true;rw[DQ t h.1,zy r h.2]
  rfl
end
end DL
namespace DL
open PySem L2
open PySem.Builtin.Str
theorem Hj(w:!Nat):Txt.rstripChars (cn w) ")"=cn (bY w):=by
 unfold Txt.rstripChars;rw[PyProof.Rows.stripBy_eq];have e1:stripLo (")":Str).cps.contains false (cn w)=0:=rfl;have hf:(λc=>(#v[41]:Array Nat).contains c)=λc=>c == 41:=by
  funext c
  by_cases h:c=41
  .subst h;simp
  .simp[h]
 have hb:=oB w;have hl:=congrArg List.length (List.takeWhile_append_dropWhile (p:=(·== 41)) (l:=w.reverse));rw[ZE,aaE] at hl;have hbl:(bY w).length=(w.reverse.dropWhile (·== 41)).length:=aaE;have e2:stripHi (")":Str).cps.contains true (cn w) 0=(bY w).length:=by
  change (cn w).length - ((((w).drop 0).reverse.takeWhile λc=>(#v[41]:Array Nat).contains c).length)=_;rw[aa1,d4,hf,hbl];cbv
 rw[e1,e2];show g9 ?_;change (w.toArray.extract 0 (bY w).length).toList=bY w;have:(w.toArray.extract 0 (bY w).length).toList=w.take (bY w).length:=by simp
 rw[this]
 conv=>lhs;rw[hb]
 have:∀ (a b:!Nat),(a++b).take a.length=a:=λa b=>by simp
 rw[<- hb];exact (congrArg (List.take (bY w).length) hb).trans (this _ _)
theorem Fg(w:!Nat):Txt.startswith (cn w) "("=decide (w.head?=some 40):=by
 cases w with
 | nil=>decide
 | cons a l =>
  rw[Fu];simp
theorem JS{w:!Nat}(h:w.head?=some 40):Txt.slice (cn w) (some 1) none=cn w.tail:=by
 cases w with
 | nil=>cases h
 | cons a l=>exact IS a l
theorem vk(w:!Nat):(bY w).length<=w.length:=by
 have:=congrArg List.length (oB w);rw[ZE] at this;cbv
theorem wB{w:!Nat}{c:Nat}(h:c∈bY w):c∈w:=by
 rw[oB w];exact Z2 _ h
theorem tF{x:Str}:Gc.strOk x=true↔∀ c∈cd x,decide (c < 0x110000)=true:=by
 unfold Gc.strOk;rw[<- Array.all_toList];exact ZW
theorem Cp:∀ {a:!(!Nat)} {x:!Nat},x∈a->∀ c∈x,c∈ba a
 | y::a,x,h,c,hc=>by
  change c∈y++a.flatMap (32::·);rcases ZD.mp h with rfl | h
  .exact Z2 _ hc
  .exact ZQ _ (aaQ.mpr #[x,h,Zw _ hc])
end DL
namespace DL
open PySem L2
theorem iu:∀ {ks:!Tm},qK ks->∀ t∈ks,t.gg
 | [],_,t,h=>(nomatch h)
 | k::ks,h,t,ht=>(ZD.mp ht).elim (λe=>e▸h.1) (iu h.2 t)
theorem BM{f:Fm}{ks:!Tm}(h:wC f ks.length):Cq f ks=(cf f ks).flatMap El.ws:=by
 cases f with
 | ask x =>
  cases ks with
  | nil=>exact absurd h.2 ()
  | cons a r=>rw[Cq,cf,ZA,ZA,aam,aac,jg];rfl
 | jb r hs =>
  cases ks with
  | nil=>exact absurd h.2.2 (by simp)
  | cons a js=>rw[Cq,cf,ZA,ZA,ZA,aam,aac,yj];rfl
 | lt x=>rw[Cq,cf,ZA,jg];rfl
 | mk x=>rw[Cq,cf,ZA,jg];rfl
 | new k hs=>rw[Cq,cf,ZA,yj];rfl
 | nm x=>simp only[Cq];exact jg ks
 | num x=>simp only[Cq];exact jg ks
 | op x=>simp only[Cq];exact jg ks
 | jK=>simp only[Cq];exact jg ks
theorem rh{f:Fm}{n:Nat}(h:wC f n):n9 (cd (cV f)):=by
 cases f with
 | nm x=>exact f7 h.1
 | num i=>exact eL h.1.1
 | op s=>rcases h.1 with rfl | rfl | rfl<;>decide
 | jK=>exact (by decide:n9 (cd "zero"))
 | lt x=>exact (by decide:n9 (cd "let"))
 | mk x=>exact (by decide:n9 (cd "make"))
 | ask x=>exact (by decide:n9 (cd "ask"))
 | jb r hs=>exact (by decide:n9 (cd "case"))
 | new k hs=>exact (by decide:n9 (cd "new"))
theorem qG:∀ {hs:!(Str×!Str)} {ks js:!Tm},FH hs->(∀ t∈ks,t∈js)->∀ e∈b4 hs ks,Bh js e
 | [],_,_,_,_,e,he=>by simp[b4] at he
 | _::_,[],_,_,_,e,he=>by simp[b4] at he
 | h::hs,k::ks,js,hh,hk,e,he=>by
  let(a,c):=hh h Zx;rw[b4] at he;rcases ZD.mp he with rfl | he
  .exact (by decide:n9 (cd "|"))
  .rcases ZD.mp he with rfl | he
   .exact f7 a
   .rcases ZR.mp he with he | he
    .let(z,hz,rfl):=Z5.mp he;exact f7 (c z hz)
    .rcases ZD.mp he with rfl | he
     .exact (by decide:n9 (cd ":"))
     .rcases ZD.mp he with rfl | he
      .exact hk k Zx
      .exact qG (λx hx=>hh x (Zw _ hx)) (λt ht=>hk t (Zw _ ht)) e he
theorem tK{f:Fm}{ks:!Tm}(h:wC f ks.length)(hw:f.w=1):(∀ e∈cf f ks,Bh ks e)/\cf f ks≠[]:=by
 have hm:∀ (js ks:!Tm),(∀ t∈ks,t∈js)->∀ e∈ks.map El.k,Bh js e:=λjs ks hk e he=>by
  let(t,ht,rfl):=Z5.mp he;exact hk t ht
 have hc:∀ (js:!Tm) (a:El) (l:!El),Bh js a->(∀ e∈l,Bh js e)->∀ e∈a::l,Bh js e:=λjs a l ha hl e he=>by
  rcases ZD.mp he with rfl | he
  .exact ha
  .exact hl e he
 cases f with
 | nm x=>cases hw
 | num x=>cases hw
 | op s =>
  show#[hm ks ks λ_ h=>h,λz=>?_];have:ks.map El.k=[]:=z;have h2:=h.2;rw[abj.mp this] at h2;cases h2
 | jK =>
  show#[hm ks ks λ_ h=>h,λz=>?_];have:ks.map El.k=[]:=z;have h:ks.length=3:=h;rw[abj.mp this] at h;cases h
 | lt x=>exact#[hc _ _ _ (f7 h.1) (hm ks ks λ_ h=>h),by simp[cf]]
 | mk x=>exact#[hc _ _ _ (f7 h) (hm ks ks λ_ h=>h),by simp[cf]]
 | ask x =>
  cases ks with
  | nil=>exact absurd h.2 ()
  | cons a r=>exact#[hc _ _ _ (List.mem_cons_self (a:=a)) (hc _ _ _ (f7 h.1) (hm _ r λt ht=>List.mem_cons_of_mem _ ht)),by simp[cf]]
 | jb r hs =>
  cases ks with
  | nil=>exact absurd h.2.2 (by simp)
  | cons a js=>exact#[hc _ _ _ (List.mem_cons_self (a:=a)) (hc _ _ _ (by decide:n9 (cd "to")) (hc _ _ _ (zB h.1) (qG h.2.1 λt ht=>List.mem_cons_of_mem _ ht))),by simp[cf]]
 | new k hs=>exact#[hc _ _ _ (zB h.1) (qG h.2.1 λt ht=>ht),by simp[cf]]
theorem WN:∀ (m:Nat) (t:Tm),t.size<=m->t.gg->L8 (.k t)
 | 0,t,h,_=>by have:=eG t;cbv
 | m+1,.node f ks,h,#[aD,hg]=>by
  by_cases hw:f.w=0
  .have e1:(Tm.node f ks).ws=[dR f []]:=by rw[Tm.ws,if_pos hw]
   have e2:n9 (dR f [])/\dR f (oo ks)=dR f []:=by
    cases f with
    | nm x=>exact#[f7 aD.1,U]
    | num i=>exact#[eL aD.1.1,U]
    | _=>cases hw
   show#[by change (Tm.node f ks).ws≠[];rw[e1];simp,?_,λx hx=>?_]
   .show ba (Tm.node f ks).ws=(Tm.node f ks).T;rw[e1,Tm.T,jW,if_pos hw,e2.2];simp[ba]
   .have hx:x∈(Tm.node f ks).ws:=hx;rw[e1,ZI] at hx;rw[hx];exact λz=>(e2.1.2 32 z).1 U
  .have hw1:f.w=1:=by cases f<;>first | rfl | exact absurd U hw
   have hkm:∀ t∈ks,L8 (.k t):=λt ht=>WN m t (by
    have:t.size<=dZ ks:=by
     clear h aD hg
     induction ks with
     | nil=>cases ht
     | cons a l ih =>
      change t.size<=a.size+dZ l;rcases ZD.mp ht with rfl | ht
      .cbv
      .have:=ih ht;cbv
    have h:dZ ks+1<=m+1:=h;cbv) (iu hg t ht)
   let(hmok,hmne):=tK aD hw1;let(h3,h4):=Yp (es:=cf f ks) λe he=>by
    have:=hmok e he;cases e with
    | w x =>
     have this:n9 (cd x):=this;exact#[by simp[El.ws],by simp[El.ws,El.T,ba],λy hy=>by rw[show y=cd x from List.mem_singleton.mp hy];exact λz=>(this.2 32 z).1 U]
    | k t=>exact hkm t this
   have hph:=rh aD;have e1:(Tm.node f ks).ws=dm 1 ((40::cd (cV f))::(cf f ks).flatMap El.ws):=by rw[Tm.ws,if_neg hw,BM aD]
   show#[by change (Tm.node f ks).ws≠[];rw[e1];exact oK 1 (by simp),?_,λx hx=>?_]
   .show ba (Tm.node f ks).ws=(Tm.node f ks).T;rw[e1,rl 1 (by simp),ba,h3,Tm.T,jW,if_neg hw,uy aD hw1];simp
   .have hx:x∈(Tm.node f ks).ws:=hx;rw[e1] at hx;show v9 (λy hy=>?_) x hx;rcases ZD.mp hy with rfl | hy
    .intro z;rcases ZD.mp z with z | z
     .cases z
     .exact (hph.2 32 z).1 U
    .exact h4 y hy
theorem Ml{t:Tm}(h:t.gg):t.ws≠[]/\ba t.ws=t.T/\∀ x∈t.ws,32∉x:=WN t.size t (ZC _) h
def oM:Tm->El
 | .node (.nm x) _=>.w x
 | .node (.num i) _=>.w (cR i)
 | t=>.k t
def nE:El->El
 | .w x=>.w x
 | .k t=>oM t
section
open Classical
theorem zH{x:Str}(h:Nm x):ir x=none:=by
 cases e:ir x with
 | none=>rfl
 | some i =>
  let((h0,_),rfl):=gL e;let(n,rfl):=aaC h0;have e2:=Ab n;let(c,r,ec):=List.exists_cons_of_ne_nil (Nat.toDigits_ne_nil (n:=n) (b:=10));have hc:=aaV (b:=10) (n:=n) (c:=c) () () (by rw[ec];exact Zx);unfold Char.isDigit at hc;simp only[Bool.and_eq_true,decide_eq_true_eq] at hc;have h9:c.toNat<=57:=hc.2;have h97:=h.1 c.toNat (show c.toNat∈cd (cR (n:Int)) by rw[e2,ec];exact Zx);cbv
theorem xp{α β:Type}{f:α->Option β}{e:α}{es:!α}{a:β}{as:!β}(h:f e=some a)(k:allI f es=some as):allI f (e::es)=some (a::as):=by
 simp only[allI,h,k]
theorem i0:∀ {t:Tm},t.gg->bo (oM t)=some t
 | .node f ks,h=>by
  cases f with
  | nm x =>
   have e:ks=[]:=aan.mp h.1.2;subst e;change bo (.w x)=_;simp only[bo,zH h.1.1];rw[if_pos h.1.1]
  | num i =>
   have e:ks=[]:=aan.mp h.1.2;subst e;change bo (.w (cR i))=_;simp only[bo,kC h.1.1]
  | _=>rfl
theorem jt:∀ {ks:!Tm},qK ks->allI bo (ks.map oM)=some ks
 | [],_=>rfl
 | t::r,h=>xp (i0 h.1) (jt h.2)
theorem oJ{x:Str}(h:Nm x):eR (.w x)=some x:=if_pos h
theorem zL{x:Str}(h:qQ x):lB (.w x)=some x:=if_pos h
theorem zK:∀ {ns:!Str},(∀ n∈ns,Nm n)->allI eR (ns.map .w)=some ns
 | [],_=>rfl
 | n::ns,h=>xp (oJ (h n Zx)) (zK λm hm=>h m (Zw _ hm))
theorem sO(ks:!Tm):(ks.map El.k).map nE=ks.map oM:=by
 rw[aal]
 rfl
def KW(h:Str×!Str)(k:Tm):!El:=(.w h.1::h.2.map .w)++[.w ":",oM k]
def gJ:!(Str×!Str)->!Tm->!(!El)
 | h::hs,k::ks=>KW h k::gJ hs ks
 | _,_=>[]
theorem qF:∀ (hs:!(Str×!Str)) (ks:!Tm),(b4 hs ks).map nE=(gJ hs ks).flatMap (.w "|"::·)
 | [],_=>by simp[b4,gJ]
 | _::_,[]=>by simp[b4,gJ]
 | h::hs,k::ks=>by
  rw[b4,gJ,ZA,<- qF hs ks,ZG,ZG,ZO,ZG,ZG];have e:(h.2.map El.w).map nE=h.2.map El.w:=by rw[aal];rfl
  rw[e];change .w "|"::.w h.1::(h.2.map El.w++.w ":"::oM k::(b4 hs ks).map nE)=.w "|"::((.w h.1::h.2.map .w)++[.w ":",oM k])++_;simp
theorem Dx{h:Str×!Str}{k:Tm}(hh:Nm h.1/\∀ n∈h.2,Nm n)(hk:k.gg):ic (KW h k)=some (h,k):=by
 unfold ic KW;have e:((El.w h.1::h.2.map El.w)++[El.w ":",oM k]).reverse=oM k::.w ":"::(El.w h.1::h.2.map El.w).reverse:=by simp
 rw[e];change (if (":":Str)=":" then (match allI eR ((El.w h.1::h.2.map El.w).reverse).reverse,bo (oM k) with
  | some (n::ns),some t=>some ((n,ns),t)
  | _,_=>none) else none)=_
 rw[if_pos U,abe,i0 hk];have e2:allI eR (El.w h.1::h.2.map El.w)=some (h.1::h.2):=zK (ns:=h.1::h.2) λn hn=>(ZD.mp hn).elim (λe=>e▸hh.1) (hh.2 n);rw[e2]
theorem p9:∀ {hs:!(Str×!Str)} {ks:!Tm},FH hs->qK ks->ks.length=hs.length->∃ rs,allI ic (gJ hs ks)=some rs/\rs.map (·.1)=hs/\rs.map (·.2)=ks
 | [],[],_,_,_=>#[[],U,U,U]
 | [],_::_,_,_,e=>by cases e
 | _::_,[],_,_,e=>by cases e
 | h::hs,k::ks,hh,hk,e=>by
  let(rs,e1,e2,e3):=p9 (λx hx=>hh x (List.mem_cons_of_mem _ hx)) hk.2 (by simpa using e);exact#[(h,k)::rs,by rw[gJ];exact xp (Dx (hh h Zx) hk.1) e1,by rw[ZG,e2],by rw[ZG,e3]]
theorem pX{x:Str}(h:qQ x):lj (.w x)=false:=by
 change decide (x="|")=false;show decide_eq_false λe=>?_;subst e;rcases h with h | h
 .have:=h.1 124 (show 124∈cd "|" by decide);cbv
 .exact absurd h ()
theorem EB:∀ {t:Tm},t.gg->lj (oM t)=false
 | .node f ks,h=>by
  cases f with
  | nm x=>exact pX (.inl h.1.1)
  | num i =>
   change decide (cR i="|")=false;show decide_eq_false λe=>?_;have h2:=(eL h.1.1.1 (i:=i));let(n,rfl):=aaC h.1.1.1;have e2:=Ab n;rw[e] at e2;have hm:124∈(Nat.toDigits 10 n).map Char.toNat:=by rw[<- e2];decide
   let(c,hc,ec):=Z5.mp hm;have hc:=aaV (b:=10) () () hc;unfold Char.isDigit at hc;simp only[Bool.and_eq_true,decide_eq_true_eq] at hc;have h9:c.toNat<=57:=hc.2;cbv
  | _=>rfl
theorem lP:∀ {a b:!El},(∀ e∈a,lj e=false)->aR (a++b)=(a++(aR b).1,(aR b).2)
 | [],_,_=>rfl
 | e::a,b,h=>by
  rw[aad,aR,if_neg (by rw[h e Zx];decide),lP λx hx=>h x (Zw _ hx)]
  rfl
theorem qu:∀ {gs:!(!El)},(∀ g∈gs,∀ e∈g,lj e=false)->aR (gs.flatMap (.w "|"::·))=([],gs)
 | [],_=>rfl
 | g::gs,h=>by
  rw[ZA,aad,aR,if_pos (show lj (.w "|")=true by decide+kernel),lP (h g Zx),qu λx hx=>h x (Zw _ hx),ZM]
theorem uw:∀ {hs:!(Str×!Str)} {ks:!Tm},FH hs->qK ks->∀ g∈gJ hs ks,∀ e∈g,lj e=false
 | [],_,_,_,g,hg=>by simp[gJ] at hg
 | _::_,[],_,_,g,hg=>by simp[gJ] at hg
 | h::hs,k::ks,hh,hk,g,hg=>by
  rw[gJ] at hg;rcases ZD.mp hg with rfl | hg
  .intro e he;let(a,b):=hh h Zx;rcases ZR.mp he with he | he
   .rcases ZD.mp he with rfl | he
    .exact pX (.inl a)
    .let(n,hn,rfl):=Z5.mp he;exact pX (.inl (b n hn))
   .rcases ZD.mp he with rfl | he
    .decide+kernel
    .rw[ZI.mp he];exact EB hk.1
  .exact uw (λx hx=>hh x (Zw _ hx)) hk.2 g hg
theorem R4{f:Fm}{ks:!Tm}(h:wC f ks.length)(hw:f.w=1)(hk:qK ks):gF (cV f) ((cf f ks).map nE)=some (.node f ks):=by
 cases f with
 | nm x=>cases hw
 | num x=>cases hw
 | op s =>
  change gF s ((ks.map El.k).map nE)=_;unfold gF;rw[if_pos h.1,sO,Zy,if_pos h.2,jt hk]
  rfl
 | jK =>
  change gF "zero" ((ks.map El.k).map nE)=_;unfold gF;rw[if_neg (-()),if_pos U,sO,Zy,if_pos (show ks.length=3 from h),jt hk]
  rfl
 | lt x =>
  let(a,b,rfl):=FG (l:=ks) h.2;change gF "let" (.w x::[oM a,oM b])=_;unfold gF;rw[if_neg (-()),if_neg (-()),if_pos U];simp only[oJ h.1,show allI bo [oM a,oM b]=some [a,b] from jt hk]
 | mk x =>
  change gF "make" (.w x::(ks.map El.k).map nE)=_;unfold gF;rw[if_neg (-()),if_neg (-()),if_neg (-()),if_pos U,sO];simp only[oJ h,jt hk]
 | ask x =>
  cases ks with
  | nil=>exact absurd h.2 ()
  | cons a r =>
   change gF "ask" (oM a::.w x::(r.map El.k).map nE)=_;unfold gF;rw[if_neg (-()),if_neg (-()),if_neg (-()),if_neg (-()),if_pos U,sO];simp only[i0 hk.1,oJ h.1,jt hk.2]
 | jb r hs =>
  cases ks with
  | nil=>exact absurd h.2.2 (by simp)
  | cons a js =>
   let(rs,e1,e2,e3):=p9 h.2.1 hk.2 (by have:=h.2.2;simpa using this);have ep:aR ([oM a,.w "to",.w r]++(b4 hs js).map nE)=([oM a,.w "to",.w r],gJ hs js):=by
    rw[lP,qF,qu (uw h.2.1 hk.2),ZM];intro e he;simp only[List.mem_cons,List.not_mem_nil,or_false] at he;rcases he with rfl | rfl | rfl
    .exact EB hk.1
    .decide+kernel
    .exact pX h.1
   change gF "case" ([oM a,.w "to",.w r]++(b4 hs js).map nE)=_;unfold gF;rw[if_neg (-()),if_neg (-()),if_neg (-()),if_neg (-()),if_neg (-()),if_pos U,ep];simp only[e1,i0 hk.1,zL h.1,e2,e3]
   rfl
 | new k hs =>
  let(rs,e1,e2,e3):=p9 h.2.1 hk h.2.2;have ep:aR ([.w k]++(b4 hs ks).map nE)=([.w k],gJ hs ks):=by
   rw[lP,qF,qu (uw h.2.1 hk),ZM];intro e he;rw[ZI.mp he];exact pX h.1
  change gF "new" ([.w k]++(b4 hs ks).map nE)=_;unfold gF;rw[if_neg (-()),if_neg (-()),if_neg (-()),if_neg (-()),if_neg (-()),if_neg (-()),if_pos U,ep];simp only[e1,zL h.1,e2,e3]
end
theorem De{x:!Nat}(h:n9 x)(n:Nat):bY (x++List.replicate n 41)=x:=by
 unfold bY;rw[List.reverse_append,List.reverse_replicate];have e1:∀ (n:Nat) (l:!Nat),(List.replicate n 41++l).dropWhile (·== 41)=l.dropWhile (·== 41):=λn l=>by
  induction n with
  | zero=>rfl
  | succ n ih =>
   rw[List.replicate_succ,aad,List.dropWhile_cons_of_pos ()];exact ih
 rw[e1];cases hx:x.reverse with
 | nil=>exact absurd (List.reverse_eq_nil_iff.mp hx) h.1
 | cons c r =>
  have hc:c≠41:=(h.2 c (abB.mp (by rw[hx];exact Zx))).2.2;rw[List.dropWhile_cons_of_neg (by simpa using hc),<- hx,List.reverse_reverse]
def GI(e:El):Prop:=e.ws≠[]/\∀ (n:Nat) (f:!El) (r:!(!El)) (rest:!(!Nat)),dQ (dm n e.ws++rest) (f::r)=(bS n ((f++[nE e])::r)).bind (dQ rest)
theorem Ij{x:!Nat}(h:n9 x)(n:Nat)(f:!El)(r:!(!El))(rest:!(!Nat)):dQ ((x++List.replicate n 41)::rest) (f::r)=(bS n ((f++[.w (cn x)])::r)).bind (dQ rest):=by
 have e:stepI (x++List.replicate n 41) (f::r)=bS n ((f++[.w (cn x)])::r):=by
  unfold stepI;cases x with
  | nil=>exact absurd U h.1
  | cons c x =>
   rw[if_neg (by
    change ¬ some c=some 40;intro z;cases z;exact (h.2 40 Zx).2.1 U),De h]
   dsimp only;have el:((c::x)++List.replicate n 41).length - (c::x).length=n:=by rw[ZE,abD];cbv
   exact congrArg (bS · ((f++[.w (cn (c::x))])::r)) el
 rw[dQ,e];cases bS n ((f++[.w (cn x)])::r)<;>rfl
theorem Zi{x:Str}(h:n9 (cd x)):GI (.w x):=#[by simp[El.ws],λn f r rest=>by
 have:=Ij h n f r rest;rw[gk] at this;exact this]
theorem VD:∀ (es:!El),es≠[]->(∀ e∈es,GI e)->es.flatMap El.ws≠[]/\∀ (n:Nat) (f:!El) (r:!(!El)) (rest:!(!Nat)),dQ (dm n (es.flatMap El.ws)++rest) (f::r)=(bS n ((f++es.map nE)::r)).bind (dQ rest)
 | [],h,_=>absurd U h
 | [e],_,hg=>by
  let(h1,h2):=hg e Zx;show#[by simpa using h1,λn f r rest=>?_];have:=h2 n f r rest;simpa using this
 | e::e2::es,_,hg=>by
  let(h1,h2):=hg e Zx;let(h3,h4):=VD (e2::es) (by simp) λx hx=>hg x (List.mem_cons_of_mem _ hx);show#[by rw[ZA];exact λz=>h1 (List.append_eq_nil_iff.mp z).1,λn f r rest=>?_];rw[ZA,qE n _ h3,Z4,<- mU e.ws,h2 0 f r];change dQ (dm n _++rest) ((f++[nE e])::r)=_;rw[h4 n (f++[nE e]) r rest,Z4]
  rfl
theorem WJ:∀ (m:Nat) (t:Tm),t.size<=m->t.gg->GI (.k t)
 | 0,t,h,_=>by have:=eG t;cbv
 | m+1,.node f ks,h,#[aD,hg]=>by
  by_cases hw:f.w=0
  .have e1:(Tm.node f ks).ws=[dR f []]:=by rw[Tm.ws,if_pos hw]
   have e2:n9 (dR f [])/\oM (.node f ks)=.w (cn (dR f [])):=by
    cases f with
    | nm x=>exact#[f7 aD.1,congrArg El.w (gk x).symm]
    | num i=>exact#[eL aD.1.1,congrArg El.w (gk (cR i)).symm]
    | _=>cases hw
   show#[by change (Tm.node f ks).ws≠[];rw[e1];simp,λn g r rest=>?_];change dQ (dm n (Tm.node f ks).ws++rest) (g::r)=(bS n ((g++[oM (.node f ks)])::r)).bind (dQ rest);rw[e1,e2.2];exact Ij e2.1 n g r rest
  .have hw1:f.w=1:=by cases f<;>first | rfl | exact absurd U hw
   have hkm:∀ t∈ks,GI (.k t):=λt ht=>WJ m t (by
    have:t.size<=dZ ks:=by
     clear h aD hg
     induction ks with
     | nil=>cases ht
     | cons a l ih =>
      change t.size<=a.size+dZ l;rcases ZD.mp ht with rfl | ht
      .cbv
      .have:=ih ht;cbv
    have h:dZ ks+1<=m+1:=h;cbv) (iu hg t ht)
   let(hmok,hmne):=tK aD hw1;let(h3,h4):=VD (cf f ks) hmne λe he=>by
    have:=hmok e he;cases e with
    | w x=>exact Zi this
    | k t=>exact hkm t this
   have e1:(Tm.node f ks).ws=dm 1 ((40::cd (cV f))::(cf f ks).flatMap El.ws):=by rw[Tm.ws,if_neg hw,BM aD]
   have e2:oM (.node f ks)=.k (.node f ks):=by cases f<;>first | rfl | exact absurd U hw
   show#[by change (Tm.node f ks).ws≠[];rw[e1];exact oK 1 (by simp),λn g r rest=>?_];change dQ (dm n (Tm.node f ks).ws++rest) (g::r)=(bS n ((g++[oM (.node f ks)])::r)).bind (dQ rest);rw[e1,rO,show (40::cd (cV f))::(cf f ks).flatMap El.ws=[40::cd (cV f)]++(cf f ks).flatMap El.ws from U,qE _ _ h3,Z4];change dQ ((40::cd (cV f))::(dm (1+n) _++rest)) (g::r)=_;have e3:stepI (40::cd (cV f)) (g::r)=some ([.w (cV f)]::g::r):=by
    unfold stepI;rw[if_pos (show (40::cd (cV f)).head?=some 40 from U),aac,gk]
   rw[dQ,e3];change dQ (dm (1+n) _++rest) ([.w (cV f)]::g::r)=_;rw[h4,Nat.add_comm,e2];change (bS (n+1) ((.w (cV f)::(cf f ks).map nE)::g::r)).bind (dQ rest)=_;rw[bS,R4 aD hw1 hg]
theorem P5{t:Tm}(h:t.gg):Az t.ws=some t:=by
 have:=(WJ t.size t (ZC _) h).2 0 [] [] [];rw[mU,ZM] at this;unfold Az;have e:dQ t.ws [[]]=some [[oM t]]:=this;rw[e];exact i0 h
mutual
noncomputable def Tm.tk:Tm->!Str
 | .node f ks=>if f.w=0 then [cn (dR f [])] else ("(":Str)::cV f::(iJ f ks++[(")":Str)])
noncomputable def iJ:Fm->!Tm->!Str
 | .lt x,ks=>x::kA ks
 | .mk c,ks=>c::kA ks
 | .ask f,[]=>[f]
 | .ask f,t::ks=>t.tk++f::kA ks
 | .jb r hs,[]=>[r]
 | .jb r hs,t::ks=>t.tk++("to":Str)::r::lT hs ks
 | .new k hs,ks=>k::lT hs ks
 | _,ks=>kA ks
noncomputable def kA:!Tm->!Str
 | []=>[]
 | t::ks=>t.tk++kA ks
noncomputable def lT:!(Str×!Str)->!Tm->!Str
 | h::hs,k::ks=>("|":Str)::h.1::(h.2++(":":Str)::(k.tk++lT hs ks))
 | _,_=>[]
end
section
open Classical
abbrev PR(α:Type):=Option (α×!Str)
def seen(ws:!Str):Str:=ws.headD ""
theorem fG{ws:!Str}{x:Str}(h:seen ws=x)(hx:x≠""):ws=x::ws.tail:=by
 cases ws with
 | nil=>exact absurd h.symm hx
 | cons a r =>
  have h:a=x:=h;rw[h]
  rfl
def aE{α:Type}(rd:!Str->PR α)(en:Str):Nat->!Str->PR (!α)
 | 0,_=>none
 | m+1,ws=>if seen ws=en then some ([],ws) else (rd ws).bind λa=>(aE rd en m a.2).bind λb=>some (a.1::b.1,b.2)
noncomputable def bT (ws:!Str):PR Str:=if Nm (seen ws) then some (seen ws,ws.tail) else none
noncomputable def fW (ws:!Str):PR Str:=if qQ (seen ws) then some (seen ws,ws.tail) else none
def gT(x:Str)(ws:!Str):PR Unit:=if seen ws=x then some (Unit.unit,ws.tail) else none
noncomputable def kh (rd:!Str->PR Tm) (ws:!Str):PR ((Str×!Str)×Tm) :=
 (bT ws).bind λh=>(aE bT ":" (h.2.length+1) h.2).bind λns=>(rd ns.2.tail).bind λt=>some (((h.1,ns.1),t.1),t.2)
noncomputable def aQ (rd:!Str->PR Tm):Nat->!Str->PR (!((Str×!Str)×Tm))
 | 0,_=>none
 | m+1,ws=>if seen ws="|" then (kh rd ws.tail).bind λa=>(aQ rd m a.2).bind λb=>some (a.1::b.1,b.2) else some ([],ws)
def ky(t:Tm)(ws:!Str):PR Tm:=(gT ")" ws).bind λa=>some (t,a.2)
noncomputable def cK (rd:!Str->PR Tm) (h:Str) (ws:!Str):PR Tm :=
 if h="+"\/h="-"\/h="*" then (rd ws).bind λa=>(rd a.2).bind λb=>ky (.node (.op h) [a.1,b.1]) b.2
 else if h="zero" then (rd ws).bind λa=>(rd a.2).bind λb=>(rd b.2).bind λc=>ky (.node .jK [a.1,b.1,c.1]) c.2
 else if h="let" then (bT ws).bind λx=>(rd x.2).bind λa=>(rd a.2).bind λb=>ky (.node (.lt x.1) [a.1,b.1]) b.2
 else if h="make" then (bT ws).bind λx=>(aE rd ")" (x.2.length+1) x.2).bind λk=>ky (.node (.mk x.1) k.1) k.2
 else if h="ask" then (rd ws).bind λa=>(bT a.2).bind λx=>(aE rd ")" (x.2.length+1) x.2).bind λk=>ky (.node (.ask x.1) (a.1::k.1)) k.2
 else if h="new" then (fW ws).bind λx=>(aQ rd (x.2.length+1) x.2).bind λr=>ky (.node (.new x.1 (r.1.map (·.1))) (r.1.map (·.2))) r.2
 else if h="case" then (rd ws).bind λa=>(gT "to" a.2).bind λu=>(fW u.2).bind λx=>(aQ rd (x.2.length+1) x.2).bind λr=>ky (.node (.jb x.1 (r.1.map (·.1))) (a.1::r.1.map (·.2))) r.2
 else none
noncomputable def aw:Nat->!Str->PR Tm
 | 0,_=>none
 | n+1,ws=>match ir (seen ws) with
  | some i=>some (.node (.num i) [],ws.tail)
  | none=>if seen ws="(" then cK (aw n) (seen ws.tail) ws.tail.tail else if Nm (seen ws) then some (.node (.nm (seen ws)) [],ws.tail) else none
def C8(rd:!Str->PR Tm):Prop:=∀ ws t r,rd ws=some (t,r)->t.gg/\ws=t.tk++r
theorem lG{α β:Type}{o:Option α}{f:α->Option β}{b:β}(h:o.bind f=some b):∃ a,o=some a/\f a=some b:=Option.bind_eq_some_iff.mp h
theorem gH{ws r:!Str}{x:Str}(h:bT ws=some (x,r)):Nm x/\ws=x::r:=by
 unfold bT at h;by_cases q:Nm (seen ws)
 .rw[if_pos q] at h;cases h;exact#[q,fG U λe=>by rw[e] at q;exact absurd q.2.1 ()]
 .rw[if_neg q] at h;cases h
theorem pE{ws r:!Str}{x:Str}(h:fW ws=some (x,r)):qQ x/\ws=x::r:=by
 unfold fW at h;by_cases q:qQ (seen ws)
 .rw[if_pos q] at h;cases h;show#[q,fG U λe=>?_];rw[e] at q;rcases q with q | q
  .exact absurd q.2.1 ()
  .exact absurd q (-())
 .rw[if_neg q] at h;cases h
theorem qk{ws r:!Str}{x:Str}{u:Unit}(hx:x≠"")(h:gT x ws=some (u,r)):ws=x::r:=by
 unfold gT at h;by_cases q:seen ws=x
 .rw[if_pos q] at h;cases h;exact fG q hx
 .rw[if_neg q] at h;cases h
theorem ql{rd:!Str->PR Tm}(hr:C8 rd):∀ {m:Nat} {ws r:!Str} {ks:!Tm},aE rd ")" m ws=some (ks,r)->qK ks/\ws=kA ks++r
 | 0,_,_,_,h=>by cases h
 | m+1,ws,r,ks,h=>by
  rw[aE] at h;by_cases q:seen ws=")"
  .rw[if_pos q] at h;cases h;exact#[trivial,by rw[kA];rfl]
  .rw[if_neg q] at h;let(a,h1,h2):=lG h;let(b,h3,h4):=lG h2;cases h4;let(g1,g2):=hr ws a.1 a.2 h1;let(g3,g4):=ql hr h3;exact#[#[g1,g3],by rw[g2,kA,Z4,<- g4]]
theorem vO:∀ {m:Nat} {ws r:!Str} {ns:!Str},aE bT ":" m ws=some (ns,r)->(∀ n∈ns,Nm n)/\ws=ns++r/\seen r=":"
 | 0,_,_,_,h=>by cases h
 | m+1,ws,r,ks,h=>by
  rw[aE] at h;by_cases q:seen ws=":"
  .rw[if_pos q] at h;cases h;exact#[λ_ h=>(nomatch h),U,q]
  .rw[if_neg q] at h;let(a,h1,h2):=lG h;let(b,h3,h4):=lG h2;cases h4;let(g1,g2):=gH h1;let(g3,g4,g5):=vO h3;exact#[λn hn=>(ZD.mp hn).elim (λe=>e▸g1) (g3 n),by rw[g2,aad,<- g4],g5]
theorem yC{rd:!Str->PR Tm}(hr:C8 rd){ws r:!Str}{x:(Str×!Str)×Tm}(h:kh rd ws=some (x,r)):(Nm x.1.1/\∀ n∈x.1.2,Nm n)/\x.2.gg/\ws=x.1.1::(x.1.2++(":":Str)::(x.2.tk++r)):=by
 unfold kh at h;let(a,h1,h2):=lG h;let(b,h3,h4):=lG h2;let(c,h5,h6):=lG h4;cases h6;let(g1,g2):=gH h1;let(g3,g4,g5):=vO h3;let(g6,g7):=hr _ c.1 c.2 h5;have e:=fG g5 (-());exact#[#[g1,g3],g6,by rw[g2,g4,e,g7]]
theorem mC{rd:!Str->PR Tm}(hr:C8 rd):∀ {m:Nat} {ws r:!Str} {rs:!((Str×!Str)×Tm)},aQ rd m ws=some (rs,r)->FH (rs.map (·.1))/\qK (rs.map (·.2))/\ws=lT (rs.map (·.1)) (rs.map (·.2))++r
 | 0,_,_,_,h=>by cases h
 | m+1,ws,r,rs,h=>by
  rw[aQ] at h;by_cases q:seen ws="|"
  .rw[if_pos q] at h;let(a,h1,h2):=lG h;let(b,h3,h4):=lG h2;cases h4;let(g1,g2,g3):=yC hr h1;let(g4,g5,g6):=mC hr h3;have e:=fG q (-());show#[λx hx=>(ZD.mp hx).elim (λe=>e▸g1) (g4 x),#[g2,g5],?_];rw[e,g3,ZG,ZG,lT,g6];simp
  .rw[if_neg q] at h;cases h;exact#[λ_ h=>(nomatch h),trivial,by simp[lT]]
theorem ig{t u:Tm}{ws r:!Str}(h:ky t ws=some (u,r)):u=t/\ws=(")":Str)::r:=by
 let(a,h1,h2):=lG h;cases h2;exact#[U,qk (-()) h1]
theorem yD{f:Fm}{ks:!Tm}(hw:f.w=1):(Tm.node f ks).tk=("(":Str)::cV f::(iJ f ks++[(")":Str)]):=by
 rw[Tm.tk,if_neg (by rw[hw];decide)]
theorem BO{rd:!Str->PR Tm}(hr:C8 rd){x:Str}{ws r:!Str}{t:Tm}(h:cK rd x ws=some (t,r)):t.gg/\("(":Str)::x::ws=t.tk++r:=by
 have key:∀ (f:Fm) (ks:!Tm),f.w=1->wC f ks.length->qK ks->x=cV f->ws=iJ f ks++(")":Str)::r->(Tm.node f ks).gg/\("(":Str)::x::ws=(Tm.node f ks).tk++r:=λf ks hw h1 h2 h3 h4=>#[#[h1,h2],by rw[yD hw,h3,h4];simp];unfold cK at h;split at h
 .rename_i hx
  let(a,h1,h):=lG h;let(b,h2,h):=lG h;let(rfl,e):=ig h;let(g1,g2):=hr _ a.1 a.2 h1;let(g3,g4):=hr _ b.1 b.2 h2;exact key (.op x) _ U #[hx,U] #[g1,g3,trivial] rfl (by rw[g2,g4,e];simp[iJ,kA])
 split at h
 .rename_i hx
  let(a,h1,h):=lG h;let(b,h2,h):=lG h;let(c,h3,h):=lG h;let(rfl,e):=ig h;let(g1,g2):=hr _ a.1 a.2 h1;let(g3,g4):=hr _ b.1 b.2 h2;let(g5,g6):=hr _ c.1 c.2 h3;exact key .jK _ U U #[g1,g3,g5,trivial] hx (by rw[g2,g4,g6,e];simp[iJ,kA])
 split at h
 .rename_i hx
  let(n,h0,h):=lG h;let(a,h1,h):=lG h;let(b,h2,h):=lG h;let(rfl,e):=ig h;let(n1,n2):=gH h0;let(g1,g2):=hr _ a.1 a.2 h1;let(g3,g4):=hr _ b.1 b.2 h2;exact key (.lt n.1) _ U #[n1,U] #[g1,g3,trivial] hx (by rw[n2,g2,g4,e];simp[iJ,kA])
 split at h
 .rename_i hx
  let(n,h0,h):=lG h;let(k,h1,h):=lG h;let(rfl,e):=ig h;let(n1,n2):=gH h0;let(g1,g2):=ql hr h1;exact key (.mk n.1) _ U n1 g1 hx (by rw[n2,g2,e];simp[iJ])
 split at h
 .rename_i hx
  let(a,h1,h):=lG h;let(n,h0,h):=lG h;let(k,h2,h):=lG h;let(rfl,e):=ig h;let(g1,g2):=hr _ a.1 a.2 h1;let(n1,n2):=gH h0;let(g3,g4):=ql hr h2;exact key (.ask n.1) _ U #[n1,by simp] #[g1,g3] hx (by rw[g2,n2,g4,e];simp[iJ])
 split at h
 .rename_i hx
  let(n,h0,h):=lG h;let(k,h2,h):=lG h;let(rfl,e):=ig h;let(n1,n2):=pE h0;let(g3,g4,g5):=mC hr h2;exact key (.new n.1 _) _ U #[n1,g3,by simp] g4 hx (by rw[n2,g5,e];simp[iJ])
 split at h
 .rename_i hx
  let(a,h1,h):=lG h;let(u,hu,h):=lG h;let(n,h0,h):=lG h;let(k,h2,h):=lG h;let(rfl,e):=ig h;let(g1,g2):=hr _ a.1 a.2 h1;have u2:=qk (-()) hu;let(n1,n2):=pE h0;let(g3,g4,g5):=mC hr h2;exact key (.jb n.1 _) _ U #[n1,g3,by simp] #[g1,g4] hx (by rw[g2,u2,n2,g5,e];simp[iJ])
 .cases h
theorem lC:∀ n:Nat,C8 (aw n)
 | 0=>λ_ _ _ h=>by cases h
 | n+1=>λws t r h=>by
  rw[aw] at h;split at h
  .rename_i i hi
   cases h;let(h1,h2):=gL hi;show#[#[#[h1,U],trivial],?_];have e:(Tm.node (.num i) []).tk=[cR i]:=by rw[Tm.tk,if_pos (show (Fm.num i).w=0 from U)];change [cn (cd (cR i))]=_;rw[gk]
   rw[e];show fG h2 λz=>?_;have:=(eL (i:=i) h1.1).1;rw[z] at this;exact this U
  .split at h
   .rename_i hq
    let(g1,g2):=BO (lC n) h;show#[g1,?_];have e:=fG hq (-());rw[e];cases hw:ws.tail with
    | nil =>
     rw[hw] at h g2;exfalso;have hb:cK (aw n) (seen []) [].tail=none:=by
      unfold cK;rw[show seen []="" from U,if_neg (-()),if_neg (-()),if_neg (-()),if_neg (-()),if_neg (-()),if_neg (-()),if_neg (-())]
     rw[hb] at h;cases h
    | cons a b =>
     rw[hw] at g2;exact g2
   .split at h
    .rename_i hn
     cases h;show#[#[#[hn,U],trivial],?_];have e:(Tm.node (.nm (seen ws)) []).tk=[seen ws]:=by rw[Tm.tk,if_pos (show (Fm.nm (seen ws)).w=0 from U)];change [cn (cd (seen ws))]=_;rw[gk]
     rw[e];exact fG U λz=>by rw[z] at hn;exact absurd hn.2.1 ()
    .cases h
end
section
open Classical
theorem kG{x:Str}(h:Nm x)(r:!Str):bT (x::r)=some (x,r):=if_pos h
theorem yx{x:Str}(h:qQ x)(r:!Str):fW (x::r)=some (x,r):=if_pos h
theorem zw(x:Str)(r:!Str):gT x (x::r)=some (Unit.unit,r):=if_pos U
theorem ki(t:Tm)(r:!Str):ky t (")"::r)=some (t,r):=by
 unfold ky;rw[zw]
 rfl
def PY(rd:!Str->PR Tm)(t:Tm):Prop:=∀ r,rd (t.tk++r)=some (t,r)
theorem ow:∀ {t:Tm},t.gg->∃ c r,t.tk=c::r/\c≠")"
 | .node f ks,h=>by
  by_cases hw:f.w=0
  .refine#[_,_,by rw[Tm.tk,if_pos hw],λe=>?_];have e2:n9 (dR f []):=by
    cases f with
    | nm x=>exact f7 h.1.1
    | num i=>exact eL h.1.1.1
    | _=>cases hw
   have e3:dR f []=[41]:=congrArg (λz:Str=>z.cps.toList) e;exact (e2.2 41 (by rw[e3];exact Zx)).2.2 U
  .exact#[_,_,by rw[Tm.tk,if_neg hw],by decide+kernel]
theorem tR:∀ {ks:!Tm},qK ks->ks.length<=(kA ks).length
 | [],_=>Z1 _
 | t::ks,h=>by
  let(c,r,e,_):=ow h.1;have:=tR h.2;rw[kA,e,ZE,ZJ,ZJ];cbv
theorem t8{rd:!Str->PR Tm}:∀ {ks:!Tm},qK ks->(∀ t∈ks,PY rd t)->∀ (m:Nat) (r:!Str),ks.length < m->aE rd ")" m (kA ks++(")":Str)::r)=some (ks,(")":Str)::r)
 | [],_,_,0,r,h=>absurd h (abo _)
 | [],_,_,m+1,r,h=>by
  rw[kA,aE,if_pos (show seen ([]++(")":Str)::r)=")" from U)]
  rfl
 | t::ks,hg,hr,0,r,h=>absurd h (abo _)
 | t::ks,hg,hr,m+1,r,h=>by
  let(c,q,e,hc):=ow hg.1;rw[kA,Z4,aE,if_neg (show ¬ seen (t.tk++_)=")" by rw[e];exact hc),hr t Zx];change (aE rd ")" m (kA ks++(")":Str)::r)).bind _=_;rw[t8 hg.2 (λx hx=>hr x (List.mem_cons_of_mem _ hx)) m r (by simpa using h)]
  rfl
theorem Lr{x:Str}(h:Nm x):x≠":":=λe=>by
 subst e;have:=h.1 58 (show 58∈cd ":" by decide);cbv
theorem zR:∀ {ns:!Str},(∀ n∈ns,Nm n)->∀ (m:Nat) (r:!Str),ns.length < m->aE bT ":" m (ns++(":":Str)::r)=some (ns,(":":Str)::r)
 | [],_,0,r,h=>absurd h (abo _)
 | [],_,m+1,r,h=>by
  rw[aE,if_pos (show seen ([]++(":":Str)::r)=":" from U)]
  rfl
 | n::ns,hg,0,r,h=>absurd h (abo _)
 | n::ns,hg,m+1,r,h=>by
  have hn:=hg n Zx;rw[aad,aE,if_neg (show ¬ seen (n::_)=":" from Lr hn),kG hn];change (aE bT ":" m (ns++(":":Str)::r)).bind _=_;rw[zR (λx hx=>hg x (List.mem_cons_of_mem _ hx)) m r (by simpa using h)]
  rfl
theorem J3{rd:!Str->PR Tm}{h:Str×!Str}{k:Tm}(hh:Nm h.1/\∀ n∈h.2,Nm n)(hr:PY rd k)(r:!Str):kh rd (h.1::(h.2++(":":Str)::(k.tk++r)))=some ((h,k),r):=by
 unfold kh;rw[kG hh.1];change (aE bT ":" ((h.2++(":":Str)::(k.tk++r)).length+1) (h.2++(":":Str)::(k.tk++r))).bind _=_;rw[zR hh.2 _ _ (by rw[ZE];cbv)];change (rd (k.tk++r)).bind _=_;rw[hr r]
 rfl
theorem oS{rd:!Str->PR Tm}:∀ {hs:!(Str×!Str)} {ks:!Tm},FH hs->ks.length=hs.length->(∀ t∈ks,PY rd t)->∀ (m:Nat) (r:!Str),hs.length < m->∃ rs,aQ rd m (lT hs ks++(")":Str)::r)=some (rs,(")":Str)::r)/\rs.map (·.1)=hs/\rs.map (·.2)=ks
 | _,_,_,_,_,0,r,h=>absurd h (abo _)
 | [],[],_,_,_,m+1,r,h=>#[[],by
  rw[aQ,if_neg (show ¬ seen (lT [] []++(")":Str)::r)="|" by simp[lT,seen];decide+kernel)];simp[lT],U,U]
 | [],_::_,_,e,_,_+1,_,_=>by cases e
 | _::_,[],_,e,_,_+1,_,_=>by cases e
 | h::hs,k::ks,hh,e,hr,m+1,r,hm=>by
  let(rs,e1,e2,e3):=oS (rd:=rd) (λx hx=>hh x (List.mem_cons_of_mem _ hx)) (by simpa using e) (λx hx=>hr x (List.mem_cons_of_mem _ hx)) m r (by simpa using hm);show#[(h,k)::rs,?_,by rw[ZG,e2],by rw[ZG,e3]];have et:lT (h::hs) (k::ks)++(")":Str)::r=("|":Str)::(h.1::(h.2++(":":Str)::(k.tk++(lT hs ks++(")":Str)::r)))):=by
   rw[lT];simp
  rw[et,aQ,if_pos (show seen (("|":Str)::_)="|" from U),aac,J3 (hh h Zx) (hr k Zx)];change (aQ rd m (lT hs ks++(")":Str)::r)).bind _=_;rw[e1]
  rfl
theorem uB:∀ {hs:!(Str×!Str)} {ks:!Tm},ks.length=hs.length->hs.length<=(lT hs ks).length
 | [],_,_=>Z1 _
 | _::_,[],e=>by cases e
 | h::hs,k::ks,e=>by
  have:=uB (hs:=hs) (ks:=ks) (by simpa using e);rw[lT];simp;cbv
theorem GQ{rd:!Str->PR Tm}{f:Fm}{ks:!Tm}(h:wC f ks.length)(hw:f.w=1)(hk:qK ks)(hr:∀ t∈ks,PY rd t)(r:!Str):cK rd (cV f) (iJ f ks++(")":Str)::r)=some (.node f ks,r):=by
 cases f with
 | nm x=>cases hw
 | num x=>cases hw
 | op s =>
  let(a,b,rfl):=FG (l:=ks) h.2;change cK rd s _=_;unfold cK;rw[if_pos h.1,show iJ (.op s) [a,b]++(")":Str)::r=a.tk++(b.tk++(")":Str)::r) by simp[iJ,kA],hr a (by simp)];change (rd (b.tk++(")":Str)::r)).bind _=_;rw[hr b (by simp)];exact ki _ r
 | jK =>
  let(a,b,c,rfl):=Rm (l:=ks) h;change cK rd "zero" _=_;unfold cK;rw[if_neg (-()),if_pos U,show iJ .jK [a,b,c]++(")":Str)::r=a.tk++(b.tk++(c.tk++(")":Str)::r)) by simp[iJ,kA],hr a (by simp)];change (rd (b.tk++(c.tk++(")":Str)::r))).bind _=_;rw[hr b (by simp)];change (rd (c.tk++(")":Str)::r)).bind _=_;rw[hr c (by simp)];exact ki _ r
 | lt x =>
  let(a,b,rfl):=FG (l:=ks) h.2;change cK rd "let" _=_;unfold cK;rw[if_neg (-()),if_neg (-()),if_pos U,show iJ (.lt x) [a,b]++(")":Str)::r=x::(a.tk++(b.tk++(")":Str)::r)) by simp[iJ,kA],kG h.1];change (rd (a.tk++(b.tk++(")":Str)::r))).bind _=_;rw[hr a (by simp)];change (rd (b.tk++(")":Str)::r)).bind _=_;rw[hr b (by simp)];exact ki _ r
 | mk x =>
  change cK rd "make" _=_;unfold cK;rw[if_neg (-()),if_neg (-()),if_neg (-()),if_pos U,show iJ (.mk x) ks++(")":Str)::r=x::(kA ks++(")":Str)::r) by simp[iJ],kG h];change (aE rd ")" ((kA ks++(")":Str)::r).length+1) (kA ks++(")":Str)::r)).bind _=_;rw[t8 hk hr _ r (by have:=tR hk;rw[ZE];cbv)];exact ki _ r
 | ask x =>
  cases ks with
  | nil=>exact absurd h.2 ()
  | cons a js =>
   change cK rd "ask" _=_;unfold cK;rw[if_neg (-()),if_neg (-()),if_neg (-()),if_neg (-()),if_pos U,show iJ (.ask x) (a::js)++(")":Str)::r=a.tk++(x::(kA js++(")":Str)::r)) by simp[iJ],hr a List.mem_cons_self];change (bT (x::(kA js++(")":Str)::r))).bind _=_;rw[kG h.1];change (aE rd ")" ((kA js++(")":Str)::r).length+1) (kA js++(")":Str)::r)).bind _=_;rw[t8 hk.2 (λt ht=>hr t (Zw _ ht)) _ r (by have:=tR hk.2;rw[ZE];cbv)];exact ki _ r
 | new k hs =>
  change cK rd "new" _=_;unfold cK;rw[if_neg (-()),if_neg (-()),if_neg (-()),if_neg (-()),if_neg (-()),if_pos U,show iJ (.new k hs) ks++(")":Str)::r=k::(lT hs ks++(")":Str)::r) by simp[iJ],yx h.1];let(rs,e1,e2,e3):=oS (rd:=rd) h.2.1 h.2.2 hr ((lT hs ks++(")":Str)::r).length+1) r (by have:=uB (hs:=hs) (ks:=ks) h.2.2;rw[ZE];cbv);change (aQ rd ((lT hs ks++(")":Str)::r).length+1) (lT hs ks++(")":Str)::r)).bind _=_;rw[e1];change ky (.node (.new k (rs.map (·.1))) (rs.map (·.2))) (")"::r)=_;rw[e2,e3];exact ki _ r
 | jb q hs =>
  cases ks with
  | nil=>exact absurd h.2.2 (by simp)
  | cons a js =>
   change cK rd "case" _=_;have hl:js.length=hs.length:=by have:=h.2.2;simpa using this
   unfold cK;rw[if_neg (-()),if_neg (-()),if_neg (-()),if_neg (-()),if_neg (-()),if_neg (-()),if_pos U,show iJ (.jb q hs) (a::js)++(")":Str)::r=a.tk++(("to":Str)::q::(lT hs js++(")":Str)::r)) by simp[iJ],hr a List.mem_cons_self];rw[aaP];dsimp only;rw[zw,aaP];dsimp only;rw[yx h.1,aaP];dsimp only;let(rs,e1,e2,e3):=oS (rd:=rd) h.2.1 hl (λt ht=>hr t (Zw _ ht)) ((lT hs js++(")":Str)::r).length+1) r (by have:=uB (hs:=hs) (ks:=js) hl;rw[ZE];cbv);change (aQ rd ((lT hs js++(")":Str)::r).length+1) (lT hs js++(")":Str)::r)).bind _=_;rw[e1];change ky (.node (.jb q (rs.map (·.1))) (a::rs.map (·.2))) (")"::r)=_;rw[e2,e3];exact ki _ r
theorem Hl:ir "("=none:=by
 cases e:ir "(" with
 | none=>rfl
 | some i =>
  let((h0,_),h):=gL e;have:=(eL h0).2 40 (by rw[<- h];decide);exact absurd U this.2.1
theorem yZ:∀ (n:Nat) (t:Tm),t.gg->t.dep<=n->PY (aw n) t
 | 0,.node f ks,_,h=>by
  have h:n8 ks+1<=0:=h;cbv
 | n+1,.node f ks,hg,h=>λr=>by
  have hk:n8 ks+1<=n+1:=h;by_cases hw:f.w=0
  .cases f with
   | nm x =>
    have e:ks=[]:=aan.mp hg.1.2;subst e;have et:(Tm.node (.nm x) []).tk=[x]:=by rw[Tm.tk,if_pos hw];change [cn (cd x)]=_;rw[gk]
    have hb:x≠"(":=λe=>by
     subst e;have:=hg.1.1.1 40 (show 40∈cd "(" by decide);cbv
    rw[et,aw];change (match ir x with
     | some i=>some (Tm.node (.num i) [],r)
     | none=>if x="(" then cK (aw n) (seen r) r.tail else if Nm x then some (Tm.node (.nm x) [],r) else none)=_
    rw[zH hg.1.1];dsimp only;rw[if_neg hb,if_pos hg.1.1]
   | num i =>
    have e:ks=[]:=aan.mp hg.1.2;subst e;have et:(Tm.node (.num i) []).tk=[cR i]:=by rw[Tm.tk,if_pos hw];change [cn (cd (cR i))]=_;rw[gk]
    rw[et,aw];change (match ir (cR i) with
     | some i=>some (Tm.node (.num i) [],r)
     | none=>if cR i="(" then cK (aw n) (seen r) r.tail else if Nm (cR i) then some (Tm.node (.nm (cR i)) [],r) else none)=_
    rw[kC hg.1.1]
   | _=>cases hw
  .have hw1:f.w=1:=by cases f<;>first | rfl | exact absurd U hw
   rw[yD hw1,aw];change (match ir "(" with
    | some i=>some (Tm.node (.num i) [],_)
    | none=>if ("(":Str)="(" then cK (aw n) (cV f) (iJ f ks++[(")":Str)]++r) else if Nm "(" then some (Tm.node (.nm "(") [],_) else none)=_
   rw[Hl];dsimp only;rw[if_pos U,Z4];exact GQ hg.1 hw1 hg.2 (λt ht=>yZ n t (iu hg.2 t ht) (by have:=zA ht;cbv)) r
end
def rep1(c:Nat):!Nat:=if c=40 then [40,32] else if c=41 then [32,41] else [c]
def dW(l:!Nat):!Nat:=l.flatMap rep1
theorem qw(a b:!Nat):dW (a++b)=dW a++dW b:=Z0
theorem cw(c:Nat)(l:!Nat):dW (c::l)=rep1 c++dW l:=ZA
theorem sU:∀ {l:!Nat},(∀ n∈l,n≠40/\n≠41)->dW l=l
 | [],_=>rfl
 | c::l,h=>by
  let(h1,h2):=h c Zx;rw[cw,rep1,if_neg h1,if_neg h2,sU λn hn=>h n (Zw _ hn)]
  rfl
theorem zG(l r:!Nat):dW l≠41::r:=by
 cases l with
 | nil=>exact λe=>by cases e
 | cons c l =>
  rw[cw,rep1];split
  .exact λe=>by cases e
  .split
   .exact λe=>by cases e
   .rename_i h1 h2
    exact λe=>h2 (aaj e).1
theorem kE:∀ {a b:!Nat},dW a=dW b->a=b
 | [],[],_=>rfl
 | [],c::b,h=>by
  rw[cw,rep1] at h;split at h
  .cases h
  .split at h<;>cases h
 | c::a,[],h=>by
  rw[cw,rep1] at h;split at h
  .cases h
  .split at h<;>cases h
 | c::a,d::b,h=>by
  rw[cw,cw,rep1,rep1] at h;by_cases c1:c=40
  .rw[if_pos c1] at h;by_cases d1:d=40
   .rw[if_pos d1] at h;rw[c1,d1,kE (aaj (aaj h).2).2]
   .rw[if_neg d1] at h;by_cases d2:d=41
    .rw[if_pos d2] at h;cases (aaj h).1
    .rw[if_neg d2] at h;exact absurd (aaj h).1.symm d1
  .rw[if_neg c1] at h;by_cases c2:c=41
   .rw[if_pos c2] at h;by_cases d1:d=40
    .rw[if_pos d1] at h;cases (aaj h).1
    .rw[if_neg d1] at h;by_cases d2:d=41
     .rw[if_pos d2] at h;rw[c2,d2,kE (aaj (aaj h).2).2]
     .rw[if_neg d2] at h;exact absurd (aaj h).2.symm (zG _ _)
   .rw[if_neg c2] at h;by_cases d1:d=40
    .rw[if_pos d1] at h;exact absurd (aaj h).1 c1
    .rw[if_neg d1] at h;by_cases d2:d=41
     .rw[if_pos d2] at h;exact absurd (aaj h).2 (zG _ _)
     .rw[if_neg d2] at h;let(h1,h2):=aaj h;rw[h1,kE h2]
def El.tk:El->!Str
 | .w x=>[x]
 | .k t=>t.tk
theorem iM:∀ ks:!Tm,kA ks=(ks.map El.k).flatMap El.tk
 | []=>by simp[kA]
 | t::ks=>by rw[kA,iM ks];rfl
theorem yi:∀ (hs:!(Str×!Str)) (ks:!Tm),lT hs ks=(b4 hs ks).flatMap El.tk
 | [],_=>by simp[lT,b4]
 | _::_,[]=>by simp[lT,b4]
 | h::hs,k::ks=>by
  rw[lT,b4,yi hs ks,ZA,ZA,Z0,ZA,ZA];have e:(h.2.map El.w).flatMap El.tk=h.2:=by
   induction h.2 with
   | nil=>rfl
   | cons a l ih=>rw[ZG,ZA,ih];rfl
  rw[e]
  rfl
theorem DV{f:Fm}{ks:!Tm}(h:wC f ks.length):iJ f ks=(cf f ks).flatMap El.tk:=by
 cases f with
 | ask x =>
  cases ks with
  | nil=>exact absurd h.2 ()
  | cons a r=>rw[iJ,cf,ZA,ZA,aam,aac,iM];rfl
 | jb r hs =>
  cases ks with
  | nil=>exact absurd h.2.2 (by simp)
  | cons a js=>rw[iJ,cf,ZA,ZA,ZA,aam,aac,yi];rfl
 | lt x=>rw[iJ,cf,ZA,iM];rfl
 | mk x=>rw[iJ,cf,ZA,iM];rfl
 | new k hs=>rw[iJ,cf,ZA,yi];rfl
 | nm x=>simp only[iJ];exact iM ks
 | num x=>simp only[iJ];exact iM ks
 | op x=>simp only[iJ];exact iM ks
 | jK=>simp only[iJ];exact iM ks
def Q0(e:El):Prop:=(e.tk.map cd).flatMap (32::·)=32::dW e.T/\∀ x∈e.tk,32∉cd x
theorem Yj{es:!El}(h:∀ e∈es,Q0 e):((es.flatMap El.tk).map cd).flatMap (32::·)=dW (jr es)/\∀ x∈es.flatMap El.tk,32∉cd x:=by
 induction es with
 | nil=>exact#[U,λx hx=>(nomatch hx)]
 | cons e es ih =>
  let(h1,h2):=ih λx hx=>h x (Zw _ hx);let(g1,g2):=h e Zx;show#[?_,λx hx=>?_]
  .rw[ZA,ZO,Z0,h1,g1];change _=dW ((32::e.T)++jr es);rw[qw,cw]
   rfl
  .rw[ZA] at hx;exact (ZR.mp hx).elim (g2 x) (h2 x)
theorem VW{x:Str}(h:n9 (cd x)):Q0 (.w x):=#[by
 change 32::cd x++[]=32::dW (cd x);rw[sU λn hn=>(h.2 n hn).2,ZM],λy hy=>by
 rw[ZI.mp hy];exact λz=>(h.2 32 z).1 U]
theorem Vx:∀ (m:Nat) (t:Tm),t.size<=m->t.gg->Q0 (.k t)
 | 0,t,h,_=>by have:=eG t;cbv
 | m+1,.node f ks,h,#[aD,hg]=>by
  by_cases hw:f.w=0
  .have e1:(Tm.node f ks).tk=[cn (dR f [])]:=by rw[Tm.tk,if_pos hw]
   have e2:n9 (dR f [])/\dR f (oo ks)=dR f []:=by
    cases f with
    | nm x=>exact#[f7 aD.1,U]
    | num i=>exact#[eL aD.1.1,U]
    | _=>cases hw
   have:=VW (x:=cn (dR f [])) e2.1;have e3:(Tm.node f ks).T=dR f []:=by rw[Tm.T,jW,if_pos hw,e2.2]
   show#[?_,?_]
   .show ((Tm.node f ks).tk.map cd).flatMap (32::·)=32::dW (Tm.node f ks).T;rw[e1,e3];exact this.1
   .show ∀ x∈(Tm.node f ks).tk,32∉cd x;rw[e1];exact this.2
  .have hw1:f.w=1:=by cases f<;>first | rfl | exact absurd U hw
   have hkm:∀ t∈ks,Q0 (.k t):=λt ht=>Vx m t (by
    have:t.size<=dZ ks:=by
     clear h aD hg
     induction ks with
     | nil=>cases ht
     | cons a l ih =>
      change t.size<=a.size+dZ l;rcases ZD.mp ht with rfl | ht
      .cbv
      .have:=ih ht;cbv
    have h:dZ ks+1<=m+1:=h;cbv) (iu hg t ht)
   let(hmok,hmne):=tK aD hw1;let(h3,h4):=Yj (es:=cf f ks) λe he=>by
    have:=hmok e he;cases e with
    | w x=>exact VW this
    | k t=>exact hkm t this
   have hph:=rh aD;show#[?_,?_]
   .show ((Tm.node f ks).tk.map cd).flatMap (32::·)=32::dW (Tm.node f ks).T;rw[yD hw1,DV aD,Tm.T,jW,if_neg hw,uy aD hw1];change 32::40::(32::cd (cV f)++(((cf f ks).flatMap El.tk++[(")":Str)]).map cd).flatMap (32::·))=32::dW (40::(cd (cV f)++jr (cf f ks))++[41]);rw[ZO,Z0,h3,qw,cw,qw,sU λn hn=>(hph.2 n hn).2];change _=32::([40,32]++(cd (cV f)++dW (jr (cf f ks)))++[32,41]);simp
    rfl
   .show ∀ x∈(Tm.node f ks).tk,32∉cd x;rw[yD hw1,DV aD];intro x hx;rcases ZD.mp hx with rfl | hx
    .decide
    .rcases ZD.mp hx with rfl | hx
     .exact λz=>(hph.2 32 z).1 U
     .rcases ZR.mp hx with hx | hx
      .exact h4 x hx
      .rw[ZI.mp hx];decide
theorem Pa{t:Tm}(h:t.gg):ba (t.tk.map cd)=dW t.T/\(∀ x∈t.tk,32∉cd x)/\t.tk≠[]:=by
 let(h1,h2):=Vx t.size t (ZC _) h;let(c,r,e,_):=ow h;have iR:t.tk≠[]:=by rw[e];simp
 show#[?_,h2,iR];have h1:(t.tk.map cd).flatMap (32::·)=32::dW t.T:=h1;rw[dE (by simpa using iR)] at h1;exact (aaj h1).2
structure ID(l:!Nat)(ws:!(!Nat)):Prop where
 ne:ws≠[]
 jn:ba ws=l
 no:∀ x∈ws,32∉x
theorem ID.one{l:!Nat}{a b:!(!Nat)}(h:ID l a)(k:ID l b):a=b:=uO h.ne k.ne h.no k.no (h.jn.trans k.jn.symm)
theorem nv(z:Str):ID (cd z) ((Txt.split z " ").map cd):=by
 have e1:PySem.Str.join " " (Txt.split z " ")=z:=StrLaws.join_split _ _;show#[λq=>?_,?_,λx hx=>?_]
 .have:=PyProof.Rows.split_pos z " ";rw[abj.mp q] at this;exact absurd this ()
 .rw[<- kR];change cd (GT.Str.glued " " _)=_;rw[StrLaws.glued_eq_join,e1]
 .let(p,hp,rfl):=Z5.mp hx;exact StrLaws.split_free z 32 p hp
theorem GA{f:Fm}{ks:!Tm}(h:wC f ks.length)(hw:f.w=1){k:Tm}(hk:k∈ks):El.k k∈cf f ks:=by
 have rows:∀ {hs:!(Str×!Str)} {js:!Tm},js.length=hs.length->k∈js->El.k k∈b4 hs js:=λ{hs js}=>by
  induction hs generalizing js with
  | nil =>
   intro e hj;rw[aan.mp e] at hj;cases hj
  | cons a hs ih =>
   intro e hj;cases js with
   | nil=>cases hj
   | cons b js =>
    rw[b4];rcases ZD.mp hj with rfl | hj
    .simp
    .have:=ih (js:=js) (by simpa using e) hj;simp[this]
 have mp:∀ {js:!Tm},k∈js->El.k k∈js.map El.k:=λh=>aa7 h;cases f with
 | nm x=>cases hw
 | num x=>cases hw
 | op s=>exact mp hk
 | jK=>exact mp hk
 | lt x=>exact Zw _ (mp hk)
 | mk x=>exact Zw _ (mp hk)
 | ask x =>
  cases ks with
  | nil=>cases hk
  | cons a r =>
   rw[cf,aam,aac];rcases ZD.mp hk with rfl | hk
   .exact Zx
   .exact Zw _ (Zw _ (mp hk))
 | jb r hs =>
  cases ks with
  | nil=>cases hk
  | cons a js =>
   rw[cf,aam,aac];rcases ZD.mp hk with rfl | hk
   .exact Zx
   .exact List.mem_cons_of_mem _ (List.mem_cons_of_mem _ (List.mem_cons_of_mem _ (rows (by have:=h.2.2;simpa using this) hk)))
 | new q hs=>exact Zw _ (rows h.2.2 hk)
theorem sL:∀ (m:Nat) (t:Tm),t.size<=m->t.gg->t.dep<=t.T.count 40+1
 | 0,t,h,_=>by have:=eG t;cbv
 | m+1,.node f ks,h,#[aD,hg]=>by
  change n8 ks+1<=_;by_cases hw:f.w=0
  .have e:ks=[]:=by
    cases f with
    | nm x=>exact aan.mp aD.2
    | num i=>exact aan.mp aD.2
    | _=>cases hw
   subst e;exact Nat.le_add_left 1 _
  .have hw1:f.w=1:=by cases f<;>first | rfl | exact absurd U hw
   show aaM (vC λt ht=>?_);have hs:t.size<=dZ ks:=by
    clear h aD hg
    induction ks with
    | nil=>cases ht
    | cons a l ih =>
     change t.size<=a.size+dZ l;rcases ZD.mp ht with rfl | ht
     .cbv
     .have:=ih ht;cbv
   have h:dZ ks+1<=m+1:=h;have ih:=sL m t (by cbv) (iu hg t ht);let(a,b,e):=List.append_of_mem (GA aD hw1 ht);have hc:t.T.count 40<=(jr (cf f ks)).count 40:=by
    rw[e,jJ];change _<=(jr a++(32::t.T++jr b)).count 40;rw[aas,aas,List.count_cons];cbv
   rw[Tm.T,jW,if_neg hw,uy aD hw1];change _<=(40::(cd (cV f)++jr (cf f ks))++[41]).count 40;rw[aas,aaZ,aas];cbv
theorem B8(l:!Str):(l.map cd).map cn=l:=by
 rw[aal]
 induction l with
 | nil=>rfl
 | cons a l ih=>rw[ZG,ih];exact congrArg (·::l) (gk a)
theorem AE{l:!Nat}{ws W:!(!Nat)}(h:ID l ws)(k:ID (dW l) W){n:Nat}{t:Tm}(q:aw n (W.map cn)=some (t,[])):Az ws=some t/\t.gg/\t.T=l:=by
 let(g,e):=lC n _ _ _ q;rw[ZM] at e;have e2:W=t.tk.map cd:=by
  rw[<- e,aal];exact (List.map_id' W).symm
 let(t1,_,_):=Pa g;have e3:l=t.T:=kE (by rw[<- t1,<- e2];exact k.jn.symm);let(w1,w2,w3):=Ml g;have e4:ws=t.ws:=h.one #[w1,by rw[w2,e3],w3];exact#[by rw[e4];exact P5 g,g,e3.symm]
theorem Cj{l:!Nat}{ws W:!(!Nat)}(h:ID l ws)(k:ID (dW l) W){n:Nat}(hn:l.count 40 < n)(q:∀ t,aw n (W.map cn)≠some (t,[])):Az ws=none:=by
 cases e:Az ws with
 | none=>rfl
 | some t =>
  let(g,e2):=Oj h.ne e;rw[h.jn] at e2;let(t1,t2,t3):=Pa g;have e3:W=t.tk.map cd:=k.one #[by simpa using t3,by rw[t1,e2],λx hx=>by
   let(y,hy,rfl):=Z5.mp hx;exact t2 y hy]
  have hd:=sL t.size t (ZC _) g;rw[e2] at hd;have:=yZ n t g (by cbv) [];rw[ZM] at this;exact absurd (by rw[e3,B8];exact this) (q t)
theorem Be{f:Fm}{ks:!Tm}(h:wC f ks.length):(pieces f ks).flatMap qJ=(Tm.node f ks).T:=by
 have ends:∀ (a b:!Pc) (l:!Nat),a.flatMap qJ=40::l->(a++b++[Pc.s ")"]).flatMap qJ=40::(l++b.flatMap qJ)++[41]:=λa b l e=>by
  rw[Z0,Z0,e]
  rfl
 rw[Tm.T];cases f with
 | nm x=>simp[pieces,jW,Fm.w,dR,qJ]
 | num i=>simp[pieces,jW,Fm.w,dR,qJ]
 | op s =>
  rw[pieces,ends [.s ("("++s)] _ (cd s) (by change cd ("("++s)++[]=_;rw[b6,ZM];rfl),kZ]
  rfl
 | jK =>
  rw[pieces,ends [.s "(zero"] _ (cd "zero") U,kZ]
  rfl
 | lt x =>
  rw[pieces,ends [.s ("(let "++x)] _ (cd "let "++cd x) (by change cd ("(let "++x)++[]=_;rw[b6,ZM];rfl),kZ]
  rfl
 | mk c =>
  rw[pieces,ends [.s ("(make "++c)] _ (cd "make "++cd c) (by change cd ("(make "++c)++[]=_;rw[b6,ZM];rfl),kZ]
  rfl
 | ask f =>
  cases ks with
  | nil=>exact absurd h.2 ()
  | cons k ks =>
   rw[pieces,aam,ends [.s "(ask ",.t k,.s (" "++f)] _ (cd "ask "++k.T++(32::cd f)) (by
    change cd "(ask "++(k.T++(cd (" "++f)++[]))=_;rw[b6,ZM];change 40::(cd "ask "++(k.T++(32::cd f)))=_;rw[Z4]),aac,kZ]
   rfl
 | jb r hs =>
  cases ks with
  | nil=>exact absurd h.2.2 (by simp)
  | cons k ks =>
   rw[pieces,aam,ends [.s "(case ",.t k,.s (" to "++r)] _ (cd "case "++k.T++cd " to "++cd r) (by
    change cd "(case "++(k.T++(cd (" to "++r)++[]))=_;rw[b6,ZM];change 40::(cd "case "++(k.T++(cd " to "++cd r)))=_;simp only[List.append_assoc]),List.tail_cons,xI]
   rfl
 | new k hs =>
  rw[pieces,ends [.s ("(new "++k)] _ (cd "new "++cd k) (by change cd ("(new "++k)++[]=_;rw[b6,ZM];rfl),xI]
  rfl
theorem Ar{f:Fm}{ks:!Tm}(h:wC f ks.length):((pieces f ks).map yQ).sum < yQ (.t (.node f ks)):=by
 change _ < 4 * (dZ ks+1) - 1;have ends:∀ (a b:!Pc),((a++b++[Pc.s ")"]).map yQ).sum=(a.map yQ).sum+(b.map yQ).sum+1:=λa b=>by
  rw[ZO,ZO,abn,abn]
  rfl
 cases f with
 | nm x=>change 1 < _;cbv
 | num i=>change 1 < _;cbv
 | op s =>
  rw[pieces,ends,lg];change 1+_+1 < _;cbv
 | jK =>
  rw[pieces,ends,lg];change 1+_+1 < _;cbv
 | lt x =>
  rw[pieces,ends,lg];change 1+_+1 < _;cbv
 | mk c =>
  rw[pieces,ends,lg];change 1+_+1 < _;cbv
 | ask f =>
  cases ks with
  | nil=>exact absurd h.2 ()
  | cons k ks =>
   have hp:=eG k;rw[pieces,ends,aac,lg];change 1+(4 * k.size - 1+(1+0))+_+1 < 4 * (k.size+dZ ks+1) - 1;cbv
 | jb r hs =>
  cases ks with
  | nil=>exact absurd h.2.2 (by simp)
  | cons k ks =>
   have hp:=eG k;rw[pieces,ends,aac];have:=w6 hs ks;change 1+(4 * k.size - 1+(1+0))+_+1 < 4 * (k.size+dZ ks+1) - 1;cbv
 | new k hs =>
  rw[pieces,ends];have:=w6 hs ks;change 1+_+1 < _;cbv
def zv:Pc->Prop
 | .s x=>1<=x.length
 | .t u=>u.gg
theorem PC{t:Tm}(h:t.gg):1<=t.T.length:=by
 cases t with
 | node f ks =>
  rw[Tm.T,jW];split
  .cases f with
   | nm x =>
    change 1<=(cd x).length;rw[aG];exact h.1.1.2.1
   | num i =>
    have:=(eL (i:=i) h.1.1.1).1;change 1<=(cd (cR i)).length;exact abk.mpr this
   | _=>contradiction
  .simp
theorem zv.pos{p:Pc}(h:zv p):1<=(qJ p).length:=by
 cases p with
 | s x=>change 1<=(cd x).length;rw[aG];exact h
 | t u=>exact PC h
theorem wN:∀ {l:!Pc},(∀ p∈l,zv p)->l.length<=(l.flatMap qJ).length
 | [],_=>ZC _
 | p::l,h=>by
  have h1:=wN λp hp=>h p (Zw _ hp);have h2:=(h p Zx).pos;rw[ZA,ZE,ZJ];cbv
theorem Ie:∀ {l:!Pc} {p:Pc},p∈l->(qJ p).length<=(l.flatMap qJ).length
 | q::l,p,h=>by
  rw[ZA,ZE];rcases ZD.mp h with rfl | h
  .cbv
  .have:=Ie h;cbv
theorem yb{f:Fm}{ks:!Tm}(h:wC f ks.length)(hg:qK ks):∀ p∈pieces f ks,zv p:=by
 have ht:∀ ks:!Tm,qK ks->∀ p∈bE ks,zv p:=λks hg p hp=>by
  let(k,hk,hp):=aaQ.mp hp;rcases ZD.mp hp with rfl | hp
  .exact ZC 1
  .rw[ZI.mp hp];exact iu hg k hk
 have hr:∀ (hs:!(Str×!Str)) (ks:!Tm),qK ks->∀ p∈aU hs ks,zv p:=λhs=>by
  induction hs with
  | nil=>intro ks _ p hp;simp[aU] at hp
  | cons h hs ih =>
   intro ks hg p hp;cases ks with
   | nil=>simp[aU] at hp
   | cons k ks =>
    rw[aU] at hp;rcases ZD.mp hp with rfl | hp
    .show 1<=(mm h).length;rw[<- aG,uA];simp
    .rcases ZD.mp hp with rfl | hp
     .exact hg.1
     .exact ih ks hg.2 p hp
 have e3:∀ (a b:!Pc) (z:Pc),(∀ p∈a,zv p)->(∀ p∈b,zv p)->zv z->∀ p∈a++b++[z],zv p:=λa b z ha hb hz p hp=>by
  rcases ZR.mp hp with hp | hp
  .exact (ZR.mp hp).elim (ha p) (hb p)
  .rw[ZI.mp hp];exact hz
 have one:∀ (x:Str),1<=x.length->∀ p∈[Pc.s x],zv p:=λx hx p hp=>by
  rw[ZI.mp hp];exact hx
 have apn:∀ (x y:Str),1<=x.length->1<=(x++y).length:=λx y hx=>by rw[Str.length_append];cbv
 have three:∀ (x y:Str) (k:Tm),1<=x.length->1<=y.length->k.gg->∀ p∈[Pc.s x,.t k,.s y],zv p:=λx y k hx hy hk p hp=>by
  rcases ZD.mp hp with rfl | hp
  .exact hx
  .rcases ZD.mp hp with rfl | hp
   .exact hk
   .exact one y hy p hp
 have hz:zv (.s ")"):=ZC 1;cases f with
 | nm x=>exact one _ h.1.2.1
 | num i =>
  show one _ ?_;rw[<- aG];exact abk.mpr (eL (i:=i) h.1.1).1
 | op s=>exact e3 _ _ _ (one _ (apn _ _ ())) (ht ks hg) hz
 | jK=>exact e3 _ _ _ (one _ ()) (ht ks hg) hz
 | lt x=>exact e3 _ _ _ (one _ (apn _ _ ())) (ht ks hg) hz
 | mk c=>exact e3 _ _ _ (one _ (apn _ _ ())) (ht ks hg) hz
 | ask f =>
  cases ks with
  | nil=>exact absurd h.2 ()
  | cons k ks=>exact e3 _ _ _ (three _ _ k () (apn _ _ ()) hg.1) (ht ks hg.2) hz
 | jb r hs =>
  cases ks with
  | nil=>exact absurd h.2.2 (by simp)
  | cons k ks=>exact e3 _ _ _ (three _ _ k () (apn _ _ ()) hg.1) (hr hs ks hg.2) hz
 | new k hs=>exact e3 _ _ _ (one _ (apn _ _ ())) (hr hs ks hg) hz
end DL
namespace DL
open PySem PySem.Spec L2
open PyProof.Rows hiding St
section
variable{X:Cx}{c:Ent}
def Lh(to:bA)(t:eQ):bA:=λs Q=>to s λa s1=>∃ z,a=.str z/\t s1 λds s2=>∃ y,ds=[.str y]/\(y.length == 0)=false/\z.length+2<=FB/\(Txt.split z y).length<=FB/\Q (.lst ((Txt.split z y).map .str)) s2
theorem sR{o e:Da}{es:!Da}{to:bA}{t:eQ}{apos bq:Pos}(ho:DE X c o to)(ha:DA X c (e::es) t)(eD:(attributeBase o "split" X.env (eval o X.env)=eval o X.env)⁻¹)(kb:(((KB bq (Go (e::es) X.env)).all (λx=>(not x.1))&&(ST bq (SZ [] X.env)).all (λx=>x.1.isSome)
   && decide ((e::es).length+([]:!Ps).length+(if ([]:!Ps).isEmpty then 0 else 1) < 30))=true)⁻¹)(eM:((apos.endLine == bq.line)=true)⁻¹)(hs:(abN X.env e es)⁻¹)(d6:((KB bq (Go es X.env)).any (·.1)=false)⁻¹) :
  DN X c (.Call (.Attribute o "split" apos) (e::es) [] bq) (Lh to t):=#[(iD aaq aaR PySem.F.type_str_split vJ ho.pe ha.pa eD kb eM hs d6).imp λO H Q zz=>eF zz λM s as R L q kk=>by
 show#[M,s,as,_,L,q,λd s1 z M1 H1 v L1 E1 rv=>?_];let(z,rfl,q1):=z;cases (show v=.str z from rv);show#[U,M1,s1,as,_,L1,q1,λds s2 y M2 H2 vs Lb E2 rvs hl=>?_];let(y,rfl,h1,h2,h3,q2):=y;let(u,rfl,e):=cG rvs;cases (show u=.str y from e);exact#[z,y,U,U,h1,h2,h3,λp hp=>mX (d:=.lst _) L Lb (E1.trans L1.base E2) hp (jk _) (kk _ s2 q2)]]
end
end DL
namespace L2
open PySem PySem.Spec PyProof.Rows
open PySem.Builtin PySem.Builtin.Str
theorem oa(x y z:Str)(t u:Tok)(hu:u≠0):Gives («str.replace» #[[.str x t,.str y u,.str z u],[]]) (.val (.str x t)):=by
 change Gives (if ((occurrences x y 0 x.length (x.length+1)).isEmpty||(y.length == 0&&z.length == 0))=true then (do rule "str.replace.nothing";ret (.str x t)) else
     (do let same <- isSame (.str y u) (.str z u);if same=true then (do rule "str.replace.old-is-new";ret (.str x t)) else if tooLong (x.length+(occurrences x y 0 x.length (x.length+1)).length * z.length)=true then unsupported "str.replace:memory" else retStr (glued z (partsBetween x (occurrences x y 0 x.length (x.length+1)) y.length)))) _
 cases hc:((occurrences x y 0 x.length (x.length+1)).isEmpty||(y.length == 0&&z.length == 0))
 .have e:isSame (.str y u) (.str z u)=pure true:=by
   change isSame.created (y == z) u u=pure true;unfold isSame.created;simp[hu]
  rw[e];exact .rule (.of_eq U)
 .exact .rule (.of_eq U)
section
variable{X:Cx}
theorem Dy{x y z:Str}(hb:x.length+(x.length+1) * z.length<=16777216):tooLong (x.length+(occurrences x y 0 x.length (x.length+1)).length * z.length)=false:=by
 have h1:=StrLaws.occ_length_le x y 0 x.length (x.length+1);have h2:(occurrences x y 0 x.length (x.length+1)).length * z.length<=(x.length+1) * z.length:=Nat.mul_le_mul_right _ h1;unfold tooLong FB;exact decide_eq_false (by cbv)
theorem uV{x y z:Str}{t u v:xg}{A:GE}{E:abK}{P:Fr}{w:Fa}{s:Ch}{Q:abK}(hs:0 < s.toks)(W5:u.1≠v.1)(YS:y≠z)(hb:x.length+(x.length+1) * z.length<=16777216)(hq:∀ (t':xg) k,0 < k->Q (.str (Txt.replace x y z) t'.1) { s with toks:=k }):EQ (model P w) A (call (.builtin "str.replace") [.str x t.1,.str y u.1,.str z v.1]) Q E s:=by
 show PySem.call_gives aa4 (typeIs_str _ _ _) PySem.F.entry_str_replace (PySem.F.args_str_replace_3 _ _ _)
  (gives_str_replace x y z t.1 u.1 v.1 λ_=>#[by simp[u.2,v.2],by simp[W5],by simp[YS],Dy hb]) (gA hs hq (MT.ite t.2 trivial) ?_)
 unfold Txt.replace;split
 .exact#[_,U]
 .exact#[fits_replaced y hb,_,U]
def Of:V->!V->Hp->VK->Prop:=λx vs H Q=>∃ z y n,x=.str z/\vs=[.str y,.str n]/\y≠n/\z.length+(z.length+1) * n.length<=16777216/\Q (.str z) H/\Q (.str (Txt.replace z y n)) H
theorem Fb:FO X "str.replace" Of:=by
 intro Tl s O H x vs v us Q I rx rv h;let(z,y,n,rfl,rfl,iR,hb,q1,q2):=h;let(t,rfl):=rx;let(u,w',rfl,(tu,rfl),(tv,rfl)):=rv.two;by_cases e:tu.1=tv.1
 .rw[<- e];exact PySem.call_gives aa4 (typeIs_str _ _ _) PySem.F.entry_str_replace (PySem.F.args_str_replace_3 _ _ _) (oa z y n t.1 tu.1 tu.2) #[.str z,H,I,#[t,U],q1]
 .exact uV I.tk e iR hb λt' k hk=>#[.str _,H,I.tok k hk,#[t',U],q2]
def Km(to:TE)(y n:Str):TE:=λO H Q=>to O H λx H1=>∃ z,x=.str z/\z.length+(z.length+1) * n.length<=16777216/\Q (.str (Txt.replace z y n)) H1
theorem EL{o:Da}{to:TE}{y n:Str}{j1 j2:Nat}{p1 p2 apos bq:Pos}(iR:y≠n)(ho:PE X o to)(eD:(attributeBase o "replace" X.env (eval o X.env)=eval o X.env)⁻¹)(kb:(((KB bq (Go [.Constant (.str y) j1 p1,.Constant (.str n) j2 p2] X.env)).all (λx=>(not x.1))&&(ST bq (SZ [] X.env)).all (λx=>x.1.isSome)
   && decide (([.Constant (.str y) j1 p1,.Constant (.str n) j2 p2]:!Da).length+([]:!Ps).length+(if ([]:!Ps).isEmpty then 0 else 1) < 30))=true)⁻¹)(eM:((apos.endLine == bq.line)=true)⁻¹)(d6:((KB bq (Go [.Constant (.str n) j2 p2] X.env)).any (·.1)=false)⁻¹) :
  PE X (.Call (.Attribute o "replace" apos) [.Constant (.str y) j1 p1,.Constant (.str n) j2 p2] [] bq) (Km to y n):=by
 intro Tl s O H Q I h;show wpAny_Call_method_late eD kb eM U (bQ (ho Tl s O H _ I h) λv s1 z3q=>?_);let(x,H1,I1,r1,z,rfl,hb,q):=z3q;let(t,rfl):=r1;show#["str",_,aaq,aa4,PySem.F.type_str_replace,typeIs_str _ _ _,(λ_ h=>nomatch h),?_];show Calls.callWith_builtin (by rw[show Go [.Constant (.str y) j1 p1,.Constant (.str n) j2 p2] X.env=(false,eval (.Constant (.str y) j1 p1) X.env)::Go [.Constant (.str n) j2 p2] X.env from U];change (false||(KB bq (Go [.Constant (.str n) j2 p2] X.env)).any (·.1))=false;rw[d6]<;>rfl) (Calls.evalArgs_plain ?_);change EQ _ _ (spliced ((false,eval (.Constant (.str y) j1 p1) X.env)::[(false,eval (.Constant (.str n) j2 p2) X.env)])) _ _ _;show Calls.spliced_cons (Calls.Constant_str ?_);show Calls.spliced_cons (Calls.Constant_str ?_);show Calls.spliced_nil ?_;exact uV (s:={ s1 with toks:=s1.toks+1+1 }) (t:=t) (u:=#[s1.toks,aah I1.tk]) (v:=#[s1.toks+1,Nat.succ_ne_zero _]) (aai _) (ZT (Nat.lt_succ_self _)) iR hb λt' k hk=>#[.str _,H1,I1.tok k hk,#[t',U],q]
end
end L2
namespace DL
open PySem PySem.Spec L2
section
variable{X:Cx}{c:Ent}
def Kr(to:bA)(y n:Str):bA:=λs Q=>to s λd s1=>∃ z,d=.str z/\z.length+(z.length+1) * n.length<=16777216/\Q (.str (Txt.replace z y n)) s1
theorem Ae{o:Da}{to:bA}{y n:Str}{j1 j2:Nat}{p1 p2 apos bq:Pos}(iR:y≠n)(ho:DE X c o to)(eD:(attributeBase o "replace" X.env (eval o X.env)=eval o X.env)⁻¹)(kb:(((KB bq (Go [.Constant (.str y) j1 p1,.Constant (.str n) j2 p2] X.env)).all (λx=>(not x.1))&&(ST bq (SZ [] X.env)).all (λx=>x.1.isSome)
   && decide (([.Constant (.str y) j1 p1,.Constant (.str n) j2 p2]:!Da).length+([]:!Ps).length+(if ([]:!Ps).isEmpty then 0 else 1) < 30))=true)⁻¹)(eM:((apos.endLine == bq.line)=true)⁻¹)(d6:((KB bq (Go [.Constant (.str n) j2 p2] X.env)).any (·.1)=false)⁻¹) :
  DE X c (.Call (.Attribute o "replace" apos) [.Constant (.str y) j1 p1,.Constant (.str n) j2 p2] [] bq) (Kr to y n):=#[(EL iR ho.pe eD kb eM d6).imp λO H Q zz=>eF zz λM s as R L q kk=>by
 show#[M,s,as,_,L,q,λd s1 z M1 H1 v L1 E1 rv=>?_];let(z,rfl,hb,q1):=z;exact#[z,rv,hb,kk _ s1 q1 M1 H1 _ L1 E1 U]]
def NR(to:bA)(t:eQ):bA:=λs Q=>to s λa s1=>∃ z,a=.str z/\t s1 λds s2=>∃ y n,ds=[.str y,.str n]/\y≠n/\z.length+(z.length+1) * n.length<=16777216/\Q (.str z) s2/\Q (.str (Txt.replace z y n)) s2
theorem xi{o e:Da}{es:!Da}{to:bA}{t:eQ}{apos bq:Pos}(ho:DE X c o to)(ha:DA X c (e::es) t)(eD:(attributeBase o "replace" X.env (eval o X.env)=eval o X.env)⁻¹)(kb:(((KB bq (Go (e::es) X.env)).all (λx=>(not x.1))&&(ST bq (SZ [] X.env)).all (λx=>x.1.isSome)
   && decide ((e::es).length+([]:!Ps).length+(if ([]:!Ps).isEmpty then 0 else 1) < 30))=true)⁻¹)(eM:((apos.endLine == bq.line)=true)⁻¹)(hs:(abN X.env e es)⁻¹)(d6:((KB bq (Go es X.env)).any (·.1)=false)⁻¹) :
  DE X c (.Call (.Attribute o "replace" apos) (e::es) [] bq) (NR to t):=#[(iD aaq aa4 PySem.F.type_str_replace Fb ho.pe ha.pa eD kb eM hs d6).imp λO H Q zz=>eF zz λM s as R L q kk=>by
 show#[M,s,as,_,L,q,λd s1 z M1 H1 v L1 E1 rv=>?_];let(z,rfl,q1):=z;cases (show v=.str z from rv);show#[U,M1,s1,as,_,L1,q1,λds s2 y M2 H2 vs Lb E2 rvs hl=>?_];let(y,n,rfl,h1,h2,q2,q3):=y;let(u,u2,rfl,e,e2):=wz rvs;cases (show u=.str y from e);cases (show u2=.str n from e2);exact#[z,y,n,U,U,h1,h2,kk _ s2 q2 M2 H2 _ Lb (E1.trans L1.base E2) U,kk _ s2 q3 M2 H2 _ Lb (E1.trans L1.base E2) U]]
end
end DL
namespace L2
open PySem PySem.Spec PyProof.Rows
def QL(x:Str)(lo:Nat)(i:Nat)(v:AT):Prop:=∃ c u,x.cps[i]?=some c/\v=.str #[#v[c]] u/\lo<=u
section
variable{prog:Fr}{w:Fa}{A:GE}{E:abK}{s:Ch}
theorem Mp(hh:A.handled=none)(I:AC)(x:Str)(t:Tok)(lo:Nat):WalksS prog w A I [I] [I] (λa b=>b=a) x.cps.size (QL x lo) (λi s=>s.heap.IsStrIter I "str_ascii_iterator" x t i/\lo<=s.toks) :=
 have W:=(Walks.strAscii (prog:=prog) (w:=w) hh I x t).toS
 { sub:=W.sub,grefl:=W.grefl,gtrans:=W.gtrans,frame:=λi s h' tk st hk k=>#[W.frame i s h' tk st.1 hk k,ZH st.2 hk],item:=λi s Q E hi st hQ=>wpAny_pyNext_ascii_item st.1 (Array.getElem?_eq_getElem hi) λh' hit sb =>
   hQ _ _ #[_,_,Array.getElem?_eq_getElem hi,U,st.2] #[hit,Nat.le_succ_of_le st.2] #[λb o hb e=>sb.extBut b o (λz=>hb (by simp[z])) e,U,U,U,Nat.le_succ _],done:=λs Q E st hQ=>W.done s Q E st.1 hQ,self:=λi s Q E st hQ=>W.self i s Q E st.1 hQ }
theorem Ub{R:Result->Ch->Prop}(hh:A.handled=none){x:Str}{t:Tok}(ha:x.cps.all (·< 128)=true)(S:AC)(res:AT)(c₀:Nat)(hS:s.heap.get? S=some { cls:=.type "list",data:=.seq #v[] c₀ })(hR:∀ h' tk acc c,s.toks<=tk->(∀ b o,b≠S->s.heap.get? b=some o->h'.get? b=some o)->h'.get? S=some { cls:=.type "list",dict:=none,data:=.seq acc c,slots:=#v[] }->ItemsOf (QL x s.toks) acc x.cps.size->R (.ok (.ret res)) { s with heap:=h',toks:=tk })(hn:x.cps.size<=FB) :
  EQ (model prog w) A.in1 (GT.List.listExtendWith (.ref S) (.str x t) res)
   (λfin s'=>match fin with | .done f=>R (.ok f) s' | .again c'=>c'.quiet=true/\codeAny (model prog w) A c' R s') (λe s'=>R (.error e) s') s:=by
 have ne:S≠↑s:=ZT (ZK hS);unfold GT.List.listExtendWith;show Db (wpAny_typeOf (T:="str") (v:=.str x t) U ?_);simp only[show GT.List.listSameRef (.ref S) (.str x t)=false from U,show (AT.type "str" == AT.type "list")=false by decide,show (AT.type "str" == AT.type "tuple")=false by decide,Bool.or_false,Bool.false_eq_true,if_false];show Db (wpAny_pyIter_ascii ha ?_);show Db (Rs ?_);unfold GT.List.listLengthHint;show Db (wpAny_specialOf (T:="str") (v:=.str x t) U PySem.F.str_len ?_)
 wp_delta
 show Db (wpAny_isInstance (T:="str") (v:=.str x t) (b:=true) U (by rw[isSubtype_type];kernel_rfl) ?_);change EQ _ _ (typeOf (AT.str x t) >>= _) _ _ _;show Db (wpAny_typeOf (T:="str") (v:=.str x t) U ?_);show GM ?_;rw[if_neg ()];show GM #[plainId_quiet PySem.F.plain_extend_loop _,codeAny_extend_loopS (Mp (A:=A.in1) hh ↑s x t s.toks) hn _ (λm=>ne (ZI.mp m)) _ x.cps.size 0 _ _ _ U (Z1 _) #[#[_,ZS _ U,U,U],ZC _] (Zz _ hS) (ItemsOf.nil _) λs' acc c hm hS' hacc=>?_];rw[Moved.eq_with hm];show hR s'.heap s'.toks acc c hm.toks (λb ob hb e=>hm.heap b ob (λm=>?_) (Zz _ e)) hS' hacc;rcases ZD.mp m with z | z
 .exact hb z
 .exact absurd (ZK e) (by rw[ZI.mp z];exact aaY _)
theorem Ql{Q:abK}(hh:A.handled=none){x:Str}{t:Tok}(ha:x.cps.all (·< 128)=true)(hQ:∀ h' tk acc c,s.toks<=tk->(∀ b o,s.heap.get? b=some o->h'.get? b=some o)->h'.get? ↑s=some { cls:=.type "list",dict:=none,data:=.seq acc c,slots:=#v[] }->ItemsOf (QL x s.toks) acc x.cps.size->Q (.ref ↑s) { s with heap:=h',toks:=tk })(hn:x.cps.size<=FB) :
  EQ (model prog w) A (call (.type "list") [.str x t]) Q E s:=by
 show callType_codes (Q₁:=λobj s₁=>obj=.ref ↑s/\s₁={ s with heap:=s.heap.push { cls:=.type "list",data:=.seq #v[] } }) PySem.F.called_list (PySem.F.typeCall_list_1 _) PySem.F.entry_list_init (code_list_new _ #[U,U]) λobj s₁ h₁=>?_;let(rfl,rfl):=h₁;have hS:(s.heap.push { cls:=.type "list",data:=.seq #v[] }).get? ↑s=some { cls:=.type "list",data:=.seq #v[] }:=ZS _ U;show#[#[_,hS,U],PySem.F.args_list_init_2 _ _,?_];change EQ _ _ (do let old <- GT.List.listItems (.ref ↑s);GT.List.listUpdate (.ref ↑s) (λ_=>#v[]);letGo old.toList.reverse;GT.List.listExtendWith (.ref ↑s) (.str x t) .none) _ _ _;show Db ?_;unfold GT.List.listItems;show Db (Sc hS U (GM ?_));change EQ _ _ (updateSeq ↑s (λ_=>#v[]) >>= λ_=>letGo (#v[]:Array AT).toList.reverse >>= λ_=>GT.List.listExtendWith (.ref ↑s) (.str x t) .none) _ _ _;show Db (wpAny_updateSeq hS U ?_);have hS2:=aau (Obj.mapSeq (λ_=>(#v[]:Array AT))) hS U;show Db (wpAny_letGo ?_);show Ub (A:=A.in1) hh ha _ .none _ hS2 (λh' tk acc c tl hk hS' hacc=>?_) hn;exact#[U,hQ h' tk acc c tl (λb o e=>hk b o (ZT (ZK e)) ((ZY _ _ (Ne.symm (ZT (ZK e)))).trans (Zz _ e))) hS' hacc]
end
section
variable{X:Cx}
abbrev Bo(x:Str):!Str:=x.cps.toList.map λc=>(#[#v[c]]:Str)
theorem Ha{x:Str}{lo:Nat}(h0:0 < lo){acc:Array AT}(h:ItemsOf (QL x lo) acc x.cps.size):Vals ((Bo x).map V.str) acc.toList:=by
 show vI ?_ λi u e=>?_
 .rw[Zy,Zy,aa5,aa5,h.1]
 .let(c,t,h1,h2,h3):=h.2 i u (by rw[<- aav];exact e);show#[.str #[#v[c]],?_,#[t,aah (ZL h0 h3)],h2];rw[Z8,Z8,aav,h1]
  rfl
theorem xU(hc:X.calm=true):eE X (.type "list") (λxs H Q=>∃ z,xs=[.str z]/\z.cps.all (·< 128)=true/\z.cps.size<=FB/\∀ l,H l=none->Q (.ref l) (upd H l (.lst ((Bo z).map V.str)))):=by
 intro Tl s O H xs us Q I r h;let(z,rfl,ha,hz,q):=h;let(u,rfl,t,rfl):=vals1 r;show Ql (I.ok.hd hc) ha (λh' tk acc c tl hk hS hacc=>?_) hz;have hf:H ↑s=none:=I.aD.fresh (ZC _);exact#[.ref ↑s,_,I.laid (o:=.lst ((Bo z).map V.str)) (t':=tk) hk (Nat.le_refl _) #[by rw[List.length_map,List.length_map,Array.length_toList];exact hz,acc.toList,c,Ha I.tk hacc,by simpa using hS] (Nat.lt_of_lt_of_le I.tk tl),U,q _ hf]
end
end L2
namespace DL
open PySem PySem.Spec L2
open PyProof.Rows hiding St
section
variable{X:Cx}{c:Ent}
def R1:D->D->(D->Prop)->Prop:=λa b k=>∃ i j,a=.str i/\b=.str j/\k (.bl (not ((GT.Str.occurrences j i 0 j.length 1).isEmpty)))
theorem BI:qI X c (λx y H Q=>∃ i j,x=.str i/\y=.str j/\Q (.bl (not ((GT.Str.occurrences j i 0 j.length 1).isEmpty))) H) R1:=λM s as O H x y dx dy k Q L rx ry z6r kk=>by
 let(i,j,e1,e2,hk):=z6r;subst e1;subst e2;exact#[i,j,rx,ry,kk _ hk M H _ L .refl U]
def En:abM:=λas k=>∃ z:Str,as=[.str z]/\z.cps.all (·< 128)=true/\z.cps.size<=FB/\k (.lst ((Bo z).map .str))
theorem DD:FP X c (λxs H Q=>∃ z,xs=[.str z]/\z.cps.all (·< 128)=true/\z.cps.size<=FB/\∀ l,H l=none->Q (.ref l) (upd H l (.lst ((Bo z).map V.str)))) En:=λM s as O H xs ds k Q L r z7r kk=>by
 let(z,e,ha,hz,hk):=z7r;subst e;let(v,rfl,e):=cG r;cases (show v=.str z from e);exact#[z,U,ha,hz,λl hl=>kk _ hk l (.lst ((Bo z).map V.str)) hl (jk _)]
def MQ(te:bA):eQ:=λs Q=>te s λd s1=>∃ z,d=.str z/\z.length<=FB/\Q ((Bo z).map .str) s1
theorem Il{tg e:Da}{te:bA}(he:DE X c e te):DI X c tg e (MQ te):=#[λTl s O H R I zz=>eF zz λM s0 as R0 L q k=>EG he.pe Tl s O H R I
 #[M,s0,as,_,L,q,λd s1 z8r M1 H1 v L1 E1 rv=>by
  let(z,hd,hz,q1):=z8r;subst hd;show#[z,rv,k _ s1 q1 M1 H1 _ L1 E1 (λM2 H2 G=>#[λi hi=>?_,λi d hd=>?_]) (by rw[Zy,Zy];exact hz)]
  .rw[Zy,Zy] at hi;exact hi
  .rw[Z8,Z8] at hd;let(y,hy,rfl):=ZN.mp hd;let(c,hc,rfl):=ZN.mp hy;rw[aav] at hc;show#[(Z9.mp hc).1,λx H3 hx=>.inl ?_];let(e,c',hc',rfl):=hx;rw[hc] at hc';cases hc';exact#[e,U]]]
end
end DL
namespace DL
open PySem L2
abbrev LN(r:(Str×!Str)×Tm):D:=DZ r.1 (toD r.2)
def uJ{α:Type}(W:!Str)(at_ lt:Nat)(f:α->D)(o:PR α)(R:D->Prop):Prop :=
 (∀ a k,o=some (a,W.drop k)->at_+lt<=k->k<=W.length->R (.tup [f a,.int (k:Nat)]))/\(o=none->∀ k:Nat,at_<=k->R (.tup [.bX,.int k]))
noncomputable def lR (rd:!Str->PR Tm) (c:Str) (ws:!Str):PR D :=
 if c="t" then (rd ws).map λa=>(toD a.1,a.2) else if c="n" then (bT ws).map λa=>(.str a.1,a.2) else if c="to" then (gT "to" ws).map λa=>(.str "to",a.2) else if c="k" then (fW ws).map λa=>(.str a.1,a.2) else none
noncomputable def zI (rd:!Str->PR Tm) (c:Str) (ws:!Str):PR D :=
 if c="*" then (aE (lR rd "t") ")" (ws.length+1) ws).map λa=>(.tup a.1,a.2) else if c="|" then (aQ rd (ws.length+1) ws).map λa=>(.tup (a.1.map LN),a.2) else lR rd c ws
theorem Dd{rd:!Str->PR Tm}{ws:!Str}:lR rd "t" ws=(rd ws).map λa=>(toD a.1,a.2):=by unfold lR;exact if_pos U
theorem AW{rd:!Str->PR Tm}{ws:!Str}:lR rd "n" ws=(bT ws).map λa=>(.str a.1,a.2):=by unfold lR;rw[if_neg (-())];exact if_pos U
theorem zm{rd:!Str->PR Tm}{ws:!Str}:lR rd "to" ws=(gT "to" ws).map λa=>(.str "to",a.2):=by unfold lR;rw[if_neg (-()),if_neg (-())];exact if_pos U
theorem Hs{rd:!Str->PR Tm}{ws:!Str}:lR rd "k" ws=(fW ws).map λa=>(.str a.1,a.2):=by unfold lR;rw[if_neg (-()),if_neg (-()),if_neg (-())];exact if_pos U
theorem rJ{rd:!Str->PR Tm}{c:Str}{ws:!Str}(h:c∉(["t","n","to","k"]:!Str)):lR rd c ws=none:=by
 simp only[List.mem_cons,List.not_mem_nil,or_false,not_or] at h;unfold lR;rw[if_neg h.1,if_neg h.2.1,if_neg h.2.2.1,if_neg h.2.2.2]
theorem xW{rd:!Str->PR Tm}{ws:!Str}:zI rd "*" ws=(aE (lR rd "t") ")" (ws.length+1) ws).map λa=>(.tup a.1,a.2):=by unfold zI;exact if_pos U
theorem sQ{rd:!Str->PR Tm}{ws:!Str}:zI rd "|" ws=(aQ rd (ws.length+1) ws).map λa=>(.tup (a.1.map LN),a.2):=by unfold zI;rw[if_neg (-())];exact if_pos U
theorem gS{rd:!Str->PR Tm}{c:Str}{ws:!Str}(h1:c≠"*")(h2:c≠"|"):zI rd c ws=lR rd c ws:=by unfold zI;rw[if_neg h1,if_neg h2]
def GF{α:Type}(g:!Str->PR α):Prop:=∀ ws a r,g ws=some (a,r)->∃ p,ws=p++r/\0 < p.length
theorem IP(n:Nat):GF (aw n):=λws a r h=>by
 let(g,e):=lC n ws a r h;let(c,l,e2,_):=ow g;exact#[a.tk,e,by rw[e2];simp]
theorem CQ:GF bT:=λws a r h=>#[[a],(gH h).2,by simp]
theorem B6:GF fW:=λws a r h=>#[[a],(pE h).2,by simp]
theorem sM{α β:Type}{g:!Str->PR α}(h:GF g)(f:α->β):GF λws=>(g ws).map λa=>(f a.1,a.2):=λws b r e=>by
 let(a,h1,h2):=ZN.mp e;cases h2;exact h ws a.1 a.2 h1
theorem Lq{n:Nat}{c:Str}:GF (lR (aw n) c):=λws b r e=>by
 by_cases h:c∈(["t","n","to","k"]:!Str)
 .simp only[List.mem_cons,List.not_mem_nil,or_false] at h;rcases h with rfl | rfl | rfl | rfl
  .rw[Dd] at e;exact sM (IP n) toD ws b r e
  .rw[AW] at e;exact sM CQ D.str ws b r e
  .rw[zm] at e;let(a,h1,h2):=ZN.mp e;cases h2;exact#[[("to":Str)],qk (-()) h1,by simp]
  .rw[Hs] at e;exact sM B6 D.str ws b r e
 .rw[rJ h] at e;cases e
theorem oI{α:Type}{g:!Str->PR α}(h:GF g){ws r:!Str}{a:α}(e:g ws=some (a,r)):r.length < ws.length:=by
 let(p,h1,h2):=h ws a r e;rw[h1,ZE];cbv
theorem wZ{α:Type}{g:!Str->PR α}(h:GF g){en:Str}:∀ {m:Nat} {ws:!Str},ws.length+1<=m->aE g en m ws=aE g en (ws.length+1) ws:=by
 have key:∀ (k:Nat) (ws:!Str) (m m':Nat),ws.length<=k->ws.length+1<=m->ws.length+1<=m'->aE g en m ws=aE g en m' ws:=λk=>by
  induction k with
  | zero =>
   intro ws m m' hk h1 h2;obtain⟨m,rfl⟩:∃ j,m=j+1:=#[m - 1,by cbv];obtain⟨m',rfl⟩:∃ j,m'=j+1:=#[m' - 1,by cbv];rw[aE,aE];split
   .rfl
   .cases e:g ws with
    | none=>rfl
    | some a =>
     have:=oI h (a:=a.1) (r:=a.2) e;cbv
  | succ k ih =>
   intro ws m m' hk h1 h2;obtain⟨m,rfl⟩:∃ j,m=j+1:=#[m - 1,by cbv];obtain⟨m',rfl⟩:∃ j,m'=j+1:=#[m' - 1,by cbv];rw[aE,aE];split
   .rfl
   .cases e:g ws with
    | none=>rfl
    | some a =>
     have:=oI h (a:=a.1) (r:=a.2) e;change (aE g en m a.2).bind _=(aE g en m' a.2).bind _;rw[ih a.2 m m' (by cbv) (by cbv) (by cbv)]
 exact λ{m ws} hm=>key ws.length ws m _ (ZC _) hm (ZC _)
theorem mf{α β:Type}{g:!Str->PR α}{f:α->β}{en:Str}:∀ {m:Nat} {ws:!Str},aE (λws=>(g ws).map λa=>(f a.1,a.2)) en m ws=(aE g en m ws).map λb=>(b.1.map f,b.2)
 | 0,ws=>rfl
 | m+1,ws=>by
  rw[aE,aE];split
  .rfl
  .cases e:g ws with
   | none=>rfl
   | some a =>
    change (aE _ en m a.2).bind _=((aE g en m a.2).bind _).map _;rw[mf];cases aE g en m a.2<;>rfl
theorem yw{n:Nat}:GF (kh (aw n)):=λws a r h=>by
 let(_,_,e):=yC (lC n) h;show#[a.1.1::(a.1.2++(":":Str)::a.2.tk),by rw[e];simp,by simp]
theorem u9{n:Nat}:∀ {m:Nat} {ws:!Str},ws.length+1<=m->aQ (aw n) m ws=aQ (aw n) (ws.length+1) ws:=by
 have key:∀ (k:Nat) (ws:!Str) (m m':Nat),ws.length<=k->ws.length+1<=m->ws.length+1<=m'->aQ (aw n) m ws=aQ (aw n) m' ws:=λk=>by
  induction k with
  | zero =>
   intro ws m m' hk h1 h2;obtain⟨m,rfl⟩:∃ j,m=j+1:=#[m - 1,by cbv];obtain⟨m',rfl⟩:∃ j,m'=j+1:=#[m' - 1,by cbv];rw[aQ,aQ];split
   .cases e:kh (aw n) ws.tail with
    | none=>rfl
    | some a =>
     have:=oI yw (a:=a.1) (r:=a.2) e;rw[abC] at this;cbv
   .rfl
  | succ k ih =>
   intro ws m m' hk h1 h2;obtain⟨m,rfl⟩:∃ j,m=j+1:=#[m - 1,by cbv];obtain⟨m',rfl⟩:∃ j,m'=j+1:=#[m' - 1,by cbv];rw[aQ,aQ];split
   .cases e:kh (aw n) ws.tail with
    | none=>rfl
    | some a =>
     have:=oI yw (a:=a.1) (r:=a.2) e;rw[abC] at this;change (aQ (aw n) m a.2).bind _=(aQ (aw n) m' a.2).bind _;rw[ih a.2 m m' (by cbv) (by cbv) (by cbv)]
   .rfl
 exact λ{m ws} hm=>key ws.length ws m _ (ZC _) hm (ZC _)
theorem drop_tail{α:Type}(W:!α)(k:Nat):(W.drop k).tail=W.drop (k+1):=by rw[List.tail_drop]
theorem fb{W:!Str}{k:Nat}{x:Str}(h:seen (W.drop k)=x)(hx:x≠""):k < W.length:=by
 by_cases hk:k < W.length
 .exact hk
 .rw[aaS (by cbv)] at h;exact absurd h.symm hx
theorem jf{W:!Str}{j k:Nat}(h:j<=k){x:Str}:(W.drop k).count x<=(W.drop j).count x:=by
 have e:W.drop k=(W.drop j).drop (k - j):=by rw[List.drop_drop];congr 1;cbv
 rw[e];exact List.Sublist.count_le _ (List.drop_sublist _ _)
theorem BN{W:!Str}{k:Nat}(h:seen (W.drop k)="("):(W.drop (k+1)).count ("(":Str)+1=(W.drop k).count ("(":Str):=by
 have hk:=fb h (-());have e:=fG h (-());rw[drop_tail] at e;rw[e,aaZ]
noncomputable def jM (rd:!Str->PR Tm):!Str->!Str->PR (!D)
 | [],ws=>some ([],ws)
 | c::cs,ws=>(zI rd c ws).bind λa=>(jM rd cs a.2).bind λb=>some (a.1::b.1,b.2)
def gv(h:Str):!Str :=
 if h="+"\/h="-"\/h="*" then ["t","t"] else if h="zero" then ["t","t","t"] else if h="let" then ["n","t","t"] else if h="make" then ["n","*"] else if h="ask" then ["t","n","*"] else if h="new" then ["k","|"] else if h="case" then ["t","to","k","|"] else ["x"]
def qr(h:Str)(ds:!D):D:=if h="case" then .tup (.str h::ds.eraseIdx 1) else if h="+"\/h="-"\/h="*" then .tup (.str "op"::.str h::ds) else .tup (.str h::ds)
noncomputable def Cz (rd:!Str->PR Tm) (h:Str) (ws:!Str):PR D:=(jM rd (gv h) ws).bind λb=>if seen b.2=")" then some (qr h b.1,b.2.tail) else none
theorem mI:∀ rs:!((Str×!Str)×Tm),cW (rs.map (·.1)) ((rs.map (·.2)).map toD)=rs.map LN
 | []=>rfl
 | r::rs=>by
  rw[ZG,ZG,ZG,ZG,cW,mI rs]
theorem pD(f:Fm)(ks:!Tm):toD (.node f ks)=Bs f (ks.map toD):=by
 rw[<- toDs_map]
 rfl
theorem FN{t:Tm}{ws:!Str}:ky t ws=if seen ws=")" then some (t,ws.tail) else none:=by
 unfold ky gT;split<;>rfl
theorem CG{n:Nat}{h:Str}{ws:!Str}:(cK (aw n) h ws).map (λa=>(toD a.1,a.2))=Cz (aw n) h ws:=by
 have it1:∀ ws,zI (aw n) "t" ws=(aw n ws).map λa=>(toD a.1,a.2):=λws=>(gS (-()) (-())).trans Dd;have it2:∀ ws,zI (aw n) "n" ws=(bT ws).map λa=>(.str a.1,a.2):=λws=>(gS (-()) (-())).trans AW;have it3:∀ ws,zI (aw n) "k" ws=(fW ws).map λa=>(.str a.1,a.2):=λws=>(gS (-()) (-())).trans Hs;have it4:∀ ws,zI (aw n) "to" ws=(gT "to" ws).map λa=>(.str "to",a.2):=λws=>(gS (-()) (-())).trans zm;have it5:∀ ws,zI (aw n) "*" ws=(aE (aw n) ")" (ws.length+1) ws).map λa=>(.tup (a.1.map toD),a.2):=λws=>by
  rw[xW];have:lR (aw n) "t"=λws=>(aw n ws).map λa=>(toD a.1,a.2):=funext λws=>Dd;rw[this,mf];cases aE (aw n) ")" (ws.length+1) ws<;>rfl
 have fi:∀ {f:Fm} {ks:!Tm} {ds:!D} {ws:!Str},toD (.node f ks)=qr h ds->(ky (.node f ks) ws).map (λa=>(toD a.1,a.2))=if seen ws=")" then some (qr h ds,ws.tail) else none:=λ{f ks ds ws} e=>by
  rw[FN];split
  .rw[<- e];rfl
  .rfl
 unfold cK Cz gv;by_cases h1:h="+"\/h="-"\/h="*"
 .rw[if_pos h1,if_pos h1];simp only[jM,it1];cases aw n ws with
  | none=>rfl
  | some a =>
   change ((aw n a.2).bind _).map _=_;simp only[Option.map_some,Option.bind_some];cases aw n a.2 with
   | none=>rfl
   | some b =>
    show fi ?_;rw[pD];unfold qr;rw[if_neg (by rcases h1 with rfl | rfl | rfl<;>decide+kernel),if_pos h1]
    rfl
 rw[if_neg h1,if_neg h1];have hop:∀ ds,h≠"case"->qr h ds=.tup (.str h::ds):=λds hc=>by
  unfold qr;rw[if_neg hc,if_neg h1]
 by_cases h2:h="zero"
 .rw[if_pos h2,if_pos h2];simp only[jM,it1];cases aw n ws with
  | none=>rfl
  | some a =>
   change ((aw n a.2).bind _).map _=_;simp only[Option.map_some,Option.bind_some];cases aw n a.2 with
   | none=>rfl
   | some b =>
    change ((aw n b.2).bind _).map _=_;simp only[Option.map_some,Option.bind_some];cases aw n b.2 with
    | none=>rfl
    | some c =>
     show fi ?_;rw[pD,hop _ (by rw[h2];decide+kernel),h2]
     rfl
 rw[if_neg h2,if_neg h2];by_cases h3:h="let"
 .rw[if_pos h3,if_pos h3];simp only[jM,it1,it2];cases bT ws with
  | none=>rfl
  | some a =>
   change ((aw n a.2).bind _).map _=_;simp only[Option.map_some,Option.bind_some];cases aw n a.2 with
   | none=>rfl
   | some b =>
    change ((aw n b.2).bind _).map _=_;simp only[Option.map_some,Option.bind_some];cases aw n b.2 with
    | none=>rfl
    | some c =>
     show fi ?_;rw[pD,hop _ (by rw[h3];decide+kernel),h3]
     rfl
 rw[if_neg h3,if_neg h3];by_cases h4:h="make"
 .rw[if_pos h4,if_pos h4];simp only[jM,it5,it2];cases bT ws with
  | none=>rfl
  | some a =>
   change ((aE (aw n) ")" (a.2.length+1) a.2).bind _).map _=_;simp only[Option.map_some,Option.bind_some];cases aE (aw n) ")" (a.2.length+1) a.2 with
   | none=>rfl
   | some b =>
    show fi ?_;rw[pD,hop _ (by rw[h4];decide+kernel),h4]
    rfl
 rw[if_neg h4,if_neg h4];by_cases h5:h="ask"
 .rw[if_pos h5,if_pos h5];simp only[jM,it5,it2,it1];cases aw n ws with
  | none=>rfl
  | some a =>
   change ((bT a.2).bind _).map _=_;simp only[Option.map_some,Option.bind_some];cases bT a.2 with
   | none=>rfl
   | some b =>
    change ((aE (aw n) ")" (b.2.length+1) b.2).bind _).map _=_;simp only[Option.map_some,Option.bind_some];cases aE (aw n) ")" (b.2.length+1) b.2 with
    | none=>rfl
    | some c =>
     show fi ?_;rw[pD,hop _ (by rw[h5];decide+kernel),h5]
     rfl
 rw[if_neg h5,if_neg h5];by_cases h6:h="new"
 .rw[if_pos h6,if_pos h6];simp only[jM,it3,sQ];cases fW ws with
  | none=>rfl
  | some a =>
   change ((aQ (aw n) (a.2.length+1) a.2).bind _).map _=_;simp only[Option.map_some,Option.bind_some];cases aQ (aw n) (a.2.length+1) a.2 with
   | none=>rfl
   | some b =>
    show fi ?_;rw[pD,hop _ (by rw[h6];decide+kernel),h6];change D.tup [.str "new",.str a.1,.tup (cW _ _)]=_;rw[mI]
 rw[if_neg h6,if_neg h6];by_cases h7:h="case"
 .rw[if_pos h7,if_pos h7];simp only[jM,it1,it4,it3,sQ];cases aw n ws with
  | none=>rfl
  | some a =>
   change ((gT "to" a.2).bind _).map _=_;simp only[Option.map_some,Option.bind_some];cases gT "to" a.2 with
   | none=>rfl
   | some u =>
    change ((fW u.2).bind _).map _=_;simp only[Option.map_some,Option.bind_some];cases fW u.2 with
    | none=>rfl
    | some x =>
     change ((aQ (aw n) (x.2.length+1) x.2).bind _).map _=_;simp only[Option.map_some,Option.bind_some];cases aQ (aw n) (x.2.length+1) x.2 with
     | none=>rfl
     | some b =>
      show fi ?_;rw[pD];unfold qr;rw[if_pos h7,h7];change D.tup [.str "case",toD a.1,.str x.1,.tup (cW (b.1.map (·.1)) ((b.1.map (·.2)).map toD))]=_;rw[mI]
      rfl
 rw[if_neg h7,if_neg h7];simp only[jM];rw[gS (-()) (-()),rJ (-())]
 rfl
end DL
namespace DL
open PySem L2
open PySem.Builtin.Str
def qa(c:Nat)(n:!Nat)(a:Nat):!Nat:=if a=c then n else [a]
theorem qo{c:Nat}{n:!Nat}:∀ {l:!Nat},c∉l->l.flatMap (qa c n)=l
 | [],_=>rfl
 | a::l,h=>by
  have h1:a≠c:=λe=>h (e▸Zx);rw[ZA,qo λm=>h (Zw _ m),qa,if_neg h1]
  rfl
theorem vB{c:Nat}{n:Str}:∀ (ps:!Str),(∀ p∈ps,c∉cd p)->cd (PySem.Str.join n ps)=(cd (PySem.Str.join #[#v[c]] ps)).flatMap (qa c (cd n))
 | [],_=>rfl
 | [a],h=>by
  change cd a=(cd a).flatMap _;rw[qo (h a Zx)]
 | a::b::l,h=>by
  change cd (a++n++PySem.Str.join n (b::l))=(cd (a++#[#v[c]]++PySem.Str.join #[#v[c]] (b::l))).flatMap _;rw[b6,b6,b6,b6,Z0,Z0,qo (h a Zx),vB (b::l) λp hp=>h p (Zw _ hp)]
  congr 2
  change cd n=qa c (cd n) c++[];rw[qa,if_pos U,ZM]
theorem ot{c:Nat}(hc:c < 128)(z n:Str):cd (Txt.replace z #[#v[c]] n)=(cd z).flatMap (qa c (cd n)):=by
 have hj:PySem.Str.join #[#v[c]] (Txt.split z #[#v[c]])=z:=StrLaws.join_split _ _;have hf:∀ p∈Txt.split z #[#v[c]],c∉cd p:=StrLaws.split_free z c;have key:=vB (n:=n) _ hf;rw[hj] at key;rw[<- key];unfold Txt.replace;have hy:(((#[#v[c]]:Str).length == 0&&n.length == 0))=false:=rfl;rw[hy,Bool.or_false];have e:Txt.split z #[#v[c]]=if (decide (z.length < (#[#v[c]]:Str).length)||decide (strKind z < strKind #[#v[c]]))=true then [z] else if (occurrences z #[#v[c]] 0 z.length (z.length+1)).isEmpty=true then [z] else partsBetween z (occurrences z #[#v[c]] 0 z.length (z.length+1)) (#[#v[c]]:Str).length:=rfl;rw[e];cases ho:(occurrences z #[#v[c]] 0 z.length (z.length+1)).isEmpty with
 | true =>
  rw[if_pos U];have:(if (decide (z.length < (#[#v[c]]:Str).length)||decide (strKind z < strKind #[#v[c]]))=true then [z] else if true=true then [z] else partsBetween z (occurrences z #[#v[c]] 0 z.length (z.length+1)) (#[#v[c]]:Str).length)=[z]:=by
   split<;>rfl
  rw[this]
  rfl
 | false =>
  rw[if_neg (),if_neg ?_,if_neg ()]
  .rw[StrLaws.glued_eq_join]
  .intro h;rw[abl,decide_eq_true_iff,decide_eq_true_iff] at h;rcases h with h | h
   .have h0:z.cps.size=0:=by
     have:z.length < 1:=h;change z.length=0;cbv
    have:z=#[#v[]]:=g9 (show cd z=[] from Z6 (by rw[aG];exact h0));rw[this] at ho;have f:=StrLaws.found_one #[#v[]] c;rw[show (occurrences #[#v[]] #[#v[c]] 0 (#[#v[]]:Str).length 1).isEmpty=false from ho] at f;simp at f
   .have e1:GT.Str.strKind (#[#v[c]]:Str)=1:=by
     unfold GT.Str.strKind;rw[if_pos (by simp;cbv)]
    have e2:1<=GT.Str.strKind z:=by
     unfold GT.Str.strKind;split
     .decide
     .split<;>decide
    cbv
theorem GK(l:!Nat):(l.flatMap (qa 40 [40,32])).flatMap (qa 41 [32,41])=dW l:=by
 induction l with
 | nil=>rfl
 | cons a l ih =>
  rw[ZA,Z0,ih,cw]
  congr 1
  unfold qa rep1;by_cases h1:a=40
  .rw[if_pos h1,if_pos h1];rfl
  .rw[if_neg h1,if_neg h1];by_cases h2:a=41
   .simp[h2]
   .simp[h2]
theorem tX:∀ l:!Nat,(dW l).length<=2 * l.length
 | []=>ZC _
 | a::l=>by
  have:=tX l;rw[cw,ZE,ZJ];have:(rep1 a).length<=2:=by
   unfold rep1;split
   .decide
   .split<;>simp
  cbv
end DL
namespace DL
open PySem L2
theorem CO{α:Type}{g:qL}{tb:jX}{R:gD}(f:α->D)(I:!α->DS->Prop){l:!α}(h0:∀ s,I l s->R.nx s)(h1:∀ dn x td s (E:gD),l=dn++x::td->I dn s->(∀ s',I (dn++[x]) s'->E.nx s')->(∀ d,R.rt d->E.rt d)->g (f x) s λs1=>tb E s1)(s:DS)(h:I [] s):mJ g tb R (l.map f) s:=by
 show lV (λxs s=>∃ dn td,l=dn++td/\xs=td.map f/\I dn s) ?_ ?_ _ s #[[],l,U,U,h]
 .rintro s ⟨dn,td,e,hx,hi⟩;cases td with
  | nil=>rw[ZM] at e;subst e;exact h0 s hi
  | cons a b=>cases hx
 .rintro x xs s E ⟨dn,td,e,hx,hi⟩ hN hE;cases td with
  | nil=>cases hx
  | cons a td =>
   injection hx with e1 e2;subst e1 e2;exact h1 dn a td s E e hi (λs' hs=>hN s' #[dn++[a],td,by rw[e];simp,U,hs]) hE
section
variable{X:Cx}{c:Ent}{a b:Da}{ta tb:bA}{pos:Pos}
end
section
open PyProof.Rows
variable{P:Fr}{w:Fa}{K:Frag}{mg:Str->Option AT}{base:Ev}{q:D3}{k nos:Nat}{g:Ba}{t:abM}{N:!Str}
end
theorem oz{α:Type}{x y:α}{r:!α}:kW (x::y::r) 1=some y:=gu (j:=1) U
end DL
namespace DL
open PySem PySem.Spec L2
open PyProof.Rows hiding St
section
variable{X:Cx}{k m:Nat}{d l r:AC}{M0:AC->Prop}{H0:Hp}{q:D3}{x:Str}{p pos:Pos}
def F3(t:AC->!D->D->(D->D->Prop)->Prop)(t0 t1 t2:bA):bA:=λs Q=>t0 s λd0 s1=>t1 s1 λd1 s2=>t2 s2 λdn s3=>∀ r,t r [d0,d1,.hJ r] dn λx _=>Q x s3
theorem EE{t:AC->!D->D->(D->D->Prop)->Prop}{e0 e1 e2:Da}{t0 t1 t2:bA}(hr:bF m X.A)(G:C4 X.prog X.w X.K X.mg X.base aV q k (GB X.K d l t))(h0:DE X #[bH d l,M0,H0] e0 t0)(h1:DE X #[bH d l,M0,H0] e1 t1)(h2:DN X #[bH d l,M0,H0] e2 t2)(hx:(q.1=x)⁻¹)(hk:k<=m:=by ac_rfl)(hg:(Gl X x)⁻¹)(fM: ~~~(abP x))(he:(Go [e0,e1,e2] X.env=(false,eval e0 X.env)::Go [e1,e2] X.env)⁻¹)(Nd:(Go [e1,e2] X.env=(false,eval e1 X.env)::Go [e2] X.env)⁻¹)(W3:(Go [e2] X.env=[(false,eval e2 X.env)])⁻¹)(dI:((KB pos (Go [e1,e2] X.env)).any (·.1)=false)⁻¹) :
  DE X #[bH d l,M0,H0] (.Call (.Name x p) [e0,e1,e2] [] pos) (F3 t t0 t1 t2):=by
 subst hx;let(f,fd,G,F,hm,hb):=G;show#[(cU G (hr.mono hk) hg hm F.kp hb .nil (E:=E0) lh (ax h0.pe (ax h1.pe (ax h2.pe aM W3) Nd) he) fM he dI).imp λO H Q zz=>eF zz λM s as R L q kk=>?_];show#[M,s,as,_,L,q,λd0 s1 q1 M1 H1 v0 L1 E1 r0=>#[M1,s1,as,_,L1,q1,λd1 s2 q2 M2 H2 v1 L2 E2 r1=>#[M2,s2,as,_,L2,q2,λdn s4 q4 M4 H4 a o L4 E4 ha ro nm ng nw hz hn=>?_]]];have r04:=E4.rep L2 (E2.rep L1 r0);have r14:=E4.rep L2 r1;have B4:=L4.base.here;show#[a,M4,[d0,d1,.hJ a],_,dn,o,B4,#[nm,ng],ha,ro,#[v0,_,U,r04,v1,_,U,r14,.ref a,_,U,U,U],q4 a,λx _ rx M' H' v o' B yt ro' nm' rv=>?_];have nb:∀ b u,H2 b=some u->¬ dY s2 as b->b≠a:=λb u e w z=>by
  rcases hn with hn | hn
  .rw[z,hn] at e;cases e
  .exact w (z▸hn)
 have Ed:Ext #[bH d l,M0,H0] as M2 s2 H2 M4 s4 (del H4 a):=#[E4.sub,E4.new,λb u e g w=>by rw[ia (nb b u e w)];exact E4.keep b u e g w,E4.iY];have Bd:Base #[bH d l,M0,H0] M4 (del H4 a):=#[(bH d l).loc H4 _ L4.base.lQ λb u g e=>by
   have nb:b≠a:=λz=>by
    rcases g with g | ⟨φ,f⟩
    .subst z;exact ng g
    .subst f;rw[z,ha] at e;cases e;exact ro.next
   rw[ia nb];exact e,λb u e g=>by
   have nb:b≠a:=λz=>by
    subst z;have e:H0 b=some u:=e;rw[show H0 b=none from hz] at e;cases e
   rw[ia nb];exact L4.base.fr b u e g,λb m=>by
   let(u,e):=L4.base.md b m;have nb:b≠a:=λz=>by subst z;exact nm m
   exact#[u,by rw[ia nb];exact e],L4.base.mo,L4.base.m0,L4.base.mn]
 have Ef:Ext #[bH d l,M0,H0] as M4 s4 (del H4 a) M' s4 H':=#[B.m0,λb m=>(B.mn b m).elim .inl λz=>.inr (.inl z),λb u e g _=>B.fr b u e g,λ_ h=>h];exact kk x s4 rx M' H' v (L4.kc U U B nm' nm hz nw) (E1.trans L1.base (E2.trans L2.base (Ed.trans Bd Ef))) rv
end
section
open PyProof.Rows
variable{P:Fr}{w:Fa}{K:Frag}{mg:Str->Option AT}{base:Ev}{q:D3}{k m:Nat}{sp:Sp}
theorem C4.ra{d l:AC}{t:AC->!D->D->(D->D->Prop)->Prop}(h:∀ r,C4 P w K mg base aV q k (GU K d l r (t r))):C4 P w K mg base aV q k (GB K d l t):=by
 let(f,fd,_,F,m,b):=h default;show#[f,fd,Ru λr=>?_,F,m,b];let(f2,fd2,J,F2,m2,_):=h r;rw[m] at m2;cases m2;let(oc,od,kV,doc,pm,an,bp,ct,vv,e,lk,_):=id F.ex;let(oc2,od2,kV2,doc2,pm2,an2,cdv2,ct2,osl2,e2,lk2,_):=id F2.ex;rw[lk] at lk2;cases lk2;exact J
end
end DL
namespace cj
open PySem L2
section
variable{P:Fr}{w:Fa}{K:Frag}{mg:Str->Option AT}{base:Ev}
abbrev VO:!Str:=["_law_deal_here","_law_many_here","_law_number","_law_one","_law_other"]
theorem Es{st:Fk}{f:AC}{fd:IR}(F:pJ K "_law_draw" "_law_draw" st f fd)(sc:ar VO ["_law_deal_here","_law_many_here"] (ag st))(hb:∀ (bp:AT) (A:GE) (outer:!Env) (s:Ch) (H:Hp) (E:XK),(A.deeper (PyProof.Rows.envOfC "_law_draw" (ag st) ↑s f bp)).units+1 < cLine ->
   nX (jO aV P w K mg base VO "_law_draw" (ag st) f bp A outer s H E).wD (aq st) (NI K)) :
  br P w K mg base aV 1 f fd ["_law_deal_here","_law_many_here"] xM:=by
 show F.ok sc (λvs H Q E h=>?_) (λbp A outer s H vs Q E hr h=>?_)
 .let(d,l,m,rfl,_):=h
  rfl
 .let(d,l,m,rfl,D,hm,hm2,k):=h;show#[_,hb _ _ _ _ _ _ (HV hr),?_];let(a0,b0,ns0,hd0,hl0,ha0,ha0',hb0,hns0):=D.ex;have ndl:d≠l:=D.ne
  -- while
  show#[λμ O H1=>∃ (b:Int) (ns:!Int),O=[some (.ref d),some (.int m),none,none,none]/\H1 d=some (.dK (cz a0 b l))/\H1 l=some (.lst (ns.map V.int))/\0<=b/\(∀ n∈ns,0<=n)/\LK d l H H1/\μ=ns.length,
   #[ns0.length,b0,ns0,U,hd0,hl0,hb0,hns0,LK.refl _ _ _,U],?_]
  rintro μ O H1 ⟨b,ns,rfl,hd,hl,hb,Gy,bt,rfl⟩
  -- behind the loop
  have rest:vE
    { nx:=λ_ H'=>Q .bX H',rt:=Q } [some (.ref d),some (.int m),none,none,none] H1:=by
   show#[_,U,d,_,U,o6 hd,?_];show#[_,U,_,_,U,U,_,U,kY (λhpos=>?_) (λhpos=>?_)]
   .have hpos:0 < b:=of_decide_eq_true hpos;show#[_,U,_,U,_,_,U,U,#[hm,hm2],_,U,d,_,U,nA hd,?_];show#[_,U,_,U,_,_,U,U,hm,?_];show k (b % m) _ (aaW _ (by cbv)) (aaT _ hm) #[a0,b / m,ns,aj,by rw[ai (Ne.symm ndl)];exact hl,ha0,ha0',Int.ediv_nonneg hb (by cbv),Gy] λc o e h1 h2=>?_;rw[ai h1];exact bt c o e h1 h2
   .refine#[_,U,d,_,U,qh hd,_,_,U,U,.inr #[by decide,by decide],_,_,U,U,_,_,U,U,(by change (0:Int) < 2147483647;decide),?_];have h1:0<=(a0 * 48271+7919) % 2147483647:=aaW _ ();have h2:(a0 * 48271+7919) % 2147483647 < 2147483647:=aaT _ ();show#[_,U,_,_,U,U,.inr #[by decide,by decide],_,_,U,U,_,_,U,U,(by change (0:Int) < 2147483399;decide),_,U,d,_,U,AB hd,?_];have h3:0<=((a0 * 48271+7919) % 2147483647 * 40692+104729) % 2147483399:=aaW _ ();have h4:((a0 * 48271+7919) % 2147483647 * 40692+104729) % 2147483399 < 2147483399:=aaT _ ();show#[_,U,d,_,U,qh aj,_,U,d,_,U,qh aj,_,_,U,U,.inl #[by cbv,by cbv],_,_,U,U,(by change (0:Int) < 2147483563;decide),?_];show#[_,U,_,U,_,_,U,U,.inl #[by cbv,by cbv],_,_,U,U,(by change (0:Int) < 2147483629;decide),_,_,U,U,.inr #[by decide,by decide],_,U,_,_,U,U,_,U,_,_,U,U,hm,?_];show k _ _ (aaW _ (by cbv)) (aaT _ hm) #[_,b,ns,aj,by rw[ai (Ne.symm ndl)];exact hl,h3,by cbv,hb,Gy] λc o e h1 h2=>?_;rw[ai h1];exact bt c o e h1 h2
  show#[_,U,d,_,U,o6 hd,U,_,U,?_];show kY (λh0=>?_) (λh0=>?_)
  .refine#[_,U,d,_,U,vM hd,l,_,U,.inl (dM.of hl),_,_,U,U,_,U,?_];show kY (λh1=>?_) (λh1=>?_)
   .have h1:(0:Int) < ((ns.map V.int).length:Int):=of_decide_eq_true h1;rw[Zy] at h1;obtain⟨init,x,rfl⟩:∃ init x,ns=init++[x]:=by
     rcases List.eq_nil_or_concat ns with e | ⟨i,x,e⟩
     .subst e;simp at h1
     .exact#[i,x,by simpa using e]
    show#[λO' H'=>∃ (b:Int) (ns:!Int),O'=[some (.ref d),some (.int m),none,none,none]/\H' d=some (.dK (cz a0 b l))/\H' l=some (.lst (ns.map V.int))/\0<=b/\(∀ n∈ns,0<=n)/\LK d l H H'/\ns.length < (init++[x]).length,?_,?_]
    .rintro O' H' ⟨b',ns',e1,e2,e3,e4,e5,e6,e7⟩;exact#[ns'.length,e7,b',ns',e1,e2,e3,e4,e5,e6,U]
    .refine#[_,U,d,_,U,vM hd,.inl #[U,_,dM.of hl],l,_,.int x,U,U,hl,by simp,?_];have hd':(upd H1 l (.lst ((init++[x]).map V.int).dropLast)) d=some (.dK (cz a0 b l)):=by rw[ai ndl];exact hd
     show#[_,U,d,_,U,nA hd',?_];show#[x,init,U,aj,?_,Gy x (by simp),λn hn=>Gy n (by simp[hn]),λc o e h1 h2=>?_,by simp]
     .rw[ai (Ne.symm ndl),aj,ZO,ZG,aa2,abI]
     .rw[ai h1,ai h2];exact bt c o e h1 h2
   .exact rest
  .exact rest
end
end cj
section
local macro_rules
 | `(tactic|left)=>`(tactic|first|show#[U,?_]|show#[#[U,U],?_]|show#[#[U,U,U],?_]|show#[.inl U,?_]|show#[.inr U,?_]|show#[DL.bB,?_]|show#[DL.oz,?_]|show#[DL.QQ,?_]|show#[L2.iZ _ _,?_]|(apply Exists.intro;left)|(show Or.inl ?_;left)|(show Or.inr ?_;left))
local macro_rules
 | `(tactic|right)=>`(tactic|repeat (first|show DL.eP (-()) ?_|show DL.mD (-()) ?_|left))
section
local macro_rules
 | `(tactic|trivial)=>`(tactic|repeat (first | show DL.eP (-()) ?_ | show DL.mD (-()) ?_  | show#[_,U,?_] | show#[_,_,_,U,U,U,?_] | show#[_,_,_,U,U,DL.bB,?_] | show#[_,_,U,U,?_] | show#[#[U,U,U],?_] | show#[_,.inr U,#[U,U],?_] | show#[_,.inl U,#[U,U],?_] | show#[_,.inr U,?_] | show#[_,.inl U,?_] | show#[_,_,U,U,U,?_] | show .inl #[_,U,?_] | show .inr #[_,_,U,U,?_] | show#[_,_,_,U,U,?_] | show#[#[U,U],?_]))
namespace HL
open PySem L2 DL
abbrev ab0(P w K mg base e n t):=DL.C4 P w K mg base aV e n (DL.b5 K .no t)
abbrev ab1(P w K mg base e n t):=DL.C4 P w K mg base aV e n (DL.ES K .no t)
def top(i:Nat):Fk:=PySem.Challenge.pw_sideturn_k07_terms_amiss.main.body.getD i (.Pass #[0,0,0,0])
abbrev dw:Fk:=top 14
abbrev pR:D3:=("lies_between",dw,["text","first","last"])
theorem nZ:ar ["text","first","last"] ["text","first","last"] (ag dw):=fQ
abbrev mT:Fk:=top 15
abbrev jj:D3:=("is_name",mT,["text"])
theorem xy:ar ["text"] ["text"] (ag mT):=fQ
abbrev qZ:Fk:=top 16
abbrev jv:D3:=("is_kind",qZ,["text"])
theorem wJ:ar ["text"] ["text"] (ag qZ):=fQ
abbrev iQ:Fk:=top 17
abbrev iT:D3:=("is_number",iQ,["text"])
theorem sE:ar ["text"] ["text"] (ag iQ):=fQ
abbrev Cd:Fk:=top 19
abbrev dO:D3:=("need",Cd,["holds"])
theorem Fv:ar ["holds"] ["holds"] (ag Cd):=fQ
abbrev rq:Fk:=top 20
abbrev ef:D3:=("name_in",rq,["item"])
theorem xS:ar ["item"] ["item"] (ag rq):=fQ
abbrev sj:Fk:=top 21
abbrev gQ:D3:=("kind_in",sj,["item"])
theorem xJ:ar ["item"] ["item"] (ag sj):=fQ
abbrev rX:Fk:=top 22
abbrev eu:D3:=("term_in",rX,["item"])
theorem xk:ar ["item"] ["item"] (ag rX):=fQ
abbrev qf:Fk:=top 23
abbrev c8:D3:=("terms_in",qf,["items"])
theorem vc:ar ["items"] ["items"] (ag qf):=fQ
abbrev eO:Fk:=top 24
theorem lZ:ar ["items","sign","groups","item"] ["items","sign"] (ag eO):=fQ
abbrev i5:Fk:=top 25
abbrev eJ:D3:=("inner_row_in",i5,["group"])
theorem iC:ar ["group","names"] ["group"] (ag i5):=fQ
abbrev iE:Fk:=top 26
abbrev cJ:D3:=("inner_rows_in",iE,["groups"])
theorem lW:ar ["groups"] ["groups"] (ag iE):=fQ
abbrev lF:Fk:=top 27
abbrev sC:D3:=("op_in",lF,["sign","items"])
theorem D7:ar ["sign","items"] ["sign","items"] (ag lF):=fQ
abbrev gG:Fk:=top 28
abbrev mj:D3:=("zero_in",gG,["word","items"])
theorem xF:ar ["word","items"] ["word","items"] (ag gG):=fQ
abbrev i6:Fk:=top 29
abbrev p0:D3:=("let_in",i6,["word","items"])
theorem AQ:ar ["word","items"] ["word","items"] (ag i6):=fQ
abbrev gO:Fk:=top 30
abbrev mv:D3:=("make_in",gO,["word","items"])
theorem wU:ar ["word","items"] ["word","items"] (ag gO):=fQ
abbrev jd:Fk:=top 31
abbrev pH:D3:=("ask_in",jd,["word","items"])
theorem AD:ar ["word","items"] ["word","items"] (ag jd):=fQ
abbrev gX:Fk:=top 32
abbrev mh:D3:=("case_in",gX,["word","items"])
theorem kn:ar ["word","items","groups","head"] ["word","items"] (ag gX):=fQ
abbrev iP:Fk:=top 33
abbrev pj:D3:=("new_in",iP,["word","items"])
theorem rW:ar ["word","items","groups"] ["word","items"] (ag iP):=fQ
abbrev kU:Fk:=top 35
abbrev fH:D3:=("bracket_in",kU,["items"])
theorem qT:ar ["items"] ["items"] (ag kU):=fQ
abbrev p8:Fk:=top 36
abbrev ip:D3:=("items_of",p8,["row"])
theorem eB:ar ["row","frames","word","bare","k","closed"] ["row"] (ag p8):=fQ
abbrev m4:Fk:=top 37
abbrev ft:D3:=("read_term",m4,["text"])
theorem k9:ar ["text","items"] ["text"] (ag m4):=fQ
abbrev gU:Fk:=top 38
abbrev dC:D3:=("pieces_of_rows",gU,["rows"])
theorem cb:ar ["rows","pieces","name","names","term"] ["rows"] (ag gU):=fQ
abbrev gn:Fk:=top 39
abbrev cT:D3:=("pieces_of_terms",gn,["terms"])
theorem d7:ar ["terms","pieces","term"] ["terms"] (ag gn):=fQ
abbrev nD:Fk:=top 40
abbrev gc:D3:=("pieces_of",nD,["term"])
theorem lu:ar ["term","word"] ["term"] (ag nD):=fQ
abbrev m7:Fk:=top 41
abbrev gf:D3:=("show_term",m7,["term"])
theorem fJ:ar ["term","signs","ahead","piece"] ["term"] (ag m7):=fQ
abbrev oZ:Fk:=top 43
abbrev ij:D3:=("_law_deal",oZ,["_law_script","_law_base"])
abbrev pP:Fk:=top 44
abbrev cg:D3:=("_law_draw",pP,["_law_deal_here","_law_many_here"])
abbrev b7:Fk:=top 45
abbrev gm:D3:=("_law_words",b7,["_law_deal_here","_law_many_here"])
theorem aY:ar ["_law_deal_here","_law_many_here","_law_letters","_law_core","_law_at","_law_turn","_law_found","_law_k","_law_own","_law_word","_law_near"] ["_law_deal_here","_law_many_here"] (ag b7):=fQ
abbrev bj:Fk:=top 46
abbrev d3:D3:=("_law_some_term",bj,["_law_deal_here","_law_words_here","_law_room"])
theorem aZ:ar ["_law_deal_here","_law_words_here","_law_room","_law_shapes","_law_found","_law_shape","_law_word"] ["_law_deal_here","_law_words_here","_law_room"] (ag bj):=fQ
abbrev bC:Fk:=top 47
abbrev cP:D3:=("_law_is_name",bC,["_law_word"])
theorem i9:ar ["_law_word","_law_kept"] ["_law_word"] (ag bC):=fQ
abbrev iB:Fk:=top 48
abbrev cM:D3:=("_law_is_number",iB,["_law_word"])
theorem mr:ar ["_law_word"] ["_law_word"] (ag iB):=fQ
abbrev pz:Fk:=top 49
abbrev c9:D3:=("_law_seen",pz,["_law_words_here","_law_at"])
theorem uL:ar ["_law_words_here","_law_at"] ["_law_words_here","_law_at"] (ag pz):=fQ
abbrev pQ:Fk:=top 50
abbrev d9:D3:=("_law_item",pQ,["_law_words_here","_law_at","_law_item_here"])
theorem nW:ar ["_law_words_here","_law_at","_law_item_here","_law_word"] ["_law_words_here","_law_at","_law_item_here"] (ag pQ):=fQ
abbrev o9:Fk:=top 51
abbrev ee:D3:=("_law_many",o9,["_law_words_here","_law_at","_law_end","_law_item_here"])
theorem gw:ar ["_law_words_here","_law_at","_law_end","_law_item_here","_law_found","_law_one"] ["_law_words_here","_law_at","_law_end","_law_item_here"] (ag o9):=fQ
abbrev m9:Fk:=top 52
abbrev eh:D3:=("_law_table",m9,["_law_words_here","_law_at"])
theorem b8:ar ["_law_words_here","_law_at","_law_found","_law_head","_law_names","_law_term"] ["_law_words_here","_law_at"] (ag m9):=fQ
abbrev qg:Fk:=top 53
abbrev cC:D3:=("_law_read",qg,["_law_words_here","_law_at"])
theorem bz:ar ["_law_words_here","_law_at","_law_word","_law_head","_law_shapes","_law_items","_law_found","_law_item_here","_law_one"] ["_law_words_here","_law_at"] (ag qg):=fQ
abbrev nQ:Fk:=top 54
abbrev gb:D3:=("_law_split",nQ,["_law_row"])
theorem tH:ar ["_law_row"] ["_law_row"] (ag nQ):=fQ
abbrev nz:Fk:=top 55
abbrev gp:D3:=("_law_alike",nz,["_law_one","_law_other"])
theorem sr:ar ["_law_one","_law_other"] ["_law_one","_law_other"] (ag nz):=fQ
abbrev dB:Fk:=top 56
abbrev jF:D3:=("_law_odd",dB,["_law_deal_here"])
theorem cZ:ar ["_law_deal_here","_law_found"] ["_law_deal_here"] (ag dB):=fQ
abbrev aW:Fk:=top 57
abbrev dG:D3:=("_law_other_word",aW,["_law_deal_here","_law_words_here"])
theorem gi:ar ["_law_deal_here","_law_words_here","_law_some"] ["_law_deal_here","_law_words_here"] (ag aW):=fQ
abbrev gP:Fk:=top 58
abbrev dF:D3:=("_law_spoilt_row",gP,["_law_deal_here","_law_row"])
theorem bM:ar ["_law_deal_here","_law_row","_law_words_here","_law_at","_law_one","_law_some"] ["_law_deal_here","_law_row"] (ag gP):=fQ
abbrev la:Fk:=top 59
abbrev fD:D3:=("_law_spoilt",la,["_law_deal_here","_law_text"])
theorem dP:ar ["_law_deal_here","_law_text","_law_way","_law_at","_law_sign","_law_some"] ["_law_deal_here","_law_text"] (ag la):=fQ
abbrev rY:Fk:=top 60
abbrev jE:D3:=("_law_due",rY,["_law_text"])
theorem g8:ar ["_law_text","_law_words_here","_law_term","_law_at"] ["_law_text"] (ag rY):=fQ
abbrev cO:Fk:=top 61
abbrev fc:D3:=("_law_refused",cO,["_law_text"])
theorem dq:ar ["_law_text","_law_found","e","_law_other"] ["_law_text"] (ag cO):=fQ
abbrev nO:Fk:=top 62
abbrev gj:D3:=("_law_right",nO,["_law_text"])
theorem il:ar ["_law_text","_law_due_here","_law_found"] ["_law_text"] (ag nO):=fQ
abbrev kP:Fk:=top 63
theorem mK:ar ["_law_script","_law_deal_here","_law_good","_law_text","_law_k"] ["_law_script"] (ag kP):=fQ
structure Txt(K:Frag)(mg:Str->Option AT):Prop where
 all:mg "all"=none
 bool:mg "bool"=none
 int:mg "int"=none
 uF:mg "isinstance"=none
 len:mg "len"=none
 list:mg "list"=none
 max:mg "max"=none
 range:mg "range"=none
 rev:mg "reversed"=none
 str:mg "str"=none
 tuple:mg "tuple"=none
 zip:mg "zip"=none
section
variable{P:Fr}{w:Fa}{K:Frag}{mg:Str->Option AT}{base:Ev}
def HU(x y:Str):Bool:=(not (decide (y.cps.toList < x.cps.toList)))
def inside(a b:Str)(c:Nat):Bool:=if HU a #[#v[c]]=true then HU #[#v[c]] b else false
def lies(a b z:Str):Bool:=(z.cps.toList.map (inside a b)).all id
def taken:!Str:=["made","asked","def","tab","cross","to","number","zero","let","make","ask","case","new"]
def uW(z:Str):Bool:=if 1<=z.length/\z.length<=8 then lies "a" "z" z&&(not (yU (.str z) (taken.map V.str))) else false
def isNum(z:Str):Bool:=if 1<=z.length/\z.length<=6 then lies "0" "9" z&&(decide (z="0")||(not (decide ((#[#v[z.cps.toList.headD 0]]:Str)="0")))) else false
structure RD(K:Frag)(mg:Str->Option AT)(tw:AC):Prop where
 longest:∃ t,mg "LONGEST_NAME"=some (.int 8 t)
 most:∃ t,mg "MOST_FIGURES"=some (.int 6 t)
 taken:mg "TAKEN_WORDS"=some (.ref tw)
 tup:∀ H:Hp,ja K H tw (HL.taken.map V.str)
def yg:Sp:=λvs H Q _=>∃ z a b:Str,vs=[.str z,.str a,.str b]/\z.length<=1000/\∀ H',cQ H H'->Q (.bl (lies a b z)) H'
theorem IT:(["sign","first","last"]:!Str).Nodup:=by decide+kernel
theorem z6{f:AC}{fd:IR}(F:pJ K "lies_between" "lies_between" dw f fd)(T:Txt K mg):br P w K mg base aV 1 f fd ["text","first","last"] yg:=by
 show F.ok nZ (λvs H Q E h=>?_) (λbp A outer s H vs Q E hr h=>?_)
 .let(z,a,b,rfl,_):=h
  rfl
 .let(z,a,b,rfl,hz,k):=h;show#[_,bI (eI (cq (du U) U T.all PyProof.Rows.boot_all (ax
   (ua (ts:=["sign"]) (us:=[1,2]) #[U,U,U,U,U,U] rfl (EG (pv 0)) (λ_ _ _ _=>fP (i:=0) IT U (Or.inl U)) (λ_ _ _ _=>sP)
    (λ_ _ _ _=>Eg rD rD (pv 1) (pv 0) (pv 2))) aM))),?_]
  show#[_,U,z,U,sW (λc=>.bl (inside a b c)) (ZH hz ()) () (λc hc H1 k1 q=>?_) (λD hD=>?_)]
  .refine#[_,U,_,U,_,_,U,U,_,U,?_];show kY (λh1=>?_) (λh1=>?_)
   .refine#[_,U,_,_,U,U,?_];have e:inside a b c=HU #[#v[c]] b:=if_pos h1;rw[e] at q;exact q
   .have e:inside a b c=false:=if_neg h1;rw[e] at q;exact q
  .refine#[D,z.cps.toList.map (inside a b),U,?_,k _ (cQ.upd hD)];rw[aal];exact dM.of aj
def TK(g:Str->Bool):Sp:=λvs H Q _=>∃ z:Str,vs=[.str z]/\z.length<=100000/\∀ H',cQ H H'->Q (.bl (g z)) H'
theorem Gv{f fL tw:AC}{fd Ip:IR}(F:pJ K "is_name" "is_name" mT f fd)(T:Txt K mg)(G:RD K mg tw)(FL:pJ K "lies_between" "lies_between" dw fL Ip)(mL:mg "lies_between"=some (.ref fL))(bL:Binds K Ip ["text","first","last"] []) :
  br P w K mg base aV 2 f fd ["text"] (TK uW):=by
 have GL:br P w K mg base aV 1 fL Ip ["text","first","last"] yg:=z6 FL T;let(tk,hlong):=G.longest;show F.ok xy (λvs H Q E h=>?_) (λbp A outer s H vs Q E hr h=>?_)
 .let(z,rfl,_):=h
  rfl
 .let(z,rfl,hz,k):=h;show#[_,aI (r8 (xO (uT y6 y6 bg (cq bx U T.len aaf (ax (pv 0) aM)) (dA (v:=.int 8) U hlong #[_,U]))) (bI (eI Cn)) kQ)
   (bI (eI (xT (cU GL hr U mL FL.kp bL .nil lh (ax (pv 0) (ax bP (ax bP aM)))) (ur (jy lb (pv 0) (dA (v:=.ref tw) U G.taken U) U))))),?_]
  have hzl:z.length<=FB:=ZH hz ();show#[_,U,z,U,hzl,_,_,U,U,_,U,?_];show kY (λh1=>?_) (λh1=>?_)
  .refine#[_,_,U,U,_,U,?_];show kY (λh2=>?_) (λh2=>?_)
   .have e:uW z=false:=by
     unfold uW;rw[if_neg];intro hh;rw[decide_eq_true (by cbv)] at h2;exact absurd h2 ()
    have q:=k H (cQ.refl _);rw[e] at q;exact q
   .have h2':z.length<=8:=by
     have h2:¬ (not (decide ((z.length:Int)<=8)))=true:=h2;simp at h2;cbv
    show#[_,U,z,_,_,U,by cbv,λH' s'=>#[_,U,?_]];have h1':1<=z.length:=by have:=of_decide_eq_true h1;cbv
    have e:uW z=(lies "a" "z" z&&(not (yU (.str z) (taken.map V.str)))):=by
     unfold uW;rw[if_pos #[h1',h2']]
    have q:=k H' s';rw[e] at q;show kY (λhl=>?_) (λhl=>?_)
    .refine#[_,U,tw,_,U,.inr (G.tup H'),U,U,?_];rw[hl,Bool.true_and] at q;exact q
    .have hl':lies "a" "z" z=false:=by simpa using hl
     rw[hl',Bool.false_and] at q;exact q
  .refine#[_,U,?_];show oi ?_;have e:uW z=false:=by
    unfold uW;rw[if_neg];intro hh;exact h1 (decide_eq_true (by cbv))
   have q:=k H (cQ.refl _);rw[e] at q;exact q
theorem AI{f fL tw:AC}{fd Ip:IR}(F:pJ K "is_number" "is_number" iQ f fd)(T:Txt K mg)(G:RD K mg tw)(FL:pJ K "lies_between" "lies_between" dw fL Ip)(mL:mg "lies_between"=some (.ref fL))(bL:Binds K Ip ["text","first","last"] []) :
  br P w K mg base aV 2 f fd ["text"] (TK isNum):=by
 have GL:br P w K mg base aV 1 fL Ip ["text","first","last"] yg:=z6 FL T;let(tk,hmost):=G.most;show F.ok sE (λvs H Q E h=>?_) (λbp A outer s H vs Q E hr h=>?_)
 .let(z,rfl,_):=h
  rfl
 .let(z,rfl,hz,k):=h;show#[_,aI (r8 (xO (uT y6 y6 bg (cq bx U T.len aaf (ax (pv 0) aM)) (dA (v:=.int 6) U hmost #[_,U]))) (bI (eI Cn)) kQ)
   (bI (eI (xT (cU GL hr U mL FL.kp bL .nil lh (ax (pv 0) (ax bP (ax bP aM)))) (ur (IC (jy bu (pv 0) bP (ay _)) (ur (jy za (nH qD (pv 0) bg (λ_ _=>rfl)) bP (ay _)))))))),?_]
  have hzl:z.length<=FB:=ZH hz ();show#[_,U,z,U,hzl,_,_,U,U,_,U,?_];show kY (λh1=>?_) (λh1=>?_)
  .refine#[_,_,U,U,_,U,?_];show kY (λh2=>?_) (λh2=>?_)
   .have e:isNum z=false:=by
     unfold isNum;rw[if_neg];intro hh;rw[decide_eq_true (by cbv)] at h2;exact absurd h2 ()
    have q:=k H (cQ.refl _);rw[e] at q;exact q
   .have h2':z.length<=6:=by
     have h2:¬ (not (decide ((z.length:Int)<=6)))=true:=h2;simp at h2;cbv
    show#[_,U,z,_,_,U,by cbv,λH' s'=>#[_,U,?_]];have h1':1<=z.length:=by have:=of_decide_eq_true h1;cbv
    have e:isNum z=(lies "0" "9" z&&(decide (z="0")||(not (decide ((#[#v[z.cps.toList.headD 0]]:Str)="0"))))):=by
     unfold isNum;rw[if_pos #[h1',h2']]
    have q:=k H' s';rw[e] at q;show kY (λhl=>?_) (λhl=>?_)
    .rw[hl,Bool.true_and] at q;show#[_,U,U,_,U,?_];have hv:decide (V.str z=V.str "0")=decide (z="0"):=by
      by_cases hh:z="0"
      .rw[hh];simp
      .rw[decide_eq_false hh,decide_eq_false λz'=>hh (V.str.inj z')]
     show kY (λh0=>?_) (λh0=>?_)
     .rw[hv] at h0;rw[h0,Bool.true_or] at q;exact q
     .rw[hv] at h0;rw[show decide (z="0")=false by simpa using h0,Bool.false_or] at q;obtain⟨ch,r,ez⟩:∃ ch r,z.cps.toList=ch::r:=by
       cases hc:z.cps.toList with
       | nil =>
        have:z.length=0:=by rw[<- aG];change z.cps.toList.length=0;rw[hc];rfl
        cbv
       | cons a b=>exact#[a,b,U]
      show#[_,U,z,0,ch,U,U,hzl,by rw[ez];exact bB,U,?_];rw[ez] at q;have hv2:decide (V.str #[#v[ch]]=V.str "0")=decide ((#[#v[ch]]:Str)="0"):=by
       by_cases hh:(#[#v[ch]]:Str)="0"
       .rw[hh];simp
       .rw[decide_eq_false hh,decide_eq_false λz'=>hh (V.str.inj z')]
      rw[hv2];exact q
    .have hl':lies "0" "9" z=false:=by simpa using hl
     rw[hl',Bool.false_and] at q;exact q
  .refine#[_,U,?_];show oi ?_;have e:isNum z=false:=by
    unfold isNum;rw[if_neg];intro hh;exact h1 (decide_eq_true (by cbv))
   have q:=k H (cQ.refl _);rw[e] at q;exact q
def LY(g:Str->Bool):abM:=λds R=>∃ z:Str,ds=[.str z]/\z.length<=100000/\R (.bl (g z))
theorem HF{k:Nat}{f:AC}{fd:IR}{ps:!Str}{g:Str->Bool}(F:br P w K mg base aV k f fd ps (TK g)):br P w K mg base aV k f fd ps (b5 K .no (LY g)) :=
 F.imp λvs H Q E z9r=>by
  let(M,ds,R,B,r,(z,e,hz,q),kk):=z9r;subst e;let(v,rfl,e1):=cG r;have e1:v=.str z:=e1;subst e1;show#[z,U,hz,λH' sm=>kk _ q M H' _ #[trivial,λb o e _=>sm b o e,λb m=>?_,λ_ _ h=>h,λ_ m=>m,λ_ m=>.inl m] rfl];let(o,e):=B.md b m;exact#[o,sm b o e]
theorem O6{c:Nat}(h1:97<=c)(h2:c<=122):inside "a" "z" c=true:=by
 have e1:HU "a" #[#v[c]]=true:=by
  change (not (decide (([c]:!Nat) < [97])))=true;rw[decide_eq_false (show ¬ (([c]:!Nat) < [97]) from λh=>by have:=(HP c 97).mp h;cbv)]
  rfl
 have e2:HU #[#v[c]] "z"=true:=by
  change (not (decide (([122]:!Nat) < [c])))=true;rw[decide_eq_false (show ¬ (([122]:!Nat) < [c]) from λh=>by have:=(HP 122 c).mp h;cbv)]
  rfl
 unfold inside;rw[if_pos e1,e2]
theorem OT{c:Nat}(h1:48<=c)(h2:c<=57):inside "0" "9" c=true:=by
 have e1:HU "0" #[#v[c]]=true:=by
  change (not (decide (([c]:!Nat) < [48])))=true;rw[decide_eq_false (show ¬ (([c]:!Nat) < [48]) from λh=>by have:=(HP c 48).mp h;cbv)]
  rfl
 have e2:HU #[#v[c]] "9"=true:=by
  change (not (decide (([57]:!Nat) < [c])))=true;rw[decide_eq_false (show ¬ (([57]:!Nat) < [c]) from λh=>by have:=(HP 57 c).mp h;cbv)]
  rfl
 unfold inside;rw[if_pos e1,e2]
theorem vD{a b z:Str}(h:∀ c∈z.cps.toList,inside a b c=true):lies a b z=true:=by
 unfold lies;rw[abv];exact ZW.mpr λc hc=>h c hc
theorem Ka{x:Str}(h:Nm x):uW x=true:=by
 unfold uW;rw[if_pos #[h.2.1,h.2.2.1],vD λc hc=>O6 (h.1 c hc).1 (h.1 c hc).2,dj];have:x∉taken:=λz=>by
  have e:taken=nU++kK:=rfl;rw[e] at z;exact (ZR.mp z).elim h.2.2.2.1 h.2.2.2.2
 rw[decide_eq_false this]
 rfl
theorem EW(n:Nat):cd (cR (n:Int))=(Nat.toDigits 10 n).map Char.toNat:=abF n
theorem lead:∀ (m n:Nat),n<=m->0 < n->∃ c r,Nat.toDigits 10 n=c::r/\c≠'0'
 | 0,n,h,h0=>by cbv
 | m+1,n,h,h0=>by
  by_cases hn:n < 10
  .refine#[_,[],Nat.toDigits_of_lt_base hn,?_];have:n=1\/n=2\/n=3\/n=4\/n=5\/n=6\/n=7\/n=8\/n=9:=by cbv
   rcases this with rfl | rfl | rfl | rfl | rfl | rfl | rfl | rfl | rfl<;>decide
  .let(c,r,e,hc):=lead m (n / 10) (by cbv) (by cbv);show#[c,r++[(n % 10).digitChar],?_,hc];rw[Nat.toDigits_of_base_le () (by cbv),e]
   rfl
theorem AY{i:Int}(h0:0<=i)(h1:i < 1000000):isNum (cR i)=true:=by
 let(n,rfl):=aaC h0;have hn:n < 10 ^ 6:=by cbv
 have uH:=PySem.toDigits_len_ge 10 n;have Hg:=PySem.toDigits_len_pow (b:=10) (k:=6) (n:=n) () () hn;have hlen:(cR (n:Int)).length=(Nat.toDigits 10 n).length:=by rw[<- aG,EW,Zy]
 have hdg:∀ c∈(cR (n:Int)).cps.toList,48<=c/\c<=57:=λc hc=>by
  have hc:c∈cd (cR (n:Int)):=hc;rw[EW] at hc;let(ch,hm,rfl):=Z5.mp hc;have:=aaV () () hm;unfold Char.isDigit at this;simp only[Bool.and_eq_true,decide_eq_true_eq] at this;exact#[this.1,this.2]
 unfold isNum;rw[if_pos #[by cbv,by cbv],vD λc hc=>OT (hdg c hc).1 (hdg c hc).2,Bool.true_and];by_cases hz:n=0
 .subst hz;rw[show cR ((0:Nat):Int)="0" by decide+kernel];decide+kernel
 .let(c,r,e,hc):=lead n n (ZC _) (by cbv);have e2:(cR (n:Int)).cps.toList=c.toNat::r.map Char.toNat:=by
   change cd (cR (n:Int))=_;rw[EW,e]
   rfl
  rw[e2,aam];have iR:(#[#v[c.toNat]]:Str)≠"0":=λz=>by
   have z2:cd (#[#v[c.toNat]]:Str)=cd "0":=congrArg cd z;have z3:c.toNat=48:=by
    have:[c.toNat]=[48]:=z2;injection this
   exact hc (Char.ext (UInt32.toNat_inj.mp z3))
  rw[decide_eq_false iR];simp
theorem aO{b b':Bool}{A B:Prop}(h:b=b')(q1:b'=true->A)(q2:b'=false->B):if b=true then A else B:=by
 subst h;cases b with
 | true=>exact oi (q1 U)
 | false=>exact ue (q2 U)
noncomputable instance (x:Str):Decidable (qQ x):=by unfold qQ;infer_instance
theorem Pt{c:Nat}(h:inside "a" "z" c=true):97<=c/\c<=122:=by
 unfold inside at h;split at h
 .rename_i e1
  have e1:(not (decide (([c]:!Nat) < [97])))=true:=e1;have e2:(not (decide (([122]:!Nat) < [c])))=true:=h;rw[aar,decide_eq_false_iff_not,HP] at e1 e2;cbv
 .cases h
theorem lies_of{a b z:Str}(h:lies a b z=true):∀ c∈z.cps.toList,inside a b c=true:=by
 unfold lies at h;rw[abv] at h;exact λc hc=>ZW.mp h c hc
theorem oH{x:Str}:uW x=true↔Nm x:=by
 show#[λh=>?_,Ka];unfold uW at h;split at h
 .rename_i hl
  rw[dj,ZX,aar,decide_eq_false_iff_not] at h;have e:taken=nU++kK:=rfl;rw[e,ZR,not_or] at h;exact#[λc hc=>Pt (lies_of h.1 c hc),hl.1,hl.2,h.2.1,h.2.2]
 .cases h
def dD:El->D
 | .w x=>.str x
 | .k t=>toD t
def JK:El->Prop
 | .w x=>x.length<=100000
 | .k _=>True
def AG(aN:AC)(R:D->Prop)(RX:XD):Option D->Prop
 | some d=>R d
 | none=>RX aN [("row",.int 0)]
theorem DX{e:El}:sV (dD e) "str"=some (match e with | .w _=>true | .k _=>false):=by
 cases e with
 | w x=>rfl
 | k t =>
  cases t with
  | node f ks =>
   change sV (Bs f (toDs ks)) "str"=_;cases f<;>rfl
theorem Kk{e:El}:sV (dD e) "tuple"=some (match e with | .w _=>false | .k _=>true):=by
 cases e with
 | w x=>rfl
 | k t =>
  cases t with
  | node f ks =>
   change sV (Bs f (toDs ks)) "tuple"=_;cases f<;>rfl
theorem BD{x:Str}(h:Nm x):eR (.w x)=some x:=if_pos h
theorem Af{x:Str}(h:¬ Nm x):eR (.w x)=none:=if_neg h
theorem JR{x:Str}(h:qQ x):lB (.w x)=some x:=if_pos h
theorem Hv{x:Str}(h:¬ qQ x):lB (.w x)=none:=if_neg h
def zk(aN:AC):!D->(D->Prop)->XD->Prop:=λds R RX=>∃ b:Bool,ds=[.bl b]/\(b=true->R .bX)/\(b=false->RX aN [("row",.int 0)])
theorem Om{aN fN:AC}{VP:IR}(nN:mg "NoText"=some (.ref aN))(MN:Nv K aN fN)(GN:br P w K mg base aV 1 fN VP ["self","row"] (K5 aN))(bN:Binds K VP ["self","row"] [])(F:Own K mg dO)(T:Txt K mg):C4 P w K mg base (cA P w) dO 3 (cE K (zk aN)):=by
 show F.x (nos:=0) Fv (λds R RX h=>?_) λf bp A outer s H E M RX hr hX=>#[_,(ak (cD (xG (d5 (vd 0)))
 (ak (BV U AL hX MN GN (hr.mono ()) U nN bN (aa ao ae)))
 aP)),λds R h=>?_]
 .let(b,rfl,_):=h
  rfl
 .let(b,rfl,q1,q2):=h;show#[_,U,_,U,?_];cases b with
  | true=>exact eP U (q1 U)
  | false=>exact mD U #[_,U,q2 U]
def Mf(aN:AC):!D->(D->Prop)->XD->Prop:=λds R RX=>∃ e:El,ds=[dD e]/\JK e/\AG aN R RX ((eR e).map .str)
theorem NX{aN:AC}(nY:C4 P w K mg base (cA P w) dO 3 (cE K (zk aN)))(yz:ab0 P w K mg base jj 2 (LY uW))(F:Own K mg ef)(T:Txt K mg):C4 P w K mg base (cA P w) ef 4 (cE K (Mf aN)):=by
 show F.x (nos:=0) xS (λds R RX h=>?_) λf bp A outer s H E M RX hr hX=>#[_,(af (cF (λ_ h=>aA h) hX hr nY (aa (iK (a8 bU fX U T.uF PyProof.Rows.boot_isinstance (aa (vd 0) (aa (dc (d:=.ty "str") (cm (v:=.ty "str") U T.str (-()) U) U) ae))) (jZ (aC hr yz (aa (vd 0) ae)))) ae))
 (ak (aF (vd 0)))),λds R h=>?_]
 .let(x,rfl,_):=h
  rfl
 .let(e,rfl,hl,q):=h;show#[_,U,_,_,_,U,DX,_,U,?_];cases e with
  | k t=>exact eP U #[false,U,λz=>(nomatch z),λ_=>q]
  | w x =>
   show mD U ?_;show#[_,U,x,U,hl,?_];show#[uW x,U,λz=>?_,λz=>?_]
   .have hx:=oH.mp z;rw[BD hx] at q;exact#[_,U,q]
   .have hx:¬ Nm x:=λy=>by rw[oH.mpr y] at z;cases z
    rw[Af hx] at q;exact q
def WK:abM:=λds R=>∃ (x:Str) (b:Bool),ds=[.str x]/\x.length<=100000/\(b=true↔qQ x)/\R (.bl b)
theorem MY(yz:ab0 P w K mg base jj 2 (LY uW))(F:Own K mg jv)(T:Txt K mg):ab0 P w K mg base jv 3 WK:=by
 show F.d (nos:=0) wJ (λds R h=>?_) λf bp A outer s H E M hr=>#[_,(ak (aF (O0 (dH bu cY (vd 0) ah (ay _)) (jZ (aC hr yz (aa (vd 0) ae)))))),λds R h=>?_]
 .let(x,b,rfl,_):=h
  rfl
 .let(x,b,rfl,hl,hb,q):=h;show#[_,U,#[U,U,U],_,U,?_];show aO U (λhe=>?_) λiR=>?_
  .have he:x="number":=by
    have z:V.str x=V.str "number":=of_decide_eq_true he;injection z
   rw[hb.mpr (.inr he)] at q;exact q
  .have iR:¬ x="number":=λz=>of_decide_eq_false iR (by rw[z]);show#[_,U,x,U,hl,?_];have e:uW x=b:=by
    cases b with
    | true=>exact oH.mpr ((hb.mp U).resolve_right iR)
    | false =>
     cases z:uW x with
     | false=>rfl
     | true=>exact absurd (hb.mpr (.inl (oH.mp z))) ()
   rw[e];exact q
def Rb(aN:AC):!D->(D->Prop)->XD->Prop:=λds R RX=>∃ e:El,ds=[dD e]/\JK e/\AG aN R RX ((lB e).map .str)
theorem OB{aN:AC}(nY:C4 P w K mg base (cA P w) dO 3 (cE K (zk aN)))(Yf:ab0 P w K mg base jv 3 WK)(F:Own K mg gQ)(T:Txt K mg):C4 P w K mg base (cA P w) gQ 4 (cE K (Rb aN)):=by
 show F.x (nos:=0) xJ (λds R RX h=>?_) λf bp A outer s H E M RX hr hX=>#[_,(af (cF (λ_ h=>aA h) hX hr nY (aa (iK (a8 bU fX U T.uF PyProof.Rows.boot_isinstance (aa (vd 0) (aa (dc (d:=.ty "str") (cm (v:=.ty "str") U T.str (-()) U) U) ae))) (jZ (aC hr Yf (aa (vd 0) ae)))) ae))
 (ak (aF (vd 0)))),λds R h=>?_]
 .let(x,rfl,_):=h
  rfl
 .let(e,rfl,hl,q):=h;show#[_,U,_,_,_,U,DX,_,U,?_];cases e with
  | k t=>exact eP U #[false,U,λz=>(nomatch z),λ_=>q]
  | w x =>
   show mD U ?_;show#[_,U,x,decide (qQ x),U,hl,decide_eq_true_iff,?_];show#[_,U,λz=>?_,λz=>?_]
   .have hx:=of_decide_eq_true z;rw[JR hx] at q;exact#[_,U,q]
   .rw[Hv (of_decide_eq_false z)] at q;exact q
theorem Ws{c:Nat}(h:inside "0" "9" c=true):48<=c/\c<=57:=by
 unfold inside at h;split at h
 .rename_i e1
  have e1:(not (decide (([c]:!Nat) < [48])))=true:=e1;have e2:(not (decide (([57]:!Nat) < [c])))=true:=h;rw[aar,decide_eq_false_iff_not,HP] at e1 e2;cbv
 .cases h
theorem VB{d:Nat}(h:48<=d/\d<=57):(d - 48).digitChar.toNat=d:=by
 have:d=48\/d=49\/d=50\/d=51\/d=52\/d=53\/d=54\/d=55\/d=56\/d=57:=by cbv
 rcases this with rfl | rfl | rfl | rfl | rfl | rfl | rfl | rfl | rfl | rfl<;>rfl
theorem Qc:∀ r:!Nat,r≠[]->(∀ c∈r,48<=c/\c<=57)->(∀ c,r.getLast?=some c->c≠48)->∃ n,0 < n/\n < 10 ^ r.length/\(Nat.toDigits 10 n).map Char.toNat=r.reverse
 | [],h,_,_=>absurd U h
 | [d],_,h,hl=>by
  have hd:=h d Zx;have h8:=hl d U;show#[d - 48,by cbv,by change d - 48 < 10;cbv,?_];rw[Nat.toDigits_of_lt_base (by cbv)];change [(d - 48).digitChar.toNat]=[d];rw[VB hd]
 | d::e::r,_,h,hl=>by
  have hd:=h d Zx;let(n,h0,h1,hn):=Qc (e::r) (by simp) (λc hc=>h c (List.mem_cons_of_mem _ hc)) λc hc=>hl c (by rw[List.getLast?_cons_cons];exact hc);show#[n * 10+(d - 48),by cbv,?_,?_]
  .rw[ZJ,Nat.pow_succ];cbv
  .rw[Nat.toDigits_of_base_le () (by cbv),show (n * 10+(d - 48)) / 10=n by cbv,show (n * 10+(d - 48)) % 10=d - 48 by cbv,ZO,hn,aba (a:=d)];change _++[(d - 48).digitChar.toNat]=_;rw[VB hd]
theorem Bx{x y:Str}(h:cd x=cd y):x=y:=by
 cases x with
 | mk a =>
  cases y with
  | mk b =>
   have h:a.toList=b.toList:=h;rw[Array.toList_inj.mp h]
theorem mN{x:Str}:isNum x=true↔∃ i:Int,(0<=i/\i < 1000000)/\x=cR i:=by
 show#[λh=>?_,λ#[i,#[h0,h1],e]=>by rw[e];exact AY h0 h1];unfold isNum at h;split at h
 .rename_i hl
  rw[ZX,abl,aar,decide_eq_true_iff,decide_eq_false_iff_not] at h;let(h1,h2):=h;rcases h2 with h2 | h2
  .exact#[0,#[by decide,by decide],by rw[h2];decide+kernel]
  .have hlen:(cd x).length=x.length:=aG x;let(n,n0,n1,hn):=Qc (cd x).reverse (λz=>by
    have:(cd x).length=0:=by rw[List.reverse_eq_nil_iff.mp z];rfl
    cbv) (λc hc=>Ws (lies_of h1 c (abB.mp hc))) λc hc z=>h2 (by
     rw[List.getLast?_reverse] at hc;have:x.cps.toList.headD 0=c:=by
      rw[List.headD_eq_head?_getD];change (cd x).head?.getD 0=c;rw[hc]
      rfl
     rw[this,z]
     rfl)
   rw[abe] at hn;rw[aaE,hlen] at n1;have hp:10 ^ x.length<=10 ^ 6:=Nat.pow_le_pow_right () hl.2;exact#[(n:Nat),#[by cbv,by cbv],Bx (by rw[EW,hn])]
 .cases h
theorem yH{x:Str}(h:¬ isNum x=true):ir x=none:=by
 cases e:ir x with
 | none=>rfl
 | some i =>
  have:=gL e;exact absurd (mN.mpr #[i,this]) h
end
end HL
namespace DL
open PySem L2 PyProof.Rows
section
variable{X:Cx}{M0:AC->Prop}{H0:Hp}{E:XK}{RX:XD}{q:D3}{x:Str}{p p2:Pos}{e:Da}{es:!Da}{ta:eQ}{k m:Nat}{t:!D->(D->Prop)->XD->Prop}
theorem bh(hp:∀ E':XK,(∀ c dd H',E' c dd H'->E c dd H')->Passes (cA X.prog X.w) X E')(hX:XT E #[.no,M0,H0] RX)(hr:bF m X.A)(G:C4 X.prog X.w X.K X.mg X.base (cA X.prog X.w) q k (cE X.K t))(ha:DA X #[.no,M0,H0] (e::es) ta)(hx:(q.1=x)⁻¹)(hk:k<=m:=by ac_rfl)(hg:(Gl X x)⁻¹)(fM: ~~~(abP x))(he:(abN X.env e es)⁻¹)(dI:((KB p2 (Go es X.env)).any (·.1)=false)⁻¹) :
  DE X #[.no,M0,H0] (.Call (.Name x p) (e::es) [] p2) (Ec t RX ta):=by
 subst hx;let(f,fd,G,F,M,b):=G;exact GJ hp hX (hr.mono hk) hg M F.kp b ha G fM he dI
end
end DL
namespace HL
open PySem L2 DL
section
variable{P:Fr}{w:Fa}{K:Frag}{mg:Str->Option AT}{base:Ev}
def Me(aN:AC):!D->(D->Prop)->XD->Prop:=λds R RX=>∃ e:El,ds=[dD e]/\JK e/\AG aN R RX ((bo e).map toD)
theorem Mu{aN:AC}(Mh:ab0 P w K mg base iT 2 (LY isNum))(FU:C4 P w K mg base (cA P w) ef 4 (cE K (Mf aN)))(F:Own K mg eu)(T:Txt K mg):C4 P w K mg base (cA P w) eu 5 (cE K (Me aN)):=by
 show F.x (nos:=0) xk (λds R RX h=>?_) λf bp A outer s H E M RX hr hX=>#[_,(af (cD (d5 (a8 bU fX U T.uF PyProof.Rows.boot_isinstance (aa (vd 0) (aa (dc (d:=.ty "tuple") (cm (v:=.ty "tuple") U T.tuple (-()) U) U) ae))))
 (ak (aF (vd 0)))
 aP)
 (af (cD (d5 (aC hr Mh (aa (vd 0) ae)))
 (ak (aF (bZ (aa ah (aa (fU rj Cg U T.int (-()) (aa (vd 0) ae)) ae)))))
 aP)
 (ak (aF (bZ (aa ah (aa (bh (λ_ h=>aA h) hX hr FU (aa (vd 0) ae)) ae))))))),λds R h=>?_]
 .let(x,rfl,_):=h
  rfl
 .let(e,rfl,hl,q):=h;show#[_,U,_,_,_,U,Kk,_,U,?_];cases e with
  | k t=>exact mD U #[_,U,q]
  | w x =>
   show eP U ?_;show#[_,U,x,U,hl,_,U,?_];cases hn:isNum x with
   | true =>
    show mD U ?_;let(i,hi,rfl):=mN.mp hn;have e:bo (.w (cR i))=some (.node (.num i) []):=by
     unfold bo;dsimp only;rw[kC hi]
    rw[e] at q;exact#[_,U,i,U,hi.1,Int.lt_trans hi.2 (),q]
   | false =>
    show eP U ?_;have hno:ir x=none:=yH (by rw[hn];decide);show#[_,U,.w x,U,hl,?_];by_cases hx:Nm x
    .have e:bo (.w x)=some (.node (.nm x) []):=by
      unfold bo;dsimp only;rw[hno];exact if_pos hx
     rw[e] at q;rw[BD hx];exact q
    .have e:bo (.w x)=none:=by
      unfold bo;dsimp only;rw[hno];exact if_neg hx
     rw[e] at q;rw[Af hx];exact q
end
end HL
namespace DL
open PySem L2 PyProof.Rows
section
variable{X:Cx}{c:Ent}{E0:XK}{scope:Scope}{pos:Pos}{tg elt iter:Da}{ifs:!Da}{tx:eQ}{g:qL}{ti:nK}{te:bA}
theorem Vl(hL:o7 X E0)(ts:!Str)(us:!Nat)(hi:DI X c tg iter tx)(hg:∀ C s H fp,DG (X.comp ts us scope C s H fp) c ts.length tg g)(qR:∀ C s H fp,LS (X.comp ts us scope C s H fp) c ifs ti)(he:∀ C s H fp,DE (X.ny E0 ts us scope C s H fp) c elt te)(S:aT X ts us scope:=by exact#[U,U,U,U,U,U])(hc:(X.calm=true)⁻¹)(jQ:(X.stack=X.env::X.outer)⁻¹)(nh:(X.env.frame=some X.env.locals)⁻¹)(hs:abR iter X.env:=by intro _;rfl):DN X c (.ListComp elt [#[tg,iter,ifs,0]] scope pos) (mE ts.length us tx g ti te):=Fq hL S hc hi hg qR he jQ nh hs
end
theorem jq{α β:Type}{nt:Nat}{us:!Nat}{g:qL}{te:bA}(h:α->D)(f:α->Option β)(r:β->D){Z:Prop}{Q:!D->DS->Prop}{s:DS}:∀ (xs:!α) {acc:!D},
  (∀ x∈xs,∀ k:D->DS->Prop,(∀ b,f x=some b->∀ s':DS,s'.os=s.os->k (r b) s')->(f x=none->Z)->g (h x) (iS nt us s) λs1=>te s1 k)->(∀ bs,allI f xs=some bs->Q (acc++bs.map r) s)->(allI f xs=none->Z)->eS nt us g dg te (xs.map h) acc s Q
 | [],acc,_,q,_=>by
  have q:=q [] rfl;rw[aa2,ZM] at q;exact q
 | x::xs,acc,hx,q,z=>by
  change g (h x) (iS nt us s) λs1=>dg s1 λb s2=>if b=true then te s2 λy s3=>eS nt us g dg te (xs.map h) (acc++[y]) #[s.sl,s3.os] Q else eS nt us g dg te (xs.map h) acc #[s.sl,s2.os] Q;have:=hx x Zx (λy s3=>eS nt us g dg te (xs.map h) (acc++[y]) #[s.sl,s3.os] Q) (λb hb s' e=>by
   rw[e];show jq h f r xs (λy hy=>hx y (Zw _ hy)) (λbs hbs=>?_) λhn=>z ?_
   .have:=q (b::bs) (by rw[allI,hb,hbs]);rw[Z4];exact this
   .rw[allI,hb,hn]) λhn=>z (by rw[allI,hn])
  simpa [dg] using this
end DL
namespace HL
open PySem L2 DL
section
variable{P:Fr}{w:Fa}{K:Frag}{mg:Str->Option AT}{base:Ev}
def LM(aN:AC):!D->(D->Prop)->XD->Prop:=λds R RX=>∃ es:!El,ds=[.lst (es.map dD)]/\(∀ e∈es,JK e)/\AG aN R RX ((allI bo es).map λts=>.tup (ts.map toD))
theorem Oo{aN:AC}(GD:C4 P w K mg base (cA P w) eu 5 (cE K (Me aN)))(F:Own K mg c8)(T:Txt K mg):C4 P w K mg base (cA P w) c8 6 (cE K (LM aN)):=by
 show F.x (nos:=0) vc (λds R RX h=>?_) λf bp A outer s H E M RX hr hX=>#[_,(ak (aF (AZ T.tuple (aa (DN.de (Vl (qC λ_ _ _ h=>h) ["item"] [] (nJ (vd 0)) (λ_ _ _ _=>(gM 0 ["item"])) (λ_ _ _ _=>i7)
 (λ_ _ _ _=>(bh (λ_ h=>iU h) hX hr GD (aa (vd 0) ae))))) ae)))),λds R h=>?_]
 .let(x,rfl,_):=h
  rfl
 .let(es,rfl,hl,q):=h;show#[_,U,_,.inl U,?_];show jq dD bo toD (Z:=RX aN [("row",.int 0)]) _ (λe he k hk hz=>#[_,U,e,U,hl e he,?_]) (λts ht=>?_) λhn=>?_
  .cases hx:bo e with
   | none=>exact hz hx
   | some t=>exact hk t hx _ U
  .rw[ht] at q;exact#[_,.inl U,q]
  .rw[hn] at q;exact q
theorem ln2{α:Type}{l:!α}(h:l.length=2):∃ a b,l=[a,b]:=by
 match l,h with
 | [a,b],_=>exact#[a,b,U]
theorem QF{α:Type}{l:!α}(h:l.length=3):∃ a b c,l=[a,b,c]:=by
 match l,h with
 | [a,b,c],_=>exact#[a,b,c,U]
theorem fm(f:Fm)(ks:!Tm):toD (.node f ks)=Bs f (ks.map toD):=by
 rw[<- toDs_map]
 rfl
theorem dX{α β:Type}{f:α->Option β}:∀ {xs:!α} {ys:!β},allI f xs=some ys->ys.length=xs.length
 | [],ys,h=>by cases h;rfl
 | x::xs,ys,h=>by
  rw[allI] at h;split at h
  .rename_i a as h1 h2
   cases h;rw[ZJ,ZJ,dX h2]
  .cases h
theorem kz{m n:Nat}(h:decide (fv (.int (m:Int))=fv (.int (n:Int)))=true):m=n:=by
 have z:V.int (m:Int)=V.int (n:Int):=of_decide_eq_true h;injection z with z;cbv
theorem j9{m n:Nat}(h:decide (fv (.int (m:Int))=fv (.int (n:Int)))=false):m≠n:=λz=>of_decide_eq_false h (by rw[z])
theorem NM{s:Str}{es:!El}(h:s="+"\/s="-"\/s="*"):gF s es=if es.length=2 then (allI bo es).map (.node (.op s) ·) else none:=by
 unfold gF;exact if_pos h
theorem Le{es:!El}:gF "zero" es=if es.length=3 then (allI bo es).map (.node .jK ·) else none:=by
 unfold gF;rw[if_neg (-())];exact if_pos U
def xj(aN:AC)(p:Str->Prop):!D->(D->Prop)->XD->Prop:=λds R RX=>∃ (s:Str) (es:!El),ds=[.str s,.lst (es.map dD)]/\(p s/\es.length<=100000/\∀ e∈es,JK e)/\AG aN R RX ((gF s es).map toD)
theorem Qh{aN:AC}(nY:C4 P w K mg base (cA P w) dO 3 (cE K (zk aN)))(He:C4 P w K mg base (cA P w) c8 6 (cE K (LM aN)))(F:Own K mg sC)(T:Txt K mg):C4 P w K mg base (cA P w) sC 7 (cE K (xj aN λs=>s="+"\/s="-"\/s="*")):=by
 show F.x (nos:=0) D7 (λds R RX h=>?_) λf bp A outer s H E M RX hr hX=>#[_,(af (cF (λ_ h=>aA h) hX hr nY (aa (dH bu cY (jS T.len (aa (vd 1) ae)) ao (ay _)) ae))
 (ak (aF (bR uc xR (bZ (aa ah (aa (vd 0) ae))) (bh (λ_ h=>aA h) hX hr He (aa (vd 1) ae)))))),λds R h=>?_]
 .let(s,ks,rfl,_):=h
  rfl
 .let(s,es,rfl,(hs,hn,hl),q):=h;have hsz:=aK;rw[NM hs] at q;show#[_,U,_,.inl U,#[U,U,U],_,U,λz=>?_,λz=>?_]
  .have z2:es.length=2:=by
    have y:=kz (m:=(es.map dD).length) (n:=2) z
    rwa [Zy] at y
   rw[if_pos z2] at q;show#[_,U,_,U,es,U,hl,?_];cases hx:allI bo es with
   | none=>rw[hx] at q;exact q
   | some ts =>
    rw[hx] at q;have q:R (toD (.node (.op s) ts)):=q;have:=dX hx;let(a,b,rfl):=ln2 (this.trans z2);rw[fm] at q;exact#[_,_,U,U,by change 2+2<=_;cbv,q]
  .have z2:es.length≠2:=λy=>j9 z (by rw[Zy];exact y);rw[if_neg z2] at q;exact q
theorem Px{aN:AC}(nY:C4 P w K mg base (cA P w) dO 3 (cE K (zk aN)))(He:C4 P w K mg base (cA P w) c8 6 (cE K (LM aN)))(F:Own K mg mj)(T:Txt K mg):C4 P w K mg base (cA P w) mj 7 (cE K (xj aN λs=>s="zero")):=by
 show F.x (nos:=0) xF (λds R RX h=>?_) λf bp A outer s H E M RX hr hX=>#[_,(af (cF (λ_ h=>aA h) hX hr nY (aa (dH bu cY (jS T.len (aa (vd 1) ae)) ao (ay _)) ae))
 (ak (aF (bR uc xR (bZ (aa (vd 0) ae)) (bh (λ_ h=>aA h) hX hr He (aa (vd 1) ae)))))),λds R h=>?_]
 .let(s,ks,rfl,_):=h
  rfl
 .let(s,es,rfl,(rfl,hn,hl),q):=h;have hsz:=aK;rw[Le] at q;show#[_,U,_,.inl U,#[U,U,U],_,U,λz=>?_,λz=>?_]
  .have z2:es.length=3:=by
    have y:=kz (m:=(es.map dD).length) (n:=3) z
    rwa [Zy] at y
   rw[if_pos z2] at q;show#[_,U,_,U,es,U,hl,?_];cases hx:allI bo es with
   | none=>rw[hx] at q;exact q
   | some ts =>
    rw[hx] at q;have q:R (toD (.node .jK ts)):=q;have:=dX hx;let(a,b,c,rfl):=QF (this.trans z2);rw[fm] at q;exact#[_,_,U,U,by change 1+3<=_;cbv,q]
  .have z2:es.length≠3:=λy=>j9 z (by rw[Zy];exact y);rw[if_neg z2] at q;exact q
theorem Iw{α:Type}{l:!α}(h:1<=l.length):∃ a r,l=a::r:=by
 match l,h with
 | a::r,_=>exact#[a,r,U]
theorem G6(a:!D)(x y:D):kW (a++[x,y]) (-2)=some x:=by
 unfold kW zC;have hl:(a++[x,y]).length=a.length+2:=by simp
 rw[if_neg (),if_pos (by rw[hl];cbv),hl];change (a++[x,y])[(-2+((a.length+2:Nat):Int)).toNat]?=_;rw[show (-2+((a.length+2:Nat):Int)).toNat=a.length by cbv];simp
theorem D5(a:!D)(x y:D):cutD (a++[x,y]) none (some (-2))=a:=by
 have:=fY (f:=id) (xs:=a++[x,y]) (lo:=none) (hi:=some (-2));rw[abA] at this;rw[this];have hl:(a++[x,y]).length=a.length+2:=by simp
 have e1:HT.ck (a++[x,y]).length 0 none=0:=rfl;have e2:HT.ck (a++[x,y]).length (a++[x,y]).length (some (-2))=a.length:=by
  rw[hl];unfold HT.ck;simp only[]
  repeat' split
  all_goals cbv
 rw[e1,e2,aa1,Nat.sub_zero,abA,List.take_left]
theorem Rx(x y:D)(l:!D):cutD (x::y::l) (some 2) none=l:=by
 have:=fY (f:=id) (xs:=x::y::l) (lo:=some 2) (hi:=none);rw[abA] at this;rw[this];have e1:HT.ck (x::y::l).length 0 (some 2)=2:=by
  unfold HT.ck;simp only[List.length_cons]
  repeat' split
  all_goals cbv
 have e2:HT.ck (x::y::l).length (x::y::l).length none=(x::y::l).length:=rfl;rw[e1,e2,abA];change l.take (l.length+1+1 - 2)=l;rw[show l.length+1+1 - 2=l.length by cbv,List.take_length]
theorem df{β:Type}{aN:AC}{R:D->Prop}{RX:XD}{o:Option β}{r:β->D}(h1:∀ b,o=some b->R (r b))(h2:o=none->RX aN [("row",.int 0)]):AG aN R RX (o.map r):=by
 cases o with
 | none=>exact h2 U
 | some b=>exact h1 b U
theorem Ll{es:!El}:gF "let" es=(match es with
  | [a,b,c]=>match eR a,allI bo [b,c] with
   | some n,some ks=>some (.node (.lt n) ks)
   | _,_=>none
  | _=>none):=by
 unfold gF;rw[if_neg (-()),if_neg (-())];exact if_pos U
theorem MJ{es:!El}:gF "make" es=(match es with
  | a::r=>match eR a,allI bo r with
   | some n,some ks=>some (.node (.mk n) ks)
   | _,_=>none
  | _=>none):=by
 unfold gF;rw[if_neg (-()),if_neg (-()),if_neg (-())];exact if_pos U
theorem Lj{es:!El}:gF "ask" es=(match es with
  | a::b::r=>match bo a,eR b,allI bo r with
   | some t,some n,some ks=>some (.node (.ask n) (t::ks))
   | _,_,_=>none
  | _=>none):=by
 unfold gF;rw[if_neg (-()),if_neg (-()),if_neg (-()),if_neg (-())];exact if_pos U
theorem Qt{aN:AC}(nY:C4 P w K mg base (cA P w) dO 3 (cE K (zk aN)))(FU:C4 P w K mg base (cA P w) ef 4 (cE K (Mf aN)))(He:C4 P w K mg base (cA P w) c8 6 (cE K (LM aN)))(F:Own K mg p0)(T:Txt K mg):C4 P w K mg base (cA P w) p0 7 (cE K (xj aN λs=>s="let")):=by
 show F.x (nos:=0) AQ (λds R RX h=>?_) λf bp A outer s H E M RX hr hX=>#[_,(af (cF (λ_ h=>aA h) hX hr nY (aa (dH bu cY (jS T.len (aa (vd 1) ae)) ao (ay _)) ae))
 (ak (aF (bR uc xR (bZ (aa (vd 0) (aa (bh (λ_ h=>aA h) hX hr FU (aa (j0 (vd 1) ao) ae)) ae))) (bh (λ_ h=>aA h) hX hr He (aa (DN.de (bK (vd 1) (bb ao) bw)) ae)))))),λds R h=>?_]
 .let(s,ks,rfl,_):=h
  rfl
 .let(s,es,rfl,(rfl,hn,hl),q):=h;have hsz:=aK;rw[Ll] at q;show#[_,U,_,.inl U,#[U,U,U],_,U,λz=>?_,λz=>?_]
  .have z2:es.length=3:=by
    have y:=kz (m:=(es.map dD).length) (n:=3) z
    rwa [Zy] at y
   let(a,b,c,rfl):=QF z2;show#[_,U,_,U,_,_,_,U,U,U,a,U,hl a (by simp),df (λx hx=>?_) λhx=>?_]
   .refine#[_,U,_,U,_,U,[b,c],U,λe he=>hl e (Zw _ he),df (λts ht=>?_) λht=>?_]
    .dsimp only at q;rw[hx,ht] at q;have q:R (toD (.node (.lt x) ts)):=q;let(u,v,rfl):=ln2 (dX ht);rw[fm] at q;exact#[_,_,U,U,by change 2+2<=_;cbv,q]
    .dsimp only at q;rw[hx,ht] at q;exact q
   .dsimp only at q;rw[hx] at q;exact q
  .have z2:es.length≠3:=λy=>j9 z (by rw[Zy];exact y)
   match es,z2,q with
   | [],_,q=>exact q
   | [_],_,q=>exact q
   | [_,_],_,q=>exact q
   | [_,_,_],z2,_=>exact absurd U z2
   | _::_::_::_::_,_,q=>exact q
theorem Nz{aN:AC}(nY:C4 P w K mg base (cA P w) dO 3 (cE K (zk aN)))(FU:C4 P w K mg base (cA P w) ef 4 (cE K (Mf aN)))(He:C4 P w K mg base (cA P w) c8 6 (cE K (LM aN)))(F:Own K mg mv)(T:Txt K mg):C4 P w K mg base (cA P w) mv 7 (cE K (xj aN λs=>s="make")):=by
 show F.x (nos:=0) wU (λds R RX h=>?_) λf bp A outer s H E M RX hr hX=>#[_,(af (cF (λ_ h=>aA h) hX hr nY (aa (dH yM t9 (jS T.len (aa (vd 1) ae)) ao (ay _)) ae))
 (ak (aF (bZ (aa (vd 0) (aa (bh (λ_ h=>aA h) hX hr FU (aa (j0 (vd 1) ao) ae)) (aa (bh (λ_ h=>aA h) hX hr He (aa (DN.de (bK (vd 1) (bb ao) bw)) ae)) ae))))))),λds R h=>?_]
 .let(s,ks,rfl,_):=h
  rfl
 .let(s,es,rfl,(rfl,hn,hl),q):=h;have hsz:=aK;rw[MJ] at q;show#[_,U,_,.inl U,_,_,U,U,_,U,λz=>?_,λz=>?_]
  .have z2:1<=es.length:=by
    have y:(1:Int)<=((es.map dD).length:Int):=of_decide_eq_true z;rw[Zy] at y;cbv
   let(a,r,rfl):=Iw z2;show#[_,U,_,U,_,_,_,U,U,bB,a,U,hl a (by simp),df (λx hx=>?_) λhx=>?_]
   .refine#[_,U,_,U,_,U,?_];rw[show cutD ((a::r).map dD) (some 1) none=r.map dD from gY];show#[r,U,λe he=>hl e (Zw _ he),df (λts ht=>?_) λht=>?_]
    .dsimp only at q;rw[hx,ht] at q;have q:R (toD (.node (.mk x) ts)):=q;rw[fm] at q;exact q
    .dsimp only at q;rw[hx,ht] at q;exact q
   .dsimp only at q;rw[hx] at q;exact q
  .have z2:es=[]:=by
    have y:¬ (1:Int)<=((es.map dD).length:Int):=of_decide_eq_false z;rw[Zy] at y;exact Z6 (by cbv)
   subst z2;exact q
theorem Og{aN:AC}(nY:C4 P w K mg base (cA P w) dO 3 (cE K (zk aN)))(FU:C4 P w K mg base (cA P w) ef 4 (cE K (Mf aN)))(GD:C4 P w K mg base (cA P w) eu 5 (cE K (Me aN)))(He:C4 P w K mg base (cA P w) c8 6 (cE K (LM aN)))(F:Own K mg pH)(T:Txt K mg):C4 P w K mg base (cA P w) pH 7 (cE K (xj aN λs=>s="ask")):=by
 show F.x (nos:=0) AD (λds R RX h=>?_) λf bp A outer s H E M RX hr hX=>#[_,(af (cF (λ_ h=>aA h) hX hr nY (aa (dH yM t9 (jS T.len (aa (vd 1) ae)) ao (ay _)) ae))
 (ak (aF (bZ (aa (vd 0) (aa (bh (λ_ h=>aA h) hX hr GD (aa (j0 (vd 1) ao) ae)) (aa (bh (λ_ h=>aA h) hX hr FU (aa (j0 (vd 1) ao) ae)) (aa (bh (λ_ h=>aA h) hX hr He (aa (DN.de (bK (vd 1) (bb ao) bw)) ae)) ae)))))))),λds R h=>?_]
 .let(s,ks,rfl,_):=h
  rfl
 .let(s,es,rfl,(rfl,hn,hl),q):=h;have hsz:=aK;rw[Lj] at q;show#[_,U,_,.inl U,_,_,U,U,_,U,λz=>?_,λz=>?_]
  .have z2:2<=es.length:=by
    have y:(2:Int)<=((es.map dD).length:Int):=of_decide_eq_true z;rw[Zy] at y;cbv
   let(a,r0,rfl):=Iw (show 1<=es.length by cbv);let(b,r,rfl):=Iw (show 1<=r0.length by rw[ZJ] at z2;cbv);show#[_,U,_,U,_,_,_,U,U,bB,a,U,hl a (by simp),df (λt ht=>?_) λht=>?_]
   .refine#[_,U,_,_,_,U,U,Lp,b,U,hl b (by simp),df (λx hx=>?_) λhx=>?_]
    .refine#[_,U,_,U,_,U,?_];rw[show cutD ((a::b::r).map dD) (some 2) none=r.map dD from Rx _ _ _];show#[r,U,λe he=>hl e (Zw _ (Zw _ he)),df (λts hs=>?_) λhs=>?_]
     .dsimp only at q;rw[ht,hx,hs] at q;have q:R (toD (.node (.ask x) (t::ts))):=q;rw[fm] at q;exact q
     .dsimp only at q;rw[ht,hx,hs] at q;exact q
    .dsimp only at q;rw[ht,hx] at q;exact q
   .dsimp only at q;rw[ht] at q;exact q
  .have z2:¬ 2<=es.length:=by
    have y:¬ (2:Int)<=((es.map dD).length:Int):=of_decide_eq_false z;rw[Zy] at y;cbv
   match es,z2,q with
   | [],_,q=>exact q
   | [_],_,q=>exact q
   | _::_::_,z2,_=>exact absurd (by simp) z2
theorem vy{e:El}{z:Str}:Bw (dD e) (.str z)=true↔e=.w z:=by
 cases e with
 | w x =>
  change Gc.eqv (toP (.str x)) (toP (.str z))=true↔_;simp[toP,Gc.eqv]
 | k t =>
  cases t with
  | node f ks =>
   show#[λh=>?_,λh=>nomatch h];have h:Gc.eqv (toP (Bs f (toDs ks))) (toP (.str z))=true:=h;cases f<;>simp[Bs,toP,Gc.eqv] at h
def Bq(e:El):Prop:=JK e/\oV (dD e)=true
def We(aN:AC):!D->(D->Prop)->XD->Prop:=λds R RX=>∃ g:!El,ds=[.lst (g.map dD)]/\(g.length<=100000/\∀ e∈g,Bq e)/\AG aN R RX ((ic g).map λr=>DZ r.1 (toD r.2))
theorem rH{a:!El}{x e:El}:ic (a++[x,e])=(match x with
  | .w c=>if c=":" then (match allI eR a,bo e with
   | some (n::ns),some t=>some ((n,ns),t)
   | _,_=>none) else none
  | _=>none):=by
 unfold ic;have:(a++[x,e]).reverse=e::x::a.reverse:=by simp
 rw[this];cases x with
 | k t=>rfl
 | w c =>
  dsimp only;rw[abe]
theorem DB{α:Type}{l:!α}(h:2<=l.length):∃ a x e,l=a++[x,e]:=by
 have e1:l=l.take (l.length - 2)++l.drop (l.length - 2):=(abG _ _).symm;let(x,e,h2):=ln2 (l:=l.drop (l.length - 2)) (by rw[Z3];cbv);exact#[_,x,e,by rw[h2] at e1;exact e1]
theorem Mm{aN:AC}(nY:C4 P w K mg base (cA P w) dO 3 (cE K (zk aN)))(FU:C4 P w K mg base (cA P w) ef 4 (cE K (Mf aN)))(GD:C4 P w K mg base (cA P w) eu 5 (cE K (Me aN)))(F:Own K mg eJ)(T:Txt K mg):C4 P w K mg base (cA P w) eJ 6 (cE K (We aN)):=by
 show F.x (nos:=0) iC (λds R RX h=>?_) λf bp A outer s H E M RX hr hX=>#[_,(af (cF (λ_ h=>aA h) hX hr nY (aa (iK (dH yM t9 (jS T.len (aa (vd 0) ae)) ao (ay _)) (jZ (dH (xZ (D0 hr)) IM (j0 (vd 0) (dc (d:=.int (-2)) yL U)) ah (ay _)))) ae))
 (af (C2 (Qp (Gg (qC λ_ _ _ h=>h) (i:=1) iC.nd U U (ts:=["item"]) (us:=[]) #[U,U,U,U,U,U] rfl (nJ (DN.de (bK (vd 0) bw (bb (dc (d:=.int (-2)) yL U))))) (λ_ _ _ _=>(gM 0 ["item"])) (λ_ _ _ _=>i7)
 (λ_ _ _ _=>(bh (λ_ h=>iU h) hX hr FU (aa (vd 0) ae))))))
 (ak (aF (bZ (aa (j0 (vd 1) ao) (aa (AZ T.tuple (aa (DN.de (bK (vd 1) (bb ao) bw)) ae)) (aa (bh (λ_ h=>aA h) hX hr GD (aa (j0 (vd 0) (dc (d:=.int (-1)) jB U)) ae)) ae)))))))),λds R h=>?_]
 .let(g,rfl,_):=h
  rfl
 .let(g,rfl,(hn,hl),q):=h;show#[_,U,_,.inl U,_,_,U,U,_,U,?_];by_cases h3:3<=g.length
  .refine mD (decide_eq_true (by rw[Zy];cbv)) ?_;let(a,x,e,rfl):=DB (show 2<=g.length by cbv);have em:(a++[x,e]).map dD=a.map dD++[dD x,dD e]:=by simp
   rw[em];rw[rH] at q;show#[_,U,_,_,_,U,U,G6 _ _ _,#[(hl x (by simp)).2,by decide+kernel,.inr (-())],?_];show#[_,U,λz=>?_,λz=>?_]
   .have z:Bw (dD x) (.str ":")=true:=z;cases vy.mp z;show#[_,U,_,U,_,U,?_];rw[D5];show#[_,.inl U,?_];show jq dD eR D.str (Z:=RX aN [("row",.int 0)]) _ (λy hy k hk hz=>#[_,U,y,U,(hl y (by simp[hy])).1,df (λb hb=>hk b hb _ U) hz]) (λns hs=>?_) λhs=>?_
    .rw[aaJ];have hlen:=dX hs;let(n,ns,rfl):=Iw (l:=ns) (by rw[hlen];simp at h3;cbv);show#[_,U,_,_,_,U,U,bB,?_];show#[_,U,_,U,_,U,?_];rw[show cutD ((n::ns).map D.str) (some 1) none=ns.map D.str from gY];show#[_,.inl U,?_];show#[_,U,_,_,_,U,U,?_,e,U,(hl e (by simp)).1,df (λt ht=>?_) λht=>?_]
     .rw[show a.map dD++[dD (.w ":"),dD e]=(a.map dD++[dD (.w ":")])++[dD e] by simp];exact iZ _ _
     .dsimp only at q;rw[if_pos U,hs,ht] at q;exact q
     .dsimp only at q;rw[if_pos U,hs,ht] at q;exact q
    .dsimp only at q;rw[if_pos U,hs] at q;exact q
   .have z:¬ Bw (dD x) (.str ":")=true:=by
     have z:Bw (dD x) (.str ":")=false:=z;rw[z];decide
    cases x with
    | k t=>exact q
    | w c =>
     dsimp only at q;rw[if_neg λy=>z (vy.mpr (by rw[y]))] at q;exact q
  .refine eP (decide_eq_false (by rw[Zy];cbv)) ?_;show#[false,U,λz=>(nomatch z),λ_=>?_]
   match g,h3,q with
   | [],_,q=>exact q
   | [_],_,q=>exact q
   | [x,e],_,q =>
    have:=rH (a:=[]) (x:=x) (e:=e);rw[aaJ] at this;rw[this] at q;cases x with
    | k t=>exact q
    | w c =>
     dsimp only[allI] at q;split at q
     .exact q
     .exact q
   | _::_::_::_,h3,_=>exact absurd (by simp) h3
abbrev Sa(r:(Str×!Str)×Tm):D:=DZ r.1 (toD r.2)
def U6(aN:AC):!D->(D->Prop)->XD->Prop:=λds R RX=>∃ gs:!(!El),ds=[.lst (gs.map λg=>.lst (g.map dD))]/\(∀ g∈gs,g.length<=100000/\∀ e∈g,Bq e)/\AG aN R RX ((allI ic gs).map λrs=>.tup (rs.map Sa))
theorem PK{aN:AC}(YW:C4 P w K mg base (cA P w) eJ 6 (cE K (We aN)))(F:Own K mg cJ)(T:Txt K mg):C4 P w K mg base (cA P w) cJ 7 (cE K (U6 aN)):=by
 show F.x (nos:=0) lW (λds R RX h=>?_) λf bp A outer s H E M RX hr hX=>#[_,(ak (aF (AZ T.tuple (aa (DN.de (Vl (qC λ_ _ _ h=>h) ["group"] [] (nJ (vd 0)) (λ_ _ _ _=>(gM 0 ["group"])) (λ_ _ _ _=>i7)
 (λ_ _ _ _=>(bh (λ_ h=>iU h) hX hr YW (aa (vd 0) ae))))) ae)))),λds R h=>?_]
 .let(x,rfl,_):=h
  rfl
 .let(gs,rfl,hl,q):=h;show#[_,U,_,.inl U,?_];show jq (λg:!El=>D.lst (g.map dD)) ic Sa (Z:=RX aN [("row",.int 0)]) _ (λg hg k hk hz=>#[_,U,g,U,hl g hg,df (λb hb=>hk b hb _ U) hz]) (λrs hs=>?_) λhn=>?_
  .rw[hs] at q;exact#[_,.inl U,q]
  .rw[hn] at q;exact q
theorem qi:∀ rs:!((Str×!Str)×Tm),cW (rs.map (·.1)) ((rs.map (·.2)).map toD)=rs.map Sa
 | []=>rfl
 | r::rs=>by
  rw[ZG,ZG,ZG,ZG,cW,qi rs]
structure vX(K:Frag)(x qual:Str)(st:Fk)(f:AC)(fd:IR)(z:Str)(tk:Tok):Prop where
 ex:∃ (oc:AT) (od:Option AC) (kV doc pm:AT) (an:Option AC) (bp ct:AT) (vv:Array (Option AT)) (td:AC) (o:Obj) (n:Nat),
  fd=fnOf x qual (bW st) (aq st) (ag st) (.ref td) kV doc pm an bp ct/\K.lookup f=some #[oc,od,.func fd,vv]/\codeIn K bp qual=true/\K.lookup td=some o/\o.data=.seq #v[.str z tk] n
 kp:keepIn K (.ref f)=true
theorem vX.ok{x qual:Str}{st:Fk}{f:AC}{fd:IR}{z:Str}{tk:Tok}{N ps:!Str}{k:Nat}{sp:Sp}(F:vX K x qual st f fd z tk)(S:ar N ps (ag st))(len:∀ vs H Q E,sp vs H Q E->vs.length=ps.length)(pU:∀ (bp:AT) (A:GE) (outer:!Env) (s:Ch) (H:Hp) (vs:!V) (Q:VK) (E:XK),bF k (A.deeper (PyProof.Rows.envOfC qual (ag st) ↑s f bp))->sp vs H Q E ->
   ∃ t,nX (jO aV P w K mg base N qual (ag st) f bp A outer s H E).wD (aq st) t/\t { nx:=λ_ H'=>Q .bX H',rt:=Q } (start N vs) H):br P w K mg base aV (k+1) f fd ps sp:=by
 let(oc,od,kV,doc,pm,an,bp,ct,vv,td,o,n,rfl,lk,rB,_):=F.ex;show Dz lk rB S len λA outer s H vs Q E hr Br=>?_;let(t,h,q):=pU bp A outer s H vs Q E hr Br;exact#[t,h.wD,q]
theorem vX.binds{f:AC}{fd:IR}{tk:Tok}(F:vX K "parted" "parted" eO f fd "|" tk):Binds K fd ["items","sign"] [.str "|" tk]:=by
 let(oc,od,kV,doc,pm,an,bp,ct,vv,td,o,n,rfl,lk,rB,lt,ho):=F.ex;intro s us KX hl;cases us with
 | nil=>simp at hl
 | cons u us =>
  cases us with
  | nil=>exact .of_defaults (T:=td) U (KX _ _ lt) ho U U
  | cons v us=>simp at hl
def eqB(x:D):Bool:=Bw x (.str "|")
def cX(s:!(!D)×!D)(x:D):!(!D)×!D:=if eqB x=true then (s.1++[s.2],[]) else (s.1,s.2++[x])
def HM(xs:!D):!(!D):=let s:=xs.foldl cX ([],[]);s.1++[s.2]
def So:abM:=λds R=>∃ xs:!D,ds=[.lst xs,.str "|"]/\(xs.length<=100000/\∀ x∈xs,oV x=true)/\R (.lst ((HM xs).map .lst))
def LL(K:Frag)(H:Hp)(M:AC->Prop):!AC->!(!D)->Prop
 | [],[]=>True
 | b::bs,l::ls=>(∃ us,H b=some (.lst us)/\av K H M l us)/\LL K H M bs ls
 | _,_=>False
theorem LL.mono{K:Frag}{H H':Hp}{M M':AC->Prop}(hM:∀ b,M b->M' b)(hH:∀ b o,M b->H b=some o->H' b=some o):∀ {bs:!AC} {ls:!(!D)},(∀ b∈bs,∀ o,H b=some o->H' b=some o)->LL K H M bs ls->LL K H' M' bs ls
 | [],[],_,_=>trivial
 | b::bs,l::ls,h,#[#[us,e,r],t]=>#[#[us,h b Zx _ e,av.mono hM hH _ _ r],LL.mono hM hH (λc hc=>h c (Zw _ hc)) t]
 | [],_::_,_,h=>h.elim
 | _::_,[],_,h=>h.elim
theorem LL.snoc{K:Frag}{H:Hp}{M:AC->Prop}:∀ {bs:!AC} {ls:!(!D)} {b:AC} {l:!D},LL K H M bs ls->(∃ us,H b=some (.lst us)/\av K H M l us)->LL K H M (bs++[b]) (ls++[l])
 | [],[],b,l,_,h=>#[h,trivial]
 | c::bs,d::ls,b,l,#[h1,h2],h=>#[h1,LL.snoc h2 h]
 | [],_::_,_,_,h,_=>h.elim
 | _::_,[],_,_,h,_=>h.elim
theorem LL.there{K:Frag}{H:Hp}{M:AC->Prop}:∀ {bs:!AC} {ls:!(!D)},LL K H M bs ls->∀ b∈bs,∃ o,H b=some o
 | [],_,_,b,h=>(nomatch h)
 | b::bs,l::ls,#[#[us,e,_],t],c,h=>by
  rcases ZD.mp h with rfl | h
  .exact#[_,e]
  .exact LL.there t c h
 | _::_,[],h,_,_=>h.elim
theorem LL.lst{K:Frag}{H:Hp}{M:AC->Prop}:∀ {bs:!AC} {ls:!(!D)},LL K H M bs ls->∀ b∈bs,∃ us,H b=some (.lst us)
 | [],_,_,b,h=>(nomatch h)
 | b::bs,l::ls,#[#[us,e,_],t],c,h=>by
  rcases ZD.mp h with rfl | h
  .exact#[_,e]
  .exact LL.lst t c h
 | _::_,[],h,_,_=>h.elim
theorem yX{α:Type}{l:!α}{a:α}(h:l.Nodup)(n:a∉l):(l++[a]).Nodup:=List.nodup_append.mpr #[h,by simp,λx hx y hy z=>n (by rw[List.mem_singleton.mp hy] at z;exact z▸hx)]
theorem LL.len{K:Frag}{H:Hp}{M:AC->Prop}:∀ {bs:!AC} {ls:!(!D)},LL K H M bs ls->bs.length=ls.length
 | [],[],_=>rfl
 | _::_,_::_,#[_,h]=>congrArg (·+1) (LL.len h)
 | [],_::_,h=>h.elim
 | _::_,[],h=>h.elim
theorem LL.qN{K:Frag}{H:Hp}{M M':AC->Prop}(hM:∀ b,M b->M' b):∀ {bs:!AC} {ls:!(!D)},LL K H M bs ls->(∀ b∈bs,M' b)->av K H M' (ls.map .lst) (bs.map V.ref)
 | [],[],_,_=>rfl
 | b::bs,l::ls,#[#[us,e,r],t],h=>#[_,_,U,#[b,us,U,#[h b Zx,e],av.mono hM (λ_ _ _ e=>e) _ _ r],LL.qN hM t λc hc=>h c (Zw _ hc)]
 | [],_::_,h,_=>h.elim
 | _::_,[],h,_=>h.elim
theorem vo:∀ (xs:!D) (s:!(!D)×!D),(xs.foldl cX s).1.length+(xs.foldl cX s).2.length<=s.1.length+s.2.length+xs.length
 | [],s=>by simp
 | x::xs,s=>by
  have h:=vo xs (cX s x);have h2:(cX s x).1.length+(cX s x).2.length<=s.1.length+s.2.length+1:=by
   unfold cX;split
   .simp
   .simp;cbv
  rw[List.foldl_cons,ZJ];cbv
structure X9(K:Frag)(M:AC->Prop)(H:Hp)(xs:!D)(a g:AC)(i:Nat)(O:St)(H':Hp)(bs:!AC)(b:AC)(v3:Option V):Prop where
 st:O=[some (.ref a),some (.str "|"),some (.ref g),v3]
 out:H' g=some (.lst ((bs++[b]).map V.ref))
 ll:LL K H' M bs ((xs.take i).foldl cX ([],[])).1
 cur:∃ us,H' b=some (.lst us)/\av K H' M ((xs.take i).foldl cX ([],[])).2 us
 nd:(g::(bs++[b])).Nodup
 new:∀ c∈g::(bs++[b]),H c=none
 same:cQ H H'
theorem O5{f:AC}{fd:IR}{tk:Tok}(F:vX K "parted" "parted" eO f fd "|" tk)(T:Txt K mg):br P w K mg base aV 1 f fd ["items","sign"] (b5 K .no So):=by
 show F.ok lZ (λvs H Q E h=>?_) (λbp A outer s H vs Q E hr h=>?_)
 .let(M,ds,R,B,r,(xs,rfl,_),_):=h;rw[r.length]
  rfl
 .let(M,ds,R,B,r,(xs,rfl,(hl,aD),q),kk):=h;let(v1,v2,rfl,r1,r2):=wz r;cases (show v2=.str "|" from r2);let(a,us,rfl,(ma,ha),ru):=r1;show#[_,(aI (eT (i:=2) lZ.nd U (Or.inl U) (j8 (ax (j8 aM) aM)))
   (aI (oQ PassesOwn.never U (kB (pv 0)) (fP (i:=3) lZ.nd U (Or.inl U))
    (bI (r8 (hU (xZ (D0 hr)) (pv 3) (pv 1) (ay _))
     (bI (ff (iD aag aay aaz eA (pv 2) (ax (j8 aM) aM))))
     (bI (ff (iD aag aay aaz eA (nH hV (pv 2) jB (λ_ _=>rfl)) (ax (pv 3) aM)))))))
   (bI (eI (pv 2))))),?_]
  have hnone:∀ {c:AC},H c=none->¬ M c:=λ{c} h m=>by
   let(o,e):=B.md c m;rw[h] at e;cases e
  have hlu:us.length=xs.length:=ru.length;show#[(by decide:(0:Nat)<=FB),λb hb=>#[(by decide:(1:Nat)<=FB),λg hg=>?_]];have nbg:b≠g:=au aj hg;have hgH:H g=none:=by
   rw[ai (Ne.symm nbg)] at hg;exact hg
  have sm0:cQ H (upd (upd H b (.lst [])) g (.lst [.ref b])):=λc o e=>by
   rw[ai (au e hgH),ai (au e hb)];exact e
  show#[_,U,a,U,#[us,.of (sm0 _ _ ha)],pd (xs:=us) (λi O H'=>∃ bs b v3,X9 K M H xs a g i O H' bs b v3) #[[],b,none,U,aj,trivial,#[[],by rw[ai nbg];exact aj,U],by simp[Ne.symm nbg],λc hc=>?_,sm0] (λi O H' _ #[bs,b,v3,I]=>.of (I.same _ _ ha)) ?_ ?_]
  .rcases ZD.mp hc with rfl | hc
   .exact hgH
   .rw[ZI.mp hc];exact hb
  .rintro i x O H' hx ⟨bs,b,v3,I⟩;have jQ:=I.st;subst jQ;let(d,hd,rd):=ru.Nt hx;have hil:i < xs.length:=(ZF.mp hd).1;have HH:xs.take (i+1)=xs.take i++[d]:=by rw[aby,hd];rfl
   have hfd:(xs.take (i+1)).foldl cX ([],[])=cX ((xs.take i).foldl cX ([],[])) d:=by rw[HH,List.foldl_append];rfl
   have dI:=vo (xs.take i) ([],[]);have htl:(xs.take i).length<=100000:=by rw[aak];cbv
   have hll:=I.ll.len;have km:∀ c o,M c->H c=some o->H' c=some o:=λc o _ e=>I.same c o e;have rd':Rep K H' M d x:=Rep.mono (λ_ m=>m) km d x rd;show#[_,U,_,U,M,d,.str "|",rd',U,aD d (aaA hd),by decide+kernel,.inr (-()),_,U,?_];have there:∀ c∈bs++[b],∃ o,H' c=some o:=λc hc=>by
    rcases ZR.mp hc with hc | hc
    .exact I.ll.there c hc
    .rw[ZI.mp hc];let(us,e,_):=I.cur;exact#[_,e]
   have hgb:∀ c∈bs++[b],c≠g:=λc hc z=>(aaD.mp I.nd).1 (z▸hc);show kY (λhe=>?_) λhe=>?_
   .have he:eqB d=true:=he;show#[_,U,.inl #[U,_,dM.of I.out],(by decide:(0:Nat)<=FB),λp hp=>#[g,(bs++[b]).map V.ref,.ref p,U,U,?_,?_,?_]]
    .rw[ai (au I.out hp)];exact I.out
    .rw[Zy,ZE];change _+1 < _;have:=aK;simp only[List.length_nil,Nat.zero_add] at dI;cbv
    .have hpH:H p=none:=by
      cases e:H p with
      | none=>rfl
      | some o =>
       have:=I.same p o e;rw[hp] at this;cases this
     have npg:p≠g:=λz=>by rw[z,I.out] at hp;cases hp
     have npb:p∉bs++[b]:=λhc=>by
      let(o,e):=there p hc;rw[hp] at e;cases e
     have kp:∀ c o,c≠g->H' c=some o->upd (upd H' p (.lst [])) g (.lst ((bs++[b]).map V.ref++[.ref p])) c=some o:=λc o n1 e=>by
      rw[ai n1,ai (au e hp)];exact e
     have km2:∀ c o,M c->H' c=some o->upd (upd H' p (.lst [])) g (.lst ((bs++[b]).map V.ref++[.ref p])) c=some o:=λc o m e=>kp c o (λz=>hnone hgH (z▸m)) e;show#[bs++[b],p,some x,U,?_,?_,?_,?_,?_,?_]
     .rw[aj,ZO (l₁:=bs++[b])]
      rfl
     .rw[hfd];unfold cX;rw[if_pos he];show LL.mono (λ_ m=>m) km2 (λc hc o e=>kp c o (hgb c hc) e) (I.ll.snoc I.cur)
     .rw[hfd];unfold cX;rw[if_pos he];exact#[[],by rw[ai npg];exact aj,U]
     .rw[<- aad];exact yX I.nd λhc=>by
       rcases ZD.mp hc with hc | hc
       .exact npg hc
       .exact npb hc
     .intro c hc;rw[<- aad] at hc;rcases ZR.mp hc with hc | hc
      .exact I.new c hc
      .rw[ZI.mp hc];exact hpH
     .exact λc o e=>kp c o (λz=>by rw[z,hgH] at e;cases e) (I.same c o e)
   .have he:¬ eqB d=true:=he;let(cu,hcu,rcu):=I.cur;have hbH:H b=none:=I.new b (by simp);have hbl:cu.length<=100000:=by
     rw[rcu.length];simp only[List.length_nil,Nat.zero_add] at dI;cbv
    show#[_,U,g,_,-1,.ref b,U,U,dM.of I.out,by rw[ZO];exact iZ _ _,.inl #[U,_,dM.of hcu],_,U,b,cu,x,U,U,hcu,?_,?_]
    .have:=aK;cbv
    have nbg2:g≠b:=λz=>hgb b (by simp) z.symm;have nbb:∀ c∈bs,c≠b:=λc hc z=>by
     have h1:=(aaD.mp I.nd).2;exact (List.nodup_append.mp h1).2.2 c hc b (by simp) z
    have kp:∀ c o,c≠b->H' c=some o->upd H' b (.lst (cu++[x])) c=some o:=λc o n1 e=>by
     rw[ai n1];exact e
    have km2:∀ c o,M c->H' c=some o->upd H' b (.lst (cu++[x])) c=some o:=λc o m e=>kp c o (λz=>hnone hbH (z▸m)) e;show#[bs,b,some x,U,?_,?_,?_,I.nd,I.new,λc o e=>kp c o (λz=>by rw[z,hbH] at e;cases e) (I.same c o e)]
    .rw[ai nbg2];exact I.out
    .rw[hfd];unfold cX;rw[if_neg he];exact LL.mono (λ_ m=>m) km2 (λc hc o e=>kp c o (nbb c hc) e) I.ll
    .rw[hfd];unfold cX;rw[if_neg he];exact#[cu++[x],aj,(av.mono (λ_ m=>m) km2 _ _ rcu).append (av.one (Rep.mono (λ_ m=>m) km2 _ _ rd'))]
  .rintro O H' ⟨bs,b,v3,I⟩;have jQ:=I.st;subst jQ;show#[_,U,?_];have etk:xs.take us.length=xs:=by rw[hlu,List.take_length]
   have L:=I.ll.snoc I.cur;rw[etk] at L;have hnew:∀ c,c=g\/c∈bs++[b]->H c=none:=λc hc=>I.new c (by
    rcases hc with rfl | hc
    .exact Zx
    .exact Zw _ hc)
   show kk _ q (λc=>M c\/(c=g\/c∈bs++[b])) H' (.ref g) #[trivial,λc o e _=>I.same c o e,λc m=>?_,λ_ _ h=>h,λ_ m=>.inl m,λc m=>?_] #[g,_,U,#[.inr (.inl U),I.out],LL.qN (λ_ m=>.inl m) L λc hc=>.inr (.inr hc)]
   .rcases m with m | rfl | hc
    .let(o,e):=B.md c m;exact#[o,I.same c o e]
    .exact#[_,I.out]
    .exact L.there c hc
   .rcases m with m | hc
    .exact .inl m
    .exact .inr (.inl (hnew c hc))
end
theorem D9{e:El}:eqB (dD e)=lj e:=by
 rw[aaH];unfold eqB;rw[vy];cases e with
 | w x =>
  change _↔decide (x="|")=true;rw[decide_eq_true_iff];exact#[λh=>by injection h,λh=>by rw[h]]
 | k t=>exact#[(λh=>by cases h),(λh=>by cases (show false=true from h))]
theorem tQ:∀ (es:!El) (d:!(!D)) (cur:!D),((es.map dD).foldl cX (d,cur)).1++[((es.map dD).foldl cX (d,cur)).2]=d++((cur++(aR es).1.map dD)::(aR es).2.map λg=>g.map dD)
 | [],d,cur=>by simp[aR]
 | e::es,d,cur=>by
  rw[ZG,List.foldl_cons];cases hb:lj e with
  | true =>
   have h1:cX (d,cur) (dD e)=(d++[cur],[]):=by unfold cX;rw[D9,hb];rfl
   have h2:aR (e::es)=([],(aR es).1::(aR es).2):=by rw[aR,if_pos hb]
   rw[h1,tQ es,h2];simp
  | false =>
   have h1:cX (d,cur) (dD e)=(d,cur++[dD e]):=by unfold cX;rw[D9,hb];rfl
   have h2:aR (e::es)=(e::(aR es).1,(aR es).2):=by rw[aR,if_neg (by rw[hb];decide)]
   rw[h1,tQ es,h2];simp
theorem CC(es:!El):HM (es.map dD)=(((aR es).1::(aR es).2).map λg=>g.map dD):=by
 change ((es.map dD).foldl cX ([],[])).1++[((es.map dD).foldl cX ([],[])).2]=_;rw[tQ]
 rfl
theorem jo:∀ {es:!El} {g:!El},g∈(aR es).1::(aR es).2->g.length<=es.length/\∀ e∈g,e∈es
 | [],g,h=>by
  have h:g∈[[]]:=h;rw[ZI.mp h];exact#[ZC _,λ_ z=>nomatch z]
 | e::es,g,h=>by
  rw[aR] at h;have up:g∈(aR es).1::(aR es).2->g.length<=(e::es).length/\∀ x∈g,x∈e::es:=λz=>by
   let(h1,h2):=jo z;exact#[by rw[ZJ];cbv,λx hx=>Zw _ (h2 x hx)]
  split at h
  .rcases ZD.mp h with rfl | h
   .exact#[Z1 _,λ_ z=>nomatch z]
   .exact up h
  .rcases ZD.mp h with rfl | h
   .let(h1,h2):=jo (es:=es) (g:=(aR es).1) Zx;show#[by rw[ZJ,ZJ];cbv,λx hx=>?_];rcases ZD.mp hx with rfl | hx
    .exact Zx
    .exact Zw _ (h2 x hx)
   .exact up (Zw _ h)
section
variable{P:Fr}{w:Fa}{K:Frag}{mg:Str->Option AT}{base:Ev}
section
variable{X:Cx}{c:Ent}{k:Nat}{f:AC}{fd:IR}{ps:!Str}{t:abM}{x:Str}{p pos:Pos}{e:Da}{es:!Da}{ta:eQ}
theorem vP{z:Str}{dv:AT}(hr:bF k X.A)(hg:Gl X x)(hm:X.mg x=some (.ref f))(hk:keepIn X.K (.ref f)=true)(hb:Binds X.K fd ps [dv])(hz:RelV (.str z) dv)(ha:DA X c (e::es) ta)(F:br X.prog X.w X.K X.mg X.base aV k f fd ps (b5 X.K .no t))(fM: ~~~(abP x))(he:(abN X.env e es)⁻¹)(dI:(abO X.env pos es)⁻¹) :
  DE X c (.Call (.Name x p) (e::es) [] pos) (gy (λds R=>t (ds++[.str z]) R) ta):=#[(cU F hr hg hm hk hb (.cons hz .nil) (E:=E0) lh ha.pa fM he dI).imp λO H Q zz=>eF zz λM s as R L q kk =>
 #[M,s,as,_,L,q,λds s1 q1 M1 H1 vs L1 E1 r1 hl=>#[M1,ds++[.str z],_,L1.base.nF,r1.append (av.one (d:=.str z) U),q1,λd rd M' H' v B rv=>kk d s1 rd M' H' v (L1.after (L1.base.gK B)) (E1.trans L1.base (Ext.after (L1.base.gK B))) rv]]]
end
theorem JL{es:!El}:gF "new" es=(match (aR es).1,allI ic (aR es).2 with
  | [k],some rs=>(match lB k with
   | some n=>some (.node (.new n (rs.map (·.1))) (rs.map (·.2)))
   | none=>none)
  | _,_=>none):=by
 unfold gF;rw[if_neg (-()),if_neg (-()),if_neg (-()),if_neg (-()),if_neg (-()),if_neg (-())];exact if_pos U
def Mi(aN:AC)(p:Str->Prop):!D->(D->Prop)->XD->Prop:=λds R RX=>∃ (s:Str) (es:!El),ds=[.str s,.lst (es.map dD)]/\(p s/\es.length<=100000/\∀ e∈es,Bq e)/\AG aN R RX ((gF s es).map toD)
theorem NW{aN Bt:AC}{xb:IR}{tW:Tok}(UM:br P w K mg base aV 1 Bt xb ["items","sign"] (b5 K .no So))(HD:tW≠0)(IG:vX K "parted" "parted" eO Bt xb "|" tW)(LP:mg "parted"=some (.ref Bt))(LZ:Binds K xb ["items","sign"] [.str "|" tW])(nY:C4 P w K mg base (cA P w) dO 3 (cE K (zk aN)))(TB:C4 P w K mg base (cA P w) gQ 4 (cE K (Rb aN)))(TH:C4 P w K mg base (cA P w) cJ 7 (cE K (U6 aN)))(F:Own K mg pj)(T:Txt K mg):C4 P w K mg base (cA P w) pj 8 (cE K (Mi aN λs=>s="new")):=by
 show F.x (nos:=0) rW (λds R RX h=>?_) λf bp A outer s H E M RX hr hX=>#[_,(af (sS 2 rW.nd (vP (hr.mono (by ac_rfl)) U LP IG.kp LZ #[#[tW,HD],U] (aa (vd 1) ae) UM))
 (af (cF (λ_ h=>aA h) hX hr nY (aa (dH bu cY (jS T.len (aa (j0 (vd 2) ao) ae)) ao (ay _)) ae))
 (ak (aF (bZ (aa (vd 0) (aa (bh (λ_ h=>aA h) hX hr TB (aa (j0 (j0 (vd 2) ao) ao) ae)) (aa (bh (λ_ h=>aA h) hX hr TH (aa (DN.de (bK (vd 2) (bb ao) bw)) ae)) ae)))))))),λds R h=>?_]
 .let(s,es,rfl,_):=h
  rfl
 .let(s,es,rfl,(rfl,hn,hl),q):=h;have hsz:=aK;rw[JL] at q;show#[_,U,_,U,#[by rw[Zy];exact hn,λx hx=>?_],?_]
  .let(e,he,rfl):=Z5.mp hx;exact (hl e he).2
  rw[CC];have hm:=λg hg=>jo (es:=es) (g:=g) hg;generalize aR es=pr at q hm ⊢;let(hd,gs):=pr;rw[ZG,ZG];show#[_,U,_,_,_,U,U,bB,_,.inl U,#[U,U,U],_,U,λz=>?_,λz=>?_]
  .have z2:hd.length=1:=by
    have y:=kz (m:=(hd.map dD).length) (n:=1) z
    rwa [Zy] at y
   let(k,r,rfl):=Iw (show 1<=hd.length by cbv);cases Z6 (show r.length=0 by rw[ZJ] at z2;cbv);show#[_,U,_,U,_,_,_,U,U,bB,_,_,_,U,U,U,k,U,(hl k ((hm [k] List.mem_cons_self).2 k (by simp))).1,df (λn hk=>?_) λhk=>?_]
   .refine#[_,U,_,U,_,U,?_];rw[gY];show#[gs,by rw[aal];rfl,λg hg=>#[ZH (hm g (Zw _ hg)).1 hn,λe he=>hl e ((hm g (Zw _ hg)).2 e he)],df (λrs hs=>?_) λhs=>?_]
    .dsimp only at q;rw[hs] at q;dsimp only at q;rw[hk] at q;have q:R (toD (.node (.new n (rs.map (·.1))) (rs.map (·.2)))):=q;rw[fm] at q;have q:R (.tup [.str "new",.str n,.tup (cW (rs.map (·.1)) ((rs.map (·.2)).map toD))]):=q;rw[qi] at q;exact q
    .dsimp only at q;rw[hs] at q;exact q
   .dsimp only at q;cases hs:allI ic gs with
    | none=>rw[hs] at q;exact q
    | some rs =>
     rw[hs] at q;dsimp only at q;rw[hk] at q;exact q
  .have z2:hd.length≠1:=λy=>j9 z (by rw[Zy];exact y)
   match hd,z2,q with
   | [],_,q=>exact q
   | [_],z2,_=>exact absurd U z2
   | _::_::_,_,q=>exact q
end
section
variable{P:Fr}{w:Fa}{K:Frag}{mg:Str->Option AT}{base:Ev}
theorem Jj{es:!El}:gF "case" es=(match (aR es).1,allI ic (aR es).2 with
  | [a,.w c,k],some rs=>if c="to" then (match bo a,lB k with
   | some t,some n=>some (.node (.jb n (rs.map (·.1))) (t::rs.map (·.2)))
   | _,_=>none) else none
  | _,_=>none):=by
 unfold gF;rw[if_neg (-()),if_neg (-()),if_neg (-()),if_neg (-()),if_neg (-())];exact if_pos U
theorem Ob{aN Bt:AC}{xb:IR}{tW:Tok}(UM:br P w K mg base aV 1 Bt xb ["items","sign"] (b5 K .no So))(HD:tW≠0)(IG:vX K "parted" "parted" eO Bt xb "|" tW)(LP:mg "parted"=some (.ref Bt))(LZ:Binds K xb ["items","sign"] [.str "|" tW])(nY:C4 P w K mg base (cA P w) dO 3 (cE K (zk aN)))(GD:C4 P w K mg base (cA P w) eu 5 (cE K (Me aN)))(TB:C4 P w K mg base (cA P w) gQ 4 (cE K (Rb aN)))(TH:C4 P w K mg base (cA P w) cJ 7 (cE K (U6 aN)))(F:Own K mg mh)(T:Txt K mg):C4 P w K mg base (cA P w) mh 8 (cE K (Mi aN λs=>s="case")):=by
 show F.x (nos:=0) kn (λds R RX h=>?_) λf bp A outer s H E M RX hr hX=>#[_,(af (sS 2 kn.nd (vP (hr.mono (by ac_rfl)) U LP IG.kp LZ #[#[tW,HD],U] (aa (vd 1) ae) UM))
 (af (sS 3 kn.nd (j0 (vd 2) ao))
 (af (cF (λ_ h=>aA h) hX hr nY (aa (iK (dH bu cY (jS T.len (aa (vd 3) ae)) ao (ay _)) (jZ (dH (xZ (D0 hr)) IM (j0 (vd 3) ao) ah (ay _)))) ae))
 (ak (aF (bZ (aa (vd 0) (aa (bh (λ_ h=>aA h) hX hr GD (aa (j0 (vd 3) ao) ae)) (aa (bh (λ_ h=>aA h) hX hr TB (aa (j0 (vd 3) ao) ae)) (aa (bh (λ_ h=>aA h) hX hr TH (aa (DN.de (bK (vd 2) (bb ao) bw)) ae)) ae)))))))))),λds R h=>?_]
 .let(s,es,rfl,_):=h
  rfl
 .let(s,es,rfl,(rfl,hn,hl),q):=h;have hsz:=aK;rw[Jj] at q;show#[_,U,_,U,#[by rw[Zy];exact hn,λx hx=>?_],?_]
  .let(e,he,rfl):=Z5.mp hx;exact (hl e he).2
  rw[CC];have hm:=λg hg=>jo (es:=es) (g:=g) hg;generalize aR es=pr at q hm ⊢;let(hd,gs):=pr;rw[ZG,ZG];show#[_,U,_,_,_,U,U,bB,?_];show#[_,U,_,.inl U,#[U,U,U],_,U,?_];have hdl:∀ e∈hd,Bq e:=λe he=>hl e ((hm hd Zx).2 e he);show aO U (λz=>?_) λz=>?_
  .have z2:hd.length=3:=by
    have y:=kz (m:=(hd.map dD).length) (n:=3) z
    rwa [Zy] at y
   let(a,x,k,rfl):=QF z2;show#[_,U,_,_,_,U,U,U,#[(hdl x (by simp)).2,by decide+kernel,.inr (-())],?_];show#[_,U,λz=>?_,λz=>?_]
   .have z:Bw (dD x) (.str "to")=true:=z;cases vy.mp z;show#[_,U,_,U,_,_,_,U,U,U,a,U,(hdl a (by simp)).1,df (λt ht=>?_) λht=>?_]
    .refine#[_,U,_,_,_,U,U,U,k,U,(hdl k (by simp)).1,df (λn hk=>?_) λhk=>?_]
     .refine#[_,U,_,U,_,U,?_];rw[gY];show#[gs,by rw[aal];rfl,λg hg=>#[ZH (hm g (Zw _ hg)).1 hn,λe he=>hl e ((hm g (Zw _ hg)).2 e he)],df (λrs hs=>?_) λhs=>?_]
      .dsimp only at q;rw[hs] at q;dsimp only at q;rw[if_pos U,ht,hk] at q;have q:R (toD (.node (.jb n (rs.map (·.1))) (t::rs.map (·.2)))):=q;rw[fm] at q;have q:R (.tup [.str "case",toD t,.str n,.tup (cW (rs.map (·.1)) ((rs.map (·.2)).map toD))]):=q;rw[qi] at q;exact q
      .dsimp only at q;rw[hs] at q;exact q
     .dsimp only at q;cases hs:allI ic gs with
      | none=>rw[hs] at q;exact q
      | some rs =>
       rw[hs] at q;dsimp only at q;rw[if_pos U,ht,hk] at q;exact q
    .dsimp only at q;cases hs:allI ic gs with
     | none=>rw[hs] at q;exact q
     | some rs =>
      rw[hs] at q;dsimp only at q;rw[if_pos U,ht] at q;exact q
   .have z:¬ Bw (dD x) (.str "to")=true:=by
     have z:Bw (dD x) (.str "to")=false:=z;rw[z];decide
    dsimp only at q;cases hs:allI ic gs with
    | none =>
     rw[hs] at q;cases x<;>exact q
    | some rs =>
     rw[hs] at q;cases x with
     | k t=>exact q
     | w c =>
      dsimp only at q;rw[if_neg λy=>z (vy.mpr (by rw[y]))] at q;exact q
  .have z2:hd.length≠3:=λy=>j9 z (by rw[Zy];exact y);show#[false,U,λz=>(nomatch z),λ_=>?_]
   match hd,z2,q with
   | [],_,q=>exact q
   | [_],_,q=>exact q
   | [_,.w _],_,q=>exact q
   | [_,.k _],_,q=>exact q
   | [_,_,_],z2,_=>exact absurd U z2
   | _::.w _::_::_::_,_,q=>exact q
   | _::.k _::_::_::_,_,q=>exact q
def brk(a z l m q c n:AC):!(Str×AT):=[("+",.ref a),("-",.ref a),("*",.ref a),("zero",.ref z),("let",.ref l),("make",.ref m),("ask",.ref q),("case",.ref c),("new",.ref n)]
def ku(P:Fr)(w:Fa)(K:Frag)(mg:Str->Option AT)(base:Ev)(k:Nat)(f:AC)(sp:Sp):Prop:=∃ fd ps,br P w K mg base (cA P w) k f fd ps sp/\keepIn K (.ref f)=true/\Binds K fd ps []
theorem PQ{x:Str}{es:!El}(h:x∉(["+","-","*","zero","let","make","ask","case","new"]:!Str)):gF x es=none:=by
 simp only[List.mem_cons,List.not_mem_nil,or_false,not_or] at h;let(h1,h2,h3,h4,h5,h6,h7,h8,h9):=h;unfold gF;rw[if_neg (by rintro (z | z | z)<;>contradiction),if_neg h4,if_neg h5,if_neg h6,if_neg h7,if_neg h8,if_neg h9]
theorem OF{a z l m q c n:AC}{x:Str}(h:x∉(["+","-","*","zero","let","make","ask","case","new"]:!Str)):valueAt (brk a z l m q c n) x=none:=by
 simp only[List.mem_cons,List.not_mem_nil,or_false,not_or] at h;let(h1,h2,h3,h4,h5,h6,h7,h8,h9):=h;simp[valueAt,brk,Ne.symm h1,Ne.symm h2,Ne.symm h3,Ne.symm h4,Ne.symm h5,Ne.symm h6,Ne.symm h7,Ne.symm h8,Ne.symm h9,h1,h2,h3,h4,h5,h6,h7,h8,h9]
theorem Kz{aN a z l m q c n:AC}(h1:ku P w K mg base 8 a (cE K (xj aN λs=>s="+"\/s="-"\/s="*")))(h2:ku P w K mg base 8 z (cE K (xj aN λs=>s="zero")))(h3:ku P w K mg base 8 l (cE K (xj aN λs=>s="let")))(h4:ku P w K mg base 8 m (cE K (xj aN λs=>s="make")))(h5:ku P w K mg base 8 q (cE K (xj aN λs=>s="ask")))(h6:ku P w K mg base 8 c (cE K (Mi aN λs=>s="case")))(h7:ku P w K mg base 8 n (cE K (Mi aN λs=>s="new"))){x:Str}{es:!El}(hn:es.length<=100000)(hl:∀ e∈es,Bq e) :
  (valueAt (brk a z l m q c n) x=none/\gF x es=none)\/∃ g t,valueAt (brk a z l m q c n) x=some (.ref g)/\ku P w K mg base 8 g (cE K t)/\∀ R RX,AG aN R RX ((gF x es).map toD)->t [.str x,.lst (es.map dD)] R RX:=by
 have uH:∀ e∈es,JK e:=λe he=>(hl e he).1;by_cases hx:x∈(["+","-","*","zero","let","make","ask","case","new"]:!Str)
 .apply Or.inr;simp only[List.mem_cons,List.not_mem_nil,or_false] at hx;rcases hx with rfl | rfl | rfl | rfl | rfl | rfl | rfl | rfl | rfl
  .exact#[a,_,U,h1,λR RX r=>#[_,es,U,#[.inl U,hn,uH],r]]
  .exact#[a,_,U,h1,λR RX r=>#[_,es,U,#[.inr (.inl U),hn,uH],r]]
  .exact#[a,_,U,h1,λR RX r=>#[_,es,U,#[.inr (.inr U),hn,uH],r]]
  .exact#[z,_,U,h2,λR RX r=>#[_,es,U,#[U,hn,uH],r]]
  .exact#[l,_,U,h3,λR RX r=>#[_,es,U,#[U,hn,uH],r]]
  .exact#[m,_,U,h4,λR RX r=>#[_,es,U,#[U,hn,uH],r]]
  .exact#[q,_,U,h5,λR RX r=>#[_,es,U,#[U,hn,uH],r]]
  .exact#[c,_,U,h6,λR RX r=>#[_,es,U,#[U,hn,hl],r]]
  .exact#[n,_,U,h7,λR RX r=>#[_,es,U,#[U,hn,hl],r]]
 .exact .inl #[OF hx,PQ hx]
def VM(aN:AC):!D->(D->Prop)->XD->Prop:=λds R RX=>∃ (x:Str) (es:!El),ds=[.lst ((El.w x::es).map dD)]/\(es.length<=100000/\∀ e∈es,Bq e)/\AG aN R RX ((gF x es).map toD)
theorem OI{aN:AC}(nY:C4 P w K mg base (cA P w) dO 3 (cE K (zk aN))){d a z l m q c n:AC}(h1:ku P w K mg base 8 a (cE K (xj aN λs=>s="+"\/s="-"\/s="*")))(h2:ku P w K mg base 8 z (cE K (xj aN λs=>s="zero")))(h3:ku P w K mg base 8 l (cE K (xj aN λs=>s="let")))(h4:ku P w K mg base 8 m (cE K (xj aN λs=>s="make")))(h5:ku P w K mg base 8 q (cE K (xj aN λs=>s="ask")))(h6:ku P w K mg base 8 c (cE K (Mi aN λs=>s="case")))(h7:ku P w K mg base 8 n (cE K (Mi aN λs=>s="new")))(hD:LQ P w K d (brk a z l m q c n))(QD:mg "BRACKETS"=some (.ref d))(F:Own K mg fH)(T:Txt K mg):C4 P w K mg base (cA P w) fH 9 (cE K (VM aN)):=by
 show F.x (nos:=0) qT (λds R RX h=>?_) λf bp A outer s H E M RX hr hX=>#[_,(af (cF (λ_ h=>aA h) hX hr nY (aa (dH (J4 hD) Ou (j0 (vd 0) ao) (dc (d:=.hJ d) (dA (v:=.ref d) U QD U) U) U) ae))
 (ak (aF (CN (k:=8) (λ_ h=>aA h) hX hr (xX (TF hD) PB (dc (d:=.hJ d) (dA (v:=.ref d) U QD U) U) (j0 (vd 0) ao) (λ_ _=>rfl)) (aa (j0 (vd 0) ao) (aa (DN.de (bK (vd 0) (bb ao) bw)) ae)))))),λds R h=>?_]
 .let(x,es,rfl,_):=h
  rfl
 .let(x,es,rfl,(hn,hl),q):=h;rw[ZG];show#[_,U,_,_,_,U,U,bB,_,U,U,?_];rcases Kz (x:=x) (es:=es) h1 h2 h3 h4 h5 h6 h7 hn hl with ⟨e1,e2⟩ | ⟨g,t,e1,C,hR⟩
  .rw[e1];rw[e2] at q;exact#[false,U,λz=>(nomatch z),λ_=>q]
  .rw[e1];show#[true,U,λ_=>?_,λz=>(nomatch z)];show#[_,U,_,_,_,U,U,bB,x,g,U,U,e1,g,t,U,C,?_];show#[_,U,_,_,_,U,U,bB,?_];show#[_,U,_,U,_,U,?_];rw[show cutD (dD (.w x)::es.map dD) (some 1) none=es.map dD from gY];exact hR _ _ q
structure qU(K:Frag)(M0:AC->Prop)(H0:Hp)(Wd:AC)(vs:!V)(F:AC)(M:AC->Prop)(H:Hp)(bs:!AC)(fr:!(!D)):Prop where
 out:H F=some (.lst (bs.map V.ref))
 ll:LL K H M bs fr
 nd:(F::bs).Nodup
 new:∀ c∈F::bs,H0 c=none/\¬ M c
 B:Base #[.no,M0,H0] M H
 wd:H Wd=some (.lst vs)
 wn:Wd∉F::bs
section
variable{M0 M:AC->Prop}{H0 H:Hp}{Wd F:AC}{vs:!V}{bs:!AC}{fr:!(!D)}
theorem qU.lI(I:qU K M0 H0 Wd vs F M H bs fr){p:AC}(hp:H p=none):H0 p=none:=by
 cases e:H0 p with
 | none=>rfl
 | some o =>
  have:=I.B.fr p o e λz=>z;rw[hp] at this;cases this
theorem qU.nM(I:qU K M0 H0 Wd vs F M H bs fr){p:AC}(hp:H p=none):¬ M p:=λm=>by
 let(o,e):=I.B.md p m;rw[hp] at e;cases e
theorem qU.GV(I:qU K M0 H0 Wd vs F M H bs fr){q:AC}{o:HO}(nm:¬ M q)(h0:H0 q=none):Base #[.no,M0,H0] M (upd H q o):=#[trivial,λc u e g=>by
  rw[ai (λz=>by subst z;exact nomatch (show (none:Option HO)=some u from (show H0 c=none from h0).symm.trans e))];exact I.B.fr c u e g,λc m=>by
  let(u,e):=I.B.md c m;exact#[u,by rw[ai (λz=>by subst z;exact nm m)];exact e],λ_ _ h=>h,I.B.m0,I.B.mn]
theorem qU.push(I:qU K M0 H0 Wd vs F M H bs fr){p:AC}{us:!V}{l:!D}(hp:H p=none)(hr:av K H M l us):qU K M0 H0 Wd vs F M (upd (upd H p (.lst us)) F (.lst (bs.map V.ref++[.ref p]))) (bs++[p]) (fr++[l]):=by
 have hF:=I.new F Zx;have npF:p≠F:=λz=>by rw[z,I.out] at hp;cases hp
 have npb:p∉bs:=λhc=>by
  let(o,e):=I.ll.there p hc;rw[hp] at e;cases e
 have npw:Wd≠p:=λz=>by rw[<- z,I.wd] at hp;cases hp
 have nwF:Wd≠F:=λz=>I.wn (z▸Zx);have hgb:∀ c∈bs,c≠F:=λc hc z=>(aaD.mp I.nd).1 (z▸hc);have kp:∀ c o,c≠F->H c=some o->upd (upd H p (.lst us)) F (.lst (bs.map V.ref++[.ref p])) c=some o:=λc o n1 e=>by
  rw[ai n1,ai (au e hp)];exact e
 have km:∀ c o,M c->H c=some o->upd (upd H p (.lst us)) F (.lst (bs.map V.ref++[.ref p])) c=some o:=λc o m e=>kp c o (λz=>hF.2 (z▸m)) e;show#[?_,?_,?_,λc hc=>?_,?_,kp _ _ nwF I.wd,λhc=>?_]
 .rw[aj,ZO]
  rfl
 .exact (LL.mono (λ_ m=>m) km (λc hc o e=>kp c o (hgb c hc) e) I.ll).snoc #[us,by rw[ai npF];exact aj,av.mono (λ_ m=>m) km _ _ hr]
 .rw[<- aad];exact yX I.nd λhc=>by
   rcases ZD.mp hc with hc | hc
   .exact npF hc
   .exact npb hc
 .rw[<- aad] at hc;rcases ZR.mp hc with hc | hc
  .exact I.new c hc
  .rw[ZI.mp hc];exact#[I.lI hp,I.nM hp]
 .refine#[trivial,λc u e g=>kp c u (λz=>by subst z;exact nomatch (show (none:Option HO)=some u from (show H0 c=none from hF.1).symm.trans e)) (I.B.fr c u e g),λc m=>?_,λ_ _ h=>h,I.B.m0,I.B.mn];let(u,e):=I.B.md c m;exact#[u,km c u m e]
 .rw[<- aad] at hc;rcases ZR.mp hc with hc | hc
  .exact I.wn hc
  .exact npw (ZI.mp hc)
theorem LL.last{K:Frag}{H:Hp}{M:AC->Prop}:∀ {bs:!AC} {b0:!(!D)} {cur:!D},LL K H M bs (b0++[cur])->∃ cs b us,bs=cs++[b]/\H b=some (.lst us)/\av K H M cur us/\LL K H M cs b0
 | [],b0,cur,h=>by cases b0<;>exact h.elim
 | b::bs,[],cur,h=>by
  let((us,e,r),t):=h;cases bs with
  | nil=>exact#[[],b,us,U,e,r,trivial]
  | cons c bs=>exact t.elim
 | b::bs,l::b0,cur,h=>by
  let(h1,t):=h;let(cs,c,us,e,h2,h3,h4):=LL.last t;exact#[b::cs,c,us,by rw[e];rfl,h2,h3,h1,h4]
theorem qU.add{cs:!AC}{b:AC}{us:!V}{b0:!(!D)}{cur:!D}{d:D}{v:V}(I:qU K M0 H0 Wd vs F M H (cs++[b]) (b0++[cur]))(hb:H b=some (.lst us))(r:av K H M cur us)(l4:LL K H M cs b0)(rv:Rep K H M d v) :
  qU K M0 H0 Wd vs F M (upd H b (.lst (us++[v]))) (cs++[b]) (b0++[cur++[d]]):=by
 have hbn:=I.new b (by simp);have nFb:F≠b:=λz=>(List.nodup_cons.mp I.nd).1 (by rw[z];simp);have nbb:∀ c∈cs,c≠b:=λc hc z=>(List.nodup_append.mp (List.nodup_cons.mp I.nd).2).2.2 c hc b (by simp) z;have nwb:Wd≠b:=λz=>I.wn (by rw[z];simp);have kp:∀ c o,c≠b->H c=some o->upd H b (.lst (us++[v])) c=some o:=λc o n1 e=>by rw[ai n1];exact e
 have km:∀ c o,M c->H c=some o->upd H b (.lst (us++[v])) c=some o:=λc o m e=>kp c o (λz=>hbn.2 (z▸m)) e;exact#[kp _ _ nFb I.out,(LL.mono (λ_ m=>m) km (λc hc o e=>kp c o (nbb c hc) e) l4).snoc #[us++[v],aj,(av.mono (λ_ m=>m) km _ _ r).append (av.one (Rep.mono (λ_ m=>m) km _ _ rv))],I.nd,I.new,I.GV hbn.2 hbn.1,kp _ _ nwb I.wd,I.wn]
theorem qU.pop{cs:!AC}{b:AC}{us:!V}{b0:!(!D)}{cur:!D}(I:qU K M0 H0 Wd vs F M H (cs++[b]) (b0++[cur]))(hb:H b=some (.lst us))(r:av K H M cur us)(l4:LL K H M cs b0) :
  qU K M0 H0 Wd vs F (λc=>M c\/c=b) (upd H F (.lst (cs.map V.ref))) cs b0/\Rep K (upd H F (.lst (cs.map V.ref))) (λc=>M c\/c=b) (.lst cur) (.ref b):=by
 have hF:=I.new F Zx;have hbn:=I.new b (by simp);have nFb:b≠F:=λz=>(List.nodup_cons.mp I.nd).1 (by rw[<- z];simp);have hgb:∀ c∈cs,c≠F:=λc hc z=>(aaD.mp I.nd).1 (by rw[<- z];exact Z2 _ hc);have nbb:∀ c∈cs,c≠b:=λc hc z=>(List.nodup_append.mp (List.nodup_cons.mp I.nd).2).2.2 c hc b (by simp) z;have nwF:Wd≠F:=λz=>I.wn (z▸Zx);have kp:∀ c o,c≠F->H c=some o->upd H F (.lst (cs.map V.ref)) c=some o:=λc o n1 e=>by rw[ai n1];exact e
 have km:∀ c o,M c->H c=some o->upd H F (.lst (cs.map V.ref)) c=some o:=λc o m e=>kp c o (λz=>hF.2 (z▸m)) e;have nd2:(F::cs).Nodup:=by
  have h:=I.nd;rw[<- aad] at h;exact (List.nodup_append.mp h).1
 show#[#[aj,LL.mono (λ_ m=>.inl m) km (λc hc o e=>kp c o (hgb c hc) e) l4,nd2,λc hc=>?_,#[trivial,λc u e g=>kp c u (λz=>by subst z;exact nomatch (show (none:Option HO)=some u from (show H0 c=none from hF.1).symm.trans e)) (I.B.fr c u e g),λc m=>?_,λ_ _ h=>h,λc m=>.inl (I.B.m0 c m),λc m=>?_],kp _ _ nwF I.wd,λhc=>I.wn ?_],#[b,us,U,#[.inr U,kp _ _ nFb hb],av.mono (λ_ m=>.inl m) km _ _ r]]
 .have h1:=I.new c (by rw[<- aad];exact Z2 _ hc);show#[h1.1,λm=>?_];rcases m with m | rfl
  .exact h1.2 m
  .rcases ZD.mp hc with hc | hc
   .exact nFb hc
   .exact nbb c hc U
 .rcases m with m | rfl
  .let(u,e):=I.B.md c m;exact#[u,km c u m e]
  .exact#[_,kp _ _ nFb hb]
 .rcases m with m | rfl
  .exact I.B.mn c m
  .exact .inr (.inl hbn.1)
 .rw[<- aad];exact Z2 _ hc
theorem qU.call{M':AC->Prop}{H':Hp}(I:qU K M0 H0 Wd vs F M H bs fr)(B:Base #[.no,M,H] M' H'):qU K M0 H0 Wd vs F M' H' bs fr:=by
 have kp:∀ c o,H c=some o->H' c=some o:=λc o e=>B.fr c o e λz=>z;show#[kp _ _ I.out,LL.mono B.m0 (λc o _ e=>kp c o e) (λc _ o e=>kp c o e) I.ll,I.nd,λc hc=>#[(I.new c hc).1,λm=>?_],#[trivial,λc u e g=>kp c u (I.B.fr c u e g),B.md,λ_ _ h=>h,λc m=>B.m0 c (I.B.m0 c m),λc m=>?_],kp _ _ I.wd,I.wn]
 .have ht:∃ us,H c=some (.lst us):=by
   rcases ZD.mp hc with rfl | hc
   .exact#[_,I.out]
   .exact I.ll.lst c hc
  let(us,e):=ht;rcases B.mn c m with m | n | ⟨xs,n⟩
  .exact (I.new c hc).2 m
  .have n:H c=none:=n;rw[n] at e;cases e
  .have n:H c=some (.tup xs):=n;rw[n] at e;cases e
 .rcases B.mn c m with m | n | ⟨xs,n⟩
  .exact I.B.mn c m
  .exact .inr (.inl (I.lI n))
  .have n:H c=some (.tup xs):=n;show .inr ?_;cases e:H0 c with
   | none=>exact .inl e
   | some o =>
    have:=I.B.fr c o e λz=>z;rw[n] at this;cases this;exact .inr #[xs,e]
end
end
section
variable{P:Fr}{w:Fa}{K:Frag}{mg:Str->Option AT}{base:Ev}
theorem AS{M M1 M2:AC->Prop}{H H1 H2:Hp}(A:Base #[.no,M,H] M1 H1)(B:Base #[.no,M1,H1] M2 H2):Base #[.no,M,H] M2 H2:=by
 show#[trivial,λc o e g=>B.fr c o (A.fr c o e g) g,B.md,λ_ _ h=>h,λc h=>B.m0 c (A.m0 c h),λc h=>?_];rcases B.mn c h with h | n | ⟨xs,n⟩
 .exact A.mn c h
 .have n:H1 c=none:=n;show .inr (.inl ?_);cases e:H c with
  | none=>exact e
  | some o =>
   have:=A.fr c o e λz=>z;rw[n] at this;cases this
 .have n:H1 c=some (.tup xs):=n;show .inr ?_;cases e:H c with
  | none=>exact .inl e
  | some o =>
   have:=A.fr c o e λz=>z;rw[n] at this;cases this;exact .inr #[xs,e]
theorem ml{c:Ent}{M:AC->Prop}{H:Hp}(B:Base c M H):Base #[.no,M,H] M H:=#[trivial,λ_ _ e _=>e,B.md,λ_ _ h=>h,λ_ m=>m,λ_ m=>.inl m]
theorem XT.up{E:XK}{M M1:AC->Prop}{H H1:Hp}{RX:XD}(h:XT E #[.no,M,H] RX)(B:Base #[.no,M,H] M1 H1):XT E #[.no,M1,H1] RX:=λC fs hx M' H' dd B' fa=>h C fs hx M' H' dd (AS B B') fa
def ET(fr:!(!D)):Nat:=(fr.map λl=>l.length+1).sum
theorem jC(a b:!(!D)):ET (a++b)=ET a+ET b:=by simp[ET]
theorem jH(l:!D):ET [l]=l.length+1:=by simp[ET]
theorem yG:∀ fr:!(!D),fr.length<=ET fr
 | []=>by simp
 | a::l=>by
  have:=yG l;rw[show a::l=[a]++l from U,jC,jH,ZE];simp only[List.length_cons,List.length_nil];cbv
theorem uz:∀ a:!(!Nat),a.length<=(ba a).length+1/\∀ x∈a,x.length<=(ba a).length
 | []=>#[by simp,λx h=>nomatch h]
 | x::a=>by
  have e:(ba (x::a)).length=x.length+(a.length+(a.map List.length).sum):=by
   change (x++a.flatMap (32::·)).length=_;rw[ZE,va]
  show#[by rw[e,ZJ];cbv,λy hy=>?_];rw[e];rcases ZD.mp hy with rfl | hy
  .cbv
  .have:∀ (l:!(!Nat)),y∈l->y.length<=(l.map List.length).sum:=λl=>by
    induction l with
    | nil=>exact λh=>nomatch h
    | cons b l ih =>
     intro h;rw[ZG,aaL];rcases ZD.mp h with rfl | h
     .cbv
     .have:=ih h;cbv
   have:=this a hy;cbv
def wF(fs:!(!El)):!(!D):=(fs.map λf=>f.map dD).reverse
theorem fS(f:!El)(r:!(!El)):wF (f::r)=wF r++[f.map dD]:=by simp[wF]
structure vp(fs:!(!El)):Prop where
 g:uG fs
 p:∀ f∈fs,∀ e∈f,Bq e
theorem vp.push{f:!El}{r:!(!El)}(h:vp (f::r)){e:El}(hg:Bk e)(hp:Bq e):vp ((f++[e])::r):=#[uG.push hg h.g,λg hgm x hx=>by
 rcases ZD.mp hgm with rfl | hm
 .rcases ZR.mp hx with hx | hx
  .exact h.p f Zx x hx
  .rw[ZI.mp hx];exact hp
 .exact h.p g (Zw _ hm) x hx]
theorem vp.Vw{f:!El}{r:!(!El)}(h:vp (f::r)){x:Str}(hp:Bq (.w x)):vp ([.w x]::f::r):=#[#[#[#[_,_,U],λe he=>by rw[ZI.mp he];exact True.intro],h.g],λg hgm y hy=>by
 rcases ZD.mp hgm with rfl | hm
 .rw[ZI.mp hy];exact hp
 .exact h.p g hm y hy]
theorem vp.two{f prev:!El}{r:!(!El)}(h:vp (f::prev::r)):(∃ x es,f=.w x::es)/\vp (prev::r):=#[h.g.1.1,h.g.2,λg hm=>h.p g (Zw _ hm)]
abbrev lX(z:Str):!(!Nat):=(Txt.split z " ").map cd
noncomputable def EI (z:Str):Option (!El):=match dQ (lX z) [[]] with
 | some [f]=>some f
 | _=>none
def Vq(aN:AC):!D->(D->Prop)->XD->Prop:=λds R RX=>∃ z:Str,ds=[.str z]/\(z.length<=20000/\Gc.strOk z=true)/\AG aN R RX ((EI z).map λf=>.lst (f.map dD))
theorem rJ{z:Str}(h:dQ (lX z) [[]]=none):EI z=none:=by
 unfold EI;rw[h]
theorem JJ{z:Str}{a b:!El}{l:!(!El)}(h:dQ (lX z) [[]]=some (a::b::l)):EI z=none:=by
 unfold EI;rw[h]
theorem JX{z:Str}{a:!El}(h:dQ (lX z) [[]]=some [a]):EI z=some a:=by
 unfold EI;rw[h]
theorem zX{z:Str}(hz:z.length<=20000)(hs:Gc.strOk z=true){wd u:!Nat}(hw:wd∈lX z)(hu:∀ c∈u,c∈wd)(hl:u.length<=wd.length):Bq (.w (cn u)):=by
 have sp:=nv z;have h1:=(uz (lX z)).2 wd hw;rw[sp.jn] at h1;show#[?_,tF.mpr λc hc=>?_]
 .show (cn u).length<=100000;have:(cd z).length=z.length:=aG z;rw[d4];cbv
 .have hc:c∈u:=hc;exact tF.mp hs c (by
   rw[<- sp.jn];exact Cp hw c (hu c hc))
theorem MZ{x:Str}{es:!El}{t:Tm}(h:gF x es=some t)(hg:∀ e∈es,Bk e):Bk (.k t)/\Bq (.k t):=by
 have:=(NA h hg).1;exact#[this,trivial,DQ t this]
theorem Qb{aN:AC}(nY:C4 P w K mg base (cA P w) dO 3 (cE K (zk aN)))(Y6:C4 P w K mg base (cA P w) fH 9 (cE K (VM aN)))(F:Own K mg ip)(T:Txt K mg):C4 P w K mg base (cA P w) ip 10 (cE K (Vq aN)):=by
 let(fNE,fdNE,JNE,FNE,mNE,bNE):=id nY;let(fBI,fdBI,JBI,QO,mBI,bBI):=id Y6;show F.c λf fd F=>?_;show F.WE eB (λvs H Q E h=>?_) (λbp A outer s H vs Q E hr h=>?_)
 .let(M,ds,R,RX,B,r,(t,rfl,_),_):=h;rw[r.length]
  rfl
 .let(M,ds,R,RX,B,r,(t,rfl,(hzl,hzs),q),kk,hX):=h;let(v1,rfl,r1):=cG r;cases (show v1=.str t from r1);have hrN:bF 3 _:=hr.mono ();show#[_,(aI (eT (i:=1) eB.nd U (Or.inl U) (j8 (ax (j8 aM) aM)))
   (aI (oQ PassesOwn.leaving U (kB (iD aaq aaR PySem.F.type_str_split vJ (pv 0) (ax bP aM))) (fP (i:=2) eB.nd U (Or.inl U))
    (aI (r8 (ED (iD aaq PySem.F.slot_str_startswith PySem.F.type_str_startswith Av (pv 2) (ax bP aM)))
     (aI (ff (iD aag aay aaz eA (pv 1) (ax (j8 (ax (iV BK (pv 2) (oE bg) zV) aM)) aM)))
      (bI wc))
     kQ)
    (aI (eT (i:=3) eB.nd U (Or.inl U) (iD aaq PySem.F.slot_str_rstrip PySem.F.type_str_rstrip xB (pv 2) (ax bP aM)))
    (aI (ff (iD aag aay aaz eA (nH hV (pv 1) jB (λ_ _=>rfl)) (ax (pv 3) aM)))
    (bI (oQ PassesOwn.leaving U (qW U T.range (ax (cH xl (cq bx U T.len aaf (ax (pv 2) aM)) (cq bx U T.len aaf (ax (pv 3) aM))) aM)) (fP (i:=4) eB.nd U (Or.inl U))
     (aI (ff (cU (E:=E) JNE hrN U mNE FNE.kp bNE .nil (aA λ_ _ _ h=>h) (ax (jy pG (cq fK U T.len aaf (ax (pv 1) aM)) bg (ay _)) aM)))
     (aI (eT (i:=5) eB.nd U (Or.inl U) (w9 aag abb abc wO (pv 1)))
     (bI (ff (iD aag aay aaz eA (nH hV (pv 1) jB (λ_ _=>rfl)) (ax (cU (E:=E) JBI hr U mBI QO.kp bBI .nil (aA λ_ _ _ h=>h) (ax (pv 5) aM)) aM))))))))))))
   (aI (ff (cU (E:=E) JNE hrN U mNE FNE.kp bNE .nil (aA λ_ _ _ h=>h) (ax (jy bu (cq fK U T.len aaf (ax (pv 1) aM)) bg (ay _)) aM)))
   (bI (eI (nH hV (pv 1) bg (λ_ _=>rfl))))))),?_]
  have sp:=nv t;let(Dv,hwx):=uz (lX t);rw[sp.jn,aG] at Dv hwx;have hsm:(Txt.split t " ").map V.str=((lX t).map cn).map V.str:=by rw[B8]
  have hsl:(Txt.split t " ").length=(lX t).length:=by rw[Zy]
  have hLG:=aK;show#[(by decide:(0:Nat)<=FB),λb hb=>#[(by decide:(1:Nat)<=FB),λg hg=>?_]];show#[_,U,U,_,_,U,U,by decide,by cbv,by cbv,λp hp=>?_];rw[hsm];have nbg:b≠g:=au aj hg;have hgH:H g=none:=by
   rw[ai (Ne.symm nbg)] at hg;exact hg
  have npg:p≠g:=Ne.symm (au aj hp);have hp1:upd H b (.lst []) p=none:=by
   rw[ai npg] at hp;exact hp
  have npb:p≠b:=Ne.symm (au aj hp1);have hpH:H p=none:=by
   rw[ai npb] at hp1;exact hp1
  have hn:∀ {c:AC},H c=none->¬ M c:=λ{c} h m=>by
   let(o,e):=B.md c m;rw[h] at e;cases e
  have kp0:∀ c o,H c=some o->upd (upd (upd H b (.lst [])) g (.lst [.ref b])) p (.lst (((lX t).map cn).map V.str)) c=some o:=λc o e=>by
   rw[ai (au e hpH),ai (au e hgH),ai (au e hb)];exact e
  have I0:qU K M H p (((lX t).map cn).map V.str) g M (upd (upd (upd H b (.lst [])) g (.lst [.ref b])) p (.lst (((lX t).map cn).map V.str))) [b] (wF [[]]):=by
   show#[?_,#[#[[],?_,U],trivial],by simp[Ne.symm nbg],λc hc=>?_,#[trivial,λc o e _=>kp0 c o e,λc m=>?_,λ_ _ h=>h,λ_ m=>m,λ_ m=>.inl m],aj,by simp[npg,npb]]
   .rw[ai (Ne.symm npg),aj]
    rfl
   .rw[ai (Ne.symm npb),ai nbg,aj]
   .rcases ZD.mp hc with rfl | hc
    .exact#[hgH,hn hgH]
    .rw[ZI.mp hc];exact#[hb,hn hb]
   .let(o,e):=B.md c m;exact#[o,kp0 c o e]
  have F0:vp [[]]:=#[(λ_ h=>nomatch h),λf hf e he=>by rw[ZI.mp hf] at he;exact nomatch he];show#[p,U,#[_,dM.of aj],pd (xs:=((lX t).map cn).map V.str) (λi O H'=>∃ M' bs fs v2 v3 v4 v5,O=[some (.str t),some (.ref g),v2,v3,v4,v5]/\qU K M H p (((lX t).map cn).map V.str) g M' H' bs (wF fs)/\vp fs/\dQ ((lX t).drop i) fs=dQ (lX t) [[]]/\ET (wF fs)<=1+2 * i) #[M,[b],[[]],none,none,none,none,U,I0,F0,U,by decide] (λi O H' _ #[M',bs,fr,v2,v3,v4,v5,_,I,_]=>dM.of I.wd) ?_ ?_]
  .rintro i x O H' hx ⟨M',bs,fs,v2,v3,v4,v5,rfl,I,hfe,hrun,hms⟩;rw[Z8,Z8] at hx;let(z,hz,rfl):=ZN.mp hx;let(wd,hwd,rfl):=ZN.mp hz;have hil:i < (lX t).length:=(ZF.mp hwd).1;have hwm:=aaA hwd;have hwl2:wd.length<=20000:=by
    have:=hwx wd hwm;cbv
   have hdr:(lX t).drop i=wd::(lX t).drop (i+1):=by
    rw[abm hil];exact congrArg (·::_) (ZF.mp hwd).2
   rw[hdr,dQ] at hrun;cases fs with
   | nil=>exact hfe.g.elim
   | cons f0 r0 =>
   show#[_,U,U,_,_,U,U,_,U,?_];rw[Fg];by_cases h40:wd.head?=some 40
   .rw[decide_eq_true h40];show kY (λ_=>?_) λhe=>absurd U he;show#[_,U,.inl #[U,_,dM.of I.out],_,U,_,U,_,U,by rw[d4];cbv,(by decide:(1:Nat)<=FB),λq hq=>#[g,bs.map V.ref,.ref q,U,U,?_,?_,?_]]
    .rw[ai (au I.out hq)];exact I.out
    .rw[Zy,I.ll.len];have:=yG (wF (f0::r0));cbv
    .rw[JS h40];have jQ:stepI wd (f0::r0)=some ([.w (cn wd.tail)]::f0::r0):=by
      unfold DL.stepI;rw[if_pos h40]
     rw[jQ] at hrun;show#[M',bs++[q],[.w (cn wd.tail)]::f0::r0,_,v3,v4,v5,U,?_,hfe.Vw (zX hzl hzs hwm (λc hc=>List.mem_of_mem_tail hc) (by rw[abC];cbv)),hrun,?_]
     .rw[fS];exact I.push (l:=[.str (cn wd.tail)]) hq (av.one (d:=.str (cn wd.tail)) U)
     .rw[fS,jC,jH];simp only[List.map_cons,List.map_nil,List.length_cons,List.length_nil];cbv
   .rw[decide_eq_false h40];show kY (λhe=>nomatch he) λ_=>?_;show#[_,U,U,_,_,U,U,by rw[d4];cbv,?_];rw[Hj];have hbl:=vk wd;rw[fS] at I hms;let(cs,b1,us,rfl,hb1,ru,l4):=LL.last I.ll;rw[jC,jH] at hms;have hul:us.length=f0.length:=ru.length.trans (Zy _);rw[Zy] at hms;show#[_,U,g,_,-1,.ref b1,U,U,dM.of I.out,by rw[ZO];exact iZ _ _,.inl #[U,_,dM.of hb1],_,U,b1,us,.str (cn (bY wd)),U,U,hb1,by cbv,?_];generalize hn':wd.length - (bY wd).length=n;have hj:(((cn wd).length:Nat):Int) - (((cn (bY wd)).length:Nat):Int)=(n:Int):=by
     rw[d4,d4];cbv
    show#[_,U,_,U,by rw[d4];cbv,_,U,_,U,by rw[d4];cbv,_,_,U,U,_,U,by rw[hj];cbv,by rw[hj];cbv,?_];rw[hj,Int.toNat_natCast];have I1:=I.add (d:=.str (cn (bY wd))) (v:=.str (cn (bY wd))) hb1 ru l4 U;have jQ:stepI wd (f0::r0)=bS n ((f0++[.w (cn (bY wd))])::r0):=by
     unfold DL.stepI;rw[if_neg h40,<- hn']
    have hfe1:vp ((f0++[.w (cn (bY wd))])::r0):=hfe.push trivial (zX hzl hzs hwm (λc hc=>wB hc) hbl);rw[jQ] at hrun;have efr:wF r0++[f0.map dD++[.str (cn (bY wd))]]=wF ((f0++[.w (cn (bY wd))])::r0):=by
     rw[fS,ZO]
     rfl
    rw[efr] at I1;have hm1:ET (wF ((f0++[.w (cn (bY wd))])::r0))<=1+2 * (i+1):=by
     rw[<- efr,jC,jH,ZE,Zy];simp only[List.length_cons,List.length_nil];cbv
    show Ah (λj O H'=>∃ M' bs fs v4 v5,O=[some (.str t),some (.ref g),some (.str (cn wd)),some (.str (cn (bY wd))),v4,v5]/\qU K M H p (((lX t).map cn).map V.str) g M' H' bs (wF fs)/\vp fs/\bS (n - j) fs=bS n ((f0++[.w (cn (bY wd))])::r0)/\ET (wF fs)<=1+2 * (i+1)) #[M',_,_,v4,v5,U,I1,hfe1,U,hm1] ?_ ?_
    .rintro j O H' hjn ⟨M',bs,fs,v4,v5,rfl,I,hfe,hcl,hms⟩;obtain⟨m,hm⟩:∃ m,n - j=m+1:=#[n - j - 1,by cbv];rw[hm] at hcl;have hno:bS (m+1) fs=none->RX aN [("row",.int 0)]:=λh=>by
      rw[<- hcl,h] at hrun;rw[rJ hrun.symm] at q;exact q
     have hlen:bs.length=fs.length:=by
      rw[I.ll.len];simp[wF]
     show#[_,U,g,_,U,.inl (dM.of I.out),_,_,U,U,M',[.bl _],(λ_=>1 < fs.length),RX,ml I.B,av.one (d:=.bl _) U,#[_,U,λhe=>?_,λhe=>?_],λd h1 M1 H1 v B1 _=>?_,XT.up hX I.B]
     .have he:(1:Int) < (((bs.map V.ref).length:Nat):Int):=of_decide_eq_true he;rw[Zy] at he;cbv
     .have he:¬ (1:Int) < (((bs.map V.ref).length:Nat):Int):=of_decide_eq_false he;rw[Zy] at he;show hno ?_
      match fs,hfe,hlen with
      | [],hfe,_=>exact hfe.g.elim
      | [a],_,_ =>
       cases a with
       | nil=>rfl
       | cons e es=>cases e<;>rfl
      | _::_::_,_,hlen=>simp at hlen;cbv
     .match fs,hfe,h1,I,hms,hcl,hno with
      | f1::prev::rest,hfe,_,I,hms,hcl,hno =>
      let((x,es,rfl),hfe2):=hfe.two;rw[fS] at I hms;have I1:=I.call B1;let(cs,b1,us,rfl,hb1,ru,l4):=LL.last I1.ll;have hdrop:((cs++[b1]).map V.ref).dropLast=cs.map V.ref:=by rw[ZO];exact abI
      show#[_,U,.inl #[U,_,dM.of I1.out],g,_,.ref b1,U,U,I1.out,by rw[List.map_append];simp,?_];rw[hdrop];let(I2,rb):=I1.pop hb1 ru l4;rw[fS] at I2 hms;let(cs,b2,us2,rfl,hb2,ru2,l42):=LL.last I2.ll;simp only[jC,jH,List.length_append,List.length_cons,List.length_nil,List.length_map] at hms;have hgE:∀ e∈es,Bk e:=λe he=>hfe.g.all e (Zw _ he);show#[_,U,g,_,-1,.ref b2,U,U,dM.of I2.out,by rw[ZO];exact iZ _ _,.inl #[U,_,dM.of hb2],_,U,_,[_],(λd=>∃ tm,gF x es=some tm/\d=toD tm),RX,ml I2.B,av.one rb,#[x,es,U,#[by cbv,λe he=>hfe.p _ Zx e (Zw _ he)],df (λtm ht=>#[tm,ht,U]) λhbr=>hno ?_],λd hd M3 H3 v B3 rv=>?_,XT.up hX I2.B]
      .rw[bS,hbr]
      .let(tm,ht,rfl):=hd;have I3:=I2.call B3;let(cs3,b3,us3,e3,hb3,ru3,l43):=LL.last I3.ll;let(rfl,e4):=List.append_inj' e3 U;cases e4;have hl3:us3.length=prev.length:=ru3.length.trans (Zy _);rw[bS,ht] at hcl;let(hb1',hb2'):=MZ ht hgE;have efr:wF rest++[prev.map dD++[toD tm]]=wF ((prev++[.k tm])::rest):=by
        rw[fS,ZO]
        rfl
       show#[b2,us3,v,U,U,hb3,by cbv,M3,_,(prev++[.k tm])::rest,_,_,U,efr▸I3.add hb3 ru3 l43 rv,hfe2.push hb1' hb2',?_,?_]
       .rw[show n - (j+1)=m by cbv];exact hcl
       .rw[<- efr];simp only[jC,jH,List.length_append,List.length_cons,List.length_nil,List.length_map];cbv
    .rintro O H' ⟨M',bs,fs,v4,v5,rfl,I,hfe,hcl,hms⟩;rw[Nat.sub_self] at hcl;rw[<- hcl] at hrun;exact#[M',bs,fs,_,_,v4,v5,U,I,hfe,hrun,hms]
  .rintro O H' ⟨M',bs,fs,v2,v3,v4,v5,rfl,I,hfe,hrun,hms⟩;rw[Zy,Zy,aa3,dQ] at hrun;have hlen:bs.length=fs.length:=by
    rw[I.ll.len];simp[wF]
   show#[_,U,g,_,U,.inl (dM.of I.out),U,M',[.bl _],(λ_=>fs.length=1),RX,ml I.B,av.one (d:=.bl _) U,#[_,U,λhe=>?_,λhe=>?_],λd h1 M1 H1 v B1 _=>?_,XT.up hX I.B]
   .have he:=kz (m:=(bs.map V.ref).length) (n:=1) he;rw[Zy] at he;cbv
   .have he:(bs.map V.ref).length≠1:=λz=>by
     have:=j9 (m:=(bs.map V.ref).length) (n:=1) he;exact this z
    rw[Zy] at he
    match fs,hfe,hlen,hrun with
    | [],hfe,_,_=>exact hfe.g.elim
    | [a],_,hlen,_=>exact absurd hlen he
    | _::_::_,_,_,hrun =>
     rw[JJ hrun.symm] at q;exact q
   .match fs,h1,hfe,hrun,I with
    | [f1],_,hfe,hrun,I =>
    rw[JX hrun.symm] at q;have I1:=I.call B1;let(cs,b1,us,rfl,hb1,ru,l4):=LL.last (b0:=[]) (cur:=f1.map dD) I1.ll;cases cs with
    | cons c cs=>exact l4.elim
    | nil =>
     show#[_,U,g,_,0,.ref b1,U,U,dM.of I1.out,U,?_];have hbn:=I1.new b1 (by simp);exact kk _ q (λc=>M1 c\/c=b1) H1 (.ref b1) #[trivial,I1.B.fr,λc m=>by
      rcases m with m | rfl
      .exact I1.B.md c m
      .exact#[_,hb1],λ_ _ h=>h,λc m=>.inl (I1.B.m0 c m),λc m=>by
      rcases m with m | rfl
      .exact I1.B.mn c m
      .exact .inr (.inl hbn.1)] #[b1,us,U,#[.inr U,hb1],av.mono (λ_ m=>.inl m) (λ_ _ _ e=>e) _ _ ru]
theorem si:∀ {n:Nat} {fs jN:!(!El)},bS n fs=some jN->vp fs->vp jN
 | 0,fs,jN,h,g=>by cases h;exact g
 | n+1,[],jN,h,g=>g.g.elim
 | n+1,[f],jN,h,g=>by
  unfold bS at h;cases f with
  | nil=>cases h
  | cons e es=>cases e<;>cases h
 | n+1,f::prev::rest,jN,h,g=>by
  let((x,es,rfl),g2):=g.two;rw[bS] at h;split at h
  .rename_i t ht
   let(h1,h2):=MZ ht λe he=>g.g.all e (Zw _ he);exact si h (g2.push h1 h2)
  .cases h
theorem zD{z:Str}(hz:z.length<=20000)(hs:Gc.strOk z=true):∀ {ws:!(!Nat)} {fs jN:!(!El)},(∀ x∈ws,x∈lX z)->dQ ws fs=some jN->vp fs->vp jN
 | [],fs,jN,_,h,g=>by cases h;exact g
 | x::ws,fs,jN,hw,h,g=>by
  rw[dQ] at h;split at h
  .rename_i f1 h1
   show zD hz hs (λy hy=>hw y (Zw _ hy)) h ?_;have hx:=hw x Zx;unfold DL.stepI at h1;cases fs with
   | nil=>exact g.g.elim
   | cons f r =>
    split at h1
    .cases h1;exact g.Vw (zX hz hs hx (λc hc=>List.mem_of_mem_tail hc) (by rw[abC];cbv))
    .exact si h1 (g.push trivial (zX hz hs hx (λc hc=>wB hc) (vk x)))
  .cases h
theorem To{z:Str}(hz:z.length<=20000)(hs:Gc.strOk z=true){f:!El}(h:EI z=some f):∀ e∈f,Bq e:=by
 unfold EI at h;split at h
 .rename_i g hg
  cases h;exact (zD hz hs (λ_ h=>h) hg #[(λ_ h=>nomatch h),λf hf e he=>by rw[ZI.mp hf] at he;exact nomatch he]).p f Zx
 .cases h
theorem P6{z:Str}:Az (lX z)=(match EI z with
  | some [e]=>bo e
  | _=>none):=by
 unfold Az EI;cases hr:dQ (lX z) [[]] with
 | none=>rfl
 | some fs =>
  match fs with
  | []=>rfl
  | [f] =>
   match f with
   | []=>rfl
   | [e]=>rfl
   | _::_::_=>rfl
  | f::_::_ =>
   match f with
   | []=>rfl
   | [_]=>rfl
   | _::_::_=>rfl
def U7(aN:AC):!D->(D->Prop)->XD->Prop:=λds R RX=>∃ z:Str,ds=[.str z]/\(z.length<=20000/\Gc.strOk z=true)/\AG aN R RX ((Az (lX z)).map toD)
theorem Qi{aN:AC}(Y3:C4 P w K mg base (cA P w) ip 10 (cE K (Vq aN)))(nY:C4 P w K mg base (cA P w) dO 3 (cE K (zk aN)))(GD:C4 P w K mg base (cA P w) eu 5 (cE K (Me aN)))(F:Own K mg ft)(T:Txt K mg):C4 P w K mg base (cA P w) ft 11 (cE K (U7 aN)):=by
 show F.x (nos:=0) k9 (λds R RX h=>?_) λf bp A outer s H E M RX hr hX=>#[_,(af (sS 1 k9.nd (bh (λ_ h=>aA h) hX hr Y3 (aa (vd 0) ae)))
 (af (cF (λ_ h=>aA h) hX hr nY (aa (dH bu cY (jS T.len (aa (vd 1) ae)) ao (ay _)) ae))
 (ak (aF (bh (λ_ h=>aA h) hX hr GD (aa (j0 (vd 1) ao) ae)))))),λds R h=>?_]
 .let(z,rfl,_):=h
  rfl
 .let(z,rfl,(hz,hs),q):=h;rw[P6] at q;show#[_,U,z,U,#[hz,hs],df (λf hf=>?_) λhf=>?_]
  .have hp:=To hz hs hf;rw[hf] at q;show#[_,U,_,.inl U,#[U,U,U],_,U,λy=>?_,λy=>?_]
   .have y:=kz (m:=(f.map dD).length) (n:=1) y;rw[Zy] at y
    match f,y,q,hp with
    | [e],_,q,hp=>exact#[_,U,_,_,_,U,U,U,e,U,(hp e Zx).1,q]
   .have y:f.length≠1:=λy'=>j9 (m:=(f.map dD).length) (n:=1) y (by rw[Zy];exact y')
    match f,y,q with
    | [],_,q=>exact q
    | [_],y,_=>exact absurd U y
    | _::_::_,_,q=>exact q
  .rw[hf] at q;exact q
def WL:abM:=λds R=>∃ ks:!Tm,ds=[.tup (ks.map toD)]/\ks.length<=20000/\R (.lst ((bE ks).map Dj))
theorem oF(ks:!Tm):(bE ks).length=2 * ks.length:=by
 induction ks with
 | nil=>rfl
 | cons k ks ih =>
  change ([Pc.s " ",.t k]++bE ks).length=_;rw[ZE,ih];change 2+_=2 * (ks.length+1);cbv
theorem CV(ks:!Tm)(k:Tm):bE (ks++[k])=bE ks++[.s " ",.t k]:=by
 unfold bE;rw[Z0]
 rfl
theorem OU(F:Own K mg cT)(T:Txt K mg):ab1 P w K mg base cT 1 WL:=by
 show F.c λf fd F=>?_;show R6 (nos:=1) F d7 (λds R h=>?_) λbp A outer s H E M hr=>#[_,(af (sN 0 1 d7.nd (aL ae))
 (af (sF (nJ (vd 0)) (gN 2 d7.nd)
 (af (EO 1 (aa ah ae))
 (ak (EO 1 (aa (vd 2) ae)))))
 (ak (Ez (pv 1))))),λds R h=>?_]
 .let(ks,rfl,_):=h
  rfl
 .let(ks,rfl,hl,q):=h;have hsz:=aK;show#[#[U,U],?_];show#[_,U,_,.inr U,?_];show lV (λxs s=>∃ (dn td:!Tm) (x2:Sl),x2.pl=true/\ks=dn++td/\xs=td.map toD/\s=#[[.dat (.tup (ks.map toD)),.own 0,x2],[some (.lst ((bE dn).map Dj))]]) ?_ ?_ _ _ #[[],ks,.no,U,U,U,U]
  .rintro s ⟨dn,td,x2,hp,e,hx,rfl⟩;have htd:td=[]:=by
    cases td with
    | nil=>rfl
    | cons a b=>cases hx
   rw[htd,ZM] at e;subst e;exact#[0,_,U,U,q]
  .rintro x xs s N ⟨dn,td,x2,hp,e,hx,rfl⟩ hN hE_;cases td with
   | nil=>cases hx
   | cons p td =>
   injection hx with e1 e2;subst e1 e2;have hle:=congrArg List.length e;rw[ZE,ZJ] at hle;have dI:=oF dn;show#[0,_,U,U,U,_,U,_,_,U,U,by rw[Zy];cbv,?_];show#[0,_,U,U,U,_,U,_,U,_,_,U,U,by rw[ZE,Zy];change _+1 < _;cbv,?_];show hN _ #[dn++[p],td,.dat (toD p),U,by rw[e];simp,U,?_];rw[CV,ZO,Z4]
   rfl
def Wn:abM:=λds R=>∃ (hs:!(Str×!Str)) (ks:!Tm),ds=[.tup (cW hs (ks.map toD))]/\(hs.length<=20000/\∀ h∈hs,(mm h).length<=20000)/\ks.length=hs.length/\R (.lst ((aU hs ks).map Dj))
theorem ko{x:Str}(h:Nm x):x.length<=8:=h.2.2.1
theorem vb:∀ (hs:!(Str×!Str)) (ks:!Tm) (h:Str×!Str) (k:Tm),hs.length=ks.length->aU (hs++[h]) (ks++[k])=aU hs ks++[.s (mm h),.t k]
 | [],[],h,k,_=>rfl
 | [],_::_,h,k,e=>by simp at e
 | _::_,[],h,k,e=>by simp at e
 | a::hs,t::ts,h,k,e=>by
  rw[List.cons_append,List.cons_append,aU,vb hs ts h k (by simpa using e)]
  rfl
theorem yF:∀ (hs:!(Str×!Str)) (ks:!Tm),(aU hs ks).length<=2 * hs.length
 | [],_=>by simp[aU]
 | _::_,[]=>by simp[aU]
 | _::hs,_::ks=>by
  have:=yF hs ks;rw[aU];simp only[List.length_cons];cbv
theorem Ds{h:Str×!Str}(hr:(mm h).length<=20000):((h.1::h.2).map (·.length)).sum+(h.1::h.2).length * (" ":Str).length<=20000/\(Txt.join " " (h.1::h.2)).length<=20000/\h.2.length<=20000:=by
 have e:(" ":Str).length=1:=rfl;rw[<- aG,uA,ba] at hr;simp only[List.length_cons,List.length_append,List.length_nil,va,List.length_map,List.map_map] at hr;have e2:(h.2.map (List.length∘cd)).sum=(h.2.map (·.length)).sum:=by
  exact congrArg List.sum (aa8 λx _=>aG x)
 rw[e2,aG] at hr;have h1:((h.1::h.2).map (·.length)).sum+(h.1::h.2).length * (" ":Str).length<=20000:=by
  rw[e];simp only[List.map_cons,List.sum_cons,List.length_cons];cbv
 show#[h1,?_,by cbv];change (GT.Str.glued " " (h.1::h.2)).length<=20000;rw[StrLaws.glued_eq_join];exact ZH (StrLaws.join_length_le _ _) h1
theorem pM:∀ {hs:!(Str×!Str)} {ks:!Tm},ks.length=hs.length->(aU hs ks).length=2 * hs.length
 | [],[],_=>rfl
 | _::hs,_::ks,h=>by
  rw[aU,ZJ,ZJ,ZJ,pM (Nat.succ.inj h)];cbv
theorem sT:∀ {hs:!(Str×!Str)} {ks:!Tm},ks.length=hs.length->∀ h∈hs,Pc.s (mm h)∈aU hs ks
 | a::hs,_::ks,e,h,m=>by
  rw[aU];rcases ZD.mp m with rfl | m
  .exact Zx
  .exact Zw _ (Zw _ (sT (Nat.succ.inj e) h m))
theorem Pp(F:Own K mg dC)(T:Txt K mg):ab1 P w K mg base dC 1 Wn:=by
 show F.c λf fd F=>?_;show R6 (nos:=1) F cb (λds R h=>?_) λbp A outer s H E M hr=>#[_,(af (sN 0 1 cb.nd (aL ae))
 (af (sF (nJ (vd 0)) (nk (m:=3) U (c7 (gN 2 cb.nd) (c7 (gN 3 cb.nd) (c7 (gN 4 cb.nd) ni))))
 (af (EO 1 (aa (bR aJ cB (bR aJ cB ah (qB ah (aa (DN.de (bJ aX a9 (DN.de (aL (aa (vd 2) ae))) (DN.de (vF uf Cu U T.list (-()) (aa (vd 3) ae))))) ae))) ah) ae))
 (ak (EO 1 (aa (vd 4) ae)))))
 (ak (Ez (pv 1))))),λds R h=>?_]
 .let(hs,ks,rfl,_):=h
  rfl
 .let(hs,ks,rfl,(hl3,hh),hl,q):=h;have hsz:=aK;show#[#[U,U],?_];show#[_,U,_,.inr U,?_];show lV (λxs s=>∃ (dh th:!(Str×!Str)) (dk tk:!Tm) (x2 x3 x4:Sl),(x2.pl=true/\x3.pl=true/\x4.pl=true)/\hs=dh++th/\ks=dk++tk/\dh.length=dk.length/\xs=cW th (tk.map toD)/\s=#[[.dat (.tup (cW hs (ks.map toD))),.own 0,x2,x3,x4],[some (.lst ((aU dh dk).map Dj))]]) ?_ ?_ _ _ #[[],hs,[],ks,.no,.no,.no,#[U,U,U],U,U,U,U,U]
  .rintro s ⟨dh,th,dk,tk,x2,x3,x4,hp,e1,e2,hd,hx,rfl⟩;have hll:th.length=tk.length:=by
    have a:=congrArg List.length e1;have b:=congrArg List.length e2;rw[ZE] at a b;cbv
   have hth:th=[]/\tk=[]:=by
    cases th with
    | nil=>exact#[U,Z6 hll.symm]
    | cons a th =>
     cases tk with
     | nil=>cases hll
     | cons b tk=>cases hx
   rw[hth.1,ZM] at e1;rw[hth.2,ZM] at e2;subst e1 e2;exact#[0,_,U,U,q]
  .rintro x xs s N ⟨dh,th,dk,tk,x2,x3,x4,hp,e1,e2,hd,hx,rfl⟩ hN hE_;have hll:th.length=tk.length:=by
    have a:=congrArg List.length e1;have b:=congrArg List.length e2;rw[ZE] at a b;cbv
   cases th with
   | nil=>cases hx
   | cons h th =>
   cases tk with
   | nil=>cases hll
   | cons k tk =>
   injection hx with z1 z2;subst z1 z2;have hh1:=hh h (by rw[e1];simp);have a:=congrArg List.length e1;rw[ZE,ZJ] at a;have dI:=yF dh dk;let(j1,j2,j3):=Ds hh1;show#[_,U,U,_,_,U,_,_,U,_,_,U,U,?_];show#[0,_,U,U,U,?_];show#[_,U,_,U,_,U,_,.inr U,_,_,U,U,?_,h.1::h.2,U,ZH j1 (by cbv),?_]
   .show 1+(h.2.map D.str).length<=_;rw[Zy];cbv
   show#[_,_,U,U,?_,_,_,U,U,?_,?_]
   .show 3+_<=_;cbv
   .rw[Str.length_append];change 3+_+3<=_;cbv
   show#[_,U,_,_,U,U,by rw[Zy];cbv,?_];show#[0,_,U,U,U,_,U,_,U,_,_,U,U,by rw[ZE,Zy];change _+1 < _;cbv,?_];show hN _ #[dh++[h],th,dk++[k],tk,.dat (.str h.1),.dat (.tup (rA h.2)),.dat (toD k),#[U,U,U],by rw[e1];simp,by rw[e2];simp,by simp[hd],U,?_];rw[vb dh dk h k hd,ZO,Z4]
   rfl
def VQ:abM:=λds R=>∃ (f:Fm) (ks:!Tm),ds=[toD (.node f ks)]/\(wC f ks.length/\(pieces f ks).length<=20000/\∀ p∈pieces f ks,(qJ p).length<=20000)/\R (.lst ((pieces f ks).map Dj))
theorem VE{α:Type}{l:!α}(h:l.length=0):l=[]:=Z6 h
theorem z7{x:Str}(h:qQ x):x.length<=8:=by
 rcases h with h | rfl
 .exact ko h
 .decide
theorem Pb(OW:ab1 P w K mg base cT 1 WL)(Wm:ab1 P w K mg base dC 1 Wn)(F:Own K mg gc)(T:Txt K mg):ab1 P w K mg base gc 2 VQ:=by
 show F.c λf fd F=>?_;show R6 (nos:=0) F lu (λds R h=>?_) λbp A outer s H E M hr=>#[_,(af (sS 1 lu.nd (xa (vd 0) ao))
 (af (cD (aH bu cY (vd 1) ah (ay _))
 (ak (iy (aL (aa (xa (vd 0) ao) ae))))
 aP)
 (af (cD (aH bu cY (vd 1) ah (ay _))
 (ak (iy (aL (aa (fU A8 Ku U T.str (-()) (aa (xa (vd 0) ao) ae)) ae))))
 aP)
 (af (cD (aH bu cY (vd 1) ah (ay _))
 (ak (iy (bJ aX a9 (DN.de (bJ aX a9 (DN.de (aL (aa (bR aJ cB ah (xa (vd 0) ao)) ae))) (DN.de (fw hr OW (aa (qz (vd 0) (bb ao) bw) ae))))) (DN.de (aL (aa ah ae))))))
 aP)
 (af (cD (aH bu cY (vd 1) ah (ay _))
 (ak (iy (bJ aX a9 (DN.de (bJ aX a9 (DN.de (aL (aa ah ae))) (DN.de (fw hr OW (aa (qz (vd 0) (bb ao) bw) ae))))) (DN.de (aL (aa ah ae))))))
 aP)
 (af (cD (aH bu cY (vd 1) ah (ay _))
 (ak (iy (bJ aX a9 (DN.de (bJ aX a9 (DN.de (aL (aa (bR aJ cB ah (xa (vd 0) ao)) ae))) (DN.de (fw hr OW (aa (qz (vd 0) (bb ao) bw) ae))))) (DN.de (aL (aa ah ae))))))
 aP)
 (af (cD (aH bu cY (vd 1) ah (ay _))
 (ak (iy (bJ aX a9 (DN.de (bJ aX a9 (DN.de (aL (aa (bR aJ cB ah (xa (vd 0) ao)) ae))) (DN.de (fw hr OW (aa (xa (vd 0) ao) ae))))) (DN.de (aL (aa ah ae))))))
 aP)
 (af (cD (aH bu cY (vd 1) ah (ay _))
 (ak (iy (bJ aX a9 (DN.de (bJ aX a9 (DN.de (aL (aa ah (aa (xa (vd 0) ao) (aa (bR aJ cB ah (xa (vd 0) ao)) ae))))) (DN.de (fw hr OW (aa (xa (vd 0) ao) ae))))) (DN.de (aL (aa ah ae))))))
 aP)
 (af (cD (aH bu cY (vd 1) ah (ay _))
 (ak (iy (bJ aX a9 (DN.de (bJ aX a9 (DN.de (aL (aa ah (aa (xa (vd 0) ao) (aa (bR aJ cB ah (xa (vd 0) ao)) ae))))) (DN.de (fw hr Wm (aa (xa (vd 0) ao) ae))))) (DN.de (aL (aa ah ae))))))
 aP)
 (ak (iy (bJ aX a9 (DN.de (bJ aX a9 (DN.de (aL (aa (bR aJ cB ah (xa (vd 0) ao)) ae))) (DN.de (fw hr Wm (aa (xa (vd 0) ao) ae))))) (DN.de (aL (aa ah ae))))))))))))))),λds R h=>?_]
 .let(f,ks,rfl,_):=h
  rfl
 .let(f,ks,rfl,(aD,hB1,hB2),q):=h;have hsz:=aK;rw[fm];have tl:=λks:!Tm=>oF ks;show#[_,U,?_];cases f with
  | nm x =>
   cases VE aD.2;show#[_,_,_,U,U,U,?_];show#[_,U,#[U,U,U],_,U,?_];show mD (-()) ?_;exact#[_,U,_,_,_,U,U,U,q]
  | num i =>
   cases VE aD.2;show#[_,_,_,U,U,U,?_];show#[_,U,#[U,U,U],_,U,?_];show eP (-()) ?_;show#[_,U,#[U,U,U],_,U,?_];show mD (-()) ?_;exact#[_,U,_,_,_,U,U,U,.inl #[_,U,Ks aD.1.1 aD.1.2,q]]
  | op s =>
   let(a,b,rfl):=ln2 aD.2;show#[_,_,_,U,U,U,?_];show#[_,U,#[U,U,U],_,U,?_];show eP (-()) ?_;show#[_,U,#[U,U,U],_,U,?_];show eP (-()) ?_;show#[_,U,#[U,U,U],_,U,?_];show mD (-()) ?_;show#[_,U,_,_,_,U,U,U,_,_,U,U,?_,?_]
   .have:s.length=1:=by rcases aD.1 with rfl | rfl | rfl<;>rfl
    change 1+s.length<=_;cbv
   exact#[_,U,_,U,_,U,[a,b],U,by change 2<=20000;decide,_,_,U,U,by change 1+4<=_;cbv,_,_,U,U,by change 1+4+1<=_;cbv,q]
  | jK =>
   let(a,b,c,rfl):=QF aD;show#[_,_,_,U,U,U,?_];show#[_,U,#[U,U,U],_,U,?_];show eP (-()) ?_;show#[_,U,#[U,U,U],_,U,?_];show eP (-()) ?_;show#[_,U,#[U,U,U],_,U,?_];show eP (-()) ?_;show#[_,U,#[U,U,U],_,U,?_];show mD (-()) ?_;exact#[_,U,_,U,_,U,[a,b,c],U,by change 3<=20000;decide,_,_,U,U,by change 1+6<=_;cbv,_,_,U,U,by change 1+6+1<=_;cbv,q]
  | lt x =>
   let(a,b,rfl):=ln2 aD.2;have hx:=ko aD.1;show#[_,_,_,U,U,U,?_];show#[_,U,#[U,U,U],_,U,?_];show eP (-()) ?_;show#[_,U,#[U,U,U],_,U,?_];show eP (-()) ?_;show#[_,U,#[U,U,U],_,U,?_];show eP (-()) ?_;show#[_,U,#[U,U,U],_,U,?_];show eP (-()) ?_;show#[_,U,#[U,U,U],_,U,?_];show mD (-()) ?_;show#[_,U,_,_,_,U,U,U,_,_,U,U,?_,?_]
   .show 5+x.length<=_;cbv
   exact#[_,U,_,U,_,U,[a,b],U,by change 2<=20000;decide,_,_,U,U,by change 1+4<=_;cbv,_,_,U,U,by change 1+4+1<=_;cbv,q]
  | mk x =>
   have hx:=ko aD;have hp:=oF ks;have hk:ks.length<=20000:=by
    rw[pieces] at hB1;simp only[List.length_append,List.length_cons,List.length_nil] at hB1;cbv
   show#[_,_,_,U,U,U,?_];show#[_,U,#[U,U,U],_,U,?_];show eP (-()) ?_;show#[_,U,#[U,U,U],_,U,?_];show eP (-()) ?_;show#[_,U,#[U,U,U],_,U,?_];show eP (-()) ?_;show#[_,U,#[U,U,U],_,U,?_];show eP (-()) ?_;show#[_,U,#[U,U,U],_,U,?_];show eP (-()) ?_;show#[_,U,#[U,U,U],_,U,?_];show mD (-()) ?_;show#[_,U,_,_,_,U,U,U,_,_,U,U,?_,?_]
   .show 6+x.length<=_;cbv
   show#[_,U,_,_,_,U,U,U,ks,U,by cbv,_,_,U,U,?_,_,_,U,U,?_,?_]
   .rw[Zy];change 1+_<=_;cbv
   .rw[ZE,Zy];change 1+_+1<=_;cbv
   .rw[pieces,ZO,ZO] at q;exact q
  | ask x =>
   let(a,r,rfl):=Iw aD.2;have hx:=ko aD.1;have hp:=oF r;have hk:r.length<=20000:=by
    rw[pieces,aac] at hB1;simp only[List.length_append,List.length_cons,List.length_nil] at hB1;cbv
   show#[_,_,_,U,U,U,?_];show#[_,U,#[U,U,U],_,U,?_];show eP (-()) ?_;show#[_,U,#[U,U,U],_,U,?_];show eP (-()) ?_;show#[_,U,#[U,U,U],_,U,?_];show eP (-()) ?_;show#[_,U,#[U,U,U],_,U,?_];show eP (-()) ?_;show#[_,U,#[U,U,U],_,U,?_];show eP (-()) ?_;show#[_,U,#[U,U,U],_,U,?_];show eP (-()) ?_;show#[_,U,#[U,U,U],_,U,?_];show mD (-()) ?_;show#[_,U,_,_,_,U,U,U,_,U,_,_,_,U,U,U,_,_,U,U,?_,?_]
   .show 1+x.length<=_;cbv
   show#[_,U,_,_,_,U,U,U,r,U,by cbv,_,_,U,U,?_,_,_,U,U,?_,?_]
   .rw[Zy];change 3+_<=_;cbv
   .rw[ZE,Zy];change 3+_+1<=_;cbv
   .rw[pieces,ZO,ZO] at q;exact q
  | jb rr hs =>
   let(hr1,hh,hk):=aD;let(a,r,rfl):=Iw (l:=ks) (by cbv);have hx:=z7 hr1;have hk:r.length=hs.length:=Nat.succ.inj hk;have hp:=pM hk;have h3:hs.length<=20000:=by
    rw[pieces,aac] at hB1;simp only[List.length_append,List.length_cons,List.length_nil] at hB1;cbv
   have hh:hs.length<=20000/\∀ h∈hs,(mm h).length<=20000:=#[h3,λh hm=>by
    have:=hB2 (.s (mm h)) (by rw[pieces,aac];exact Z2 _ (ZQ _ (sT hk h hm)));rw[qJ,aG] at this;exact this]
   show#[_,_,_,U,U,U,?_];show#[_,U,#[U,U,U],_,U,?_];show eP (-()) ?_;show#[_,U,#[U,U,U],_,U,?_];show eP (-()) ?_;show#[_,U,#[U,U,U],_,U,?_];show eP (-()) ?_;show#[_,U,#[U,U,U],_,U,?_];show eP (-()) ?_;show#[_,U,#[U,U,U],_,U,?_];show eP (-()) ?_;show#[_,U,#[U,U,U],_,U,?_];show eP (-()) ?_;show#[_,U,#[U,U,U],_,U,?_];show eP (-()) ?_;show#[_,U,#[U,U,U],_,U,?_];show mD (-()) ?_;show#[_,U,_,_,_,U,U,U,_,U,_,_,_,U,U,U,_,_,U,U,?_,?_]
   .show 4+rr.length<=_;cbv
   show#[_,U,_,_,_,U,U,U,hs,r,U,hh,hk,_,_,U,U,?_,_,_,U,U,?_,?_]
   .rw[Zy];change 3+_<=_;cbv
   .rw[ZE,Zy];change 3+_+1<=_;cbv
   .rw[pieces,ZO,ZO] at q;exact q
  | new k hs =>
   let(hr1,hh,hk):=aD;have hx:=z7 hr1;have hp:=pM hk;have h3:hs.length<=20000:=by
    rw[pieces] at hB1;simp only[List.length_append,List.length_cons,List.length_nil] at hB1;cbv
   have hh:hs.length<=20000/\∀ h∈hs,(mm h).length<=20000:=#[h3,λh hm=>by
    have:=hB2 (.s (mm h)) (by rw[pieces];exact Z2 _ (ZQ _ (sT hk h hm)));rw[qJ,aG] at this;exact this]
   show#[_,_,_,U,U,U,?_];show#[_,U,#[U,U,U],_,U,?_];show eP (-()) ?_;show#[_,U,#[U,U,U],_,U,?_];show eP (-()) ?_;show#[_,U,#[U,U,U],_,U,?_];show eP (-()) ?_;show#[_,U,#[U,U,U],_,U,?_];show eP (-()) ?_;show#[_,U,#[U,U,U],_,U,?_];show eP (-()) ?_;show#[_,U,#[U,U,U],_,U,?_];show eP (-()) ?_;show#[_,U,#[U,U,U],_,U,?_];show eP (-()) ?_;show#[_,U,#[U,U,U],_,U,?_];show eP (-()) ?_;show#[_,U,_,_,_,U,U,U,_,_,U,U,?_,?_]
   .show 5+k.length<=_;cbv
   show#[_,U,_,_,_,U,U,U,hs,ks,U,hh,hk,_,_,U,U,?_,_,_,U,U,?_,?_]
   .rw[Zy];change 1+_<=_;cbv
   .rw[ZE,Zy];change 1+_+1<=_;cbv
   .rw[pieces,ZO,ZO] at q;exact q
def Vt:abM:=λds R=>∃ t:Tm,ds=[toD t]/\(t.gg/\t.T.length<=20000)/\R (.str (cn t.T))
theorem GG(p:Pc):1<=yQ p:=by
 cases p with
 | s x=>exact ZC _
 | t u =>
  have:=eG u;change 1<=4 * u.size - 1;cbv
theorem BJ:∀ l:!Str,(l.map (·.length)).sum=(l.flatMap cd).length
 | []=>rfl
 | a::l=>by
  rw[ZG,aaL,BJ l,ZA,ZE,aG]
theorem HW:∀ {l:!Str},(∀ x∈l,1<=x.length)->l.length<=(l.flatMap cd).length
 | [],_=>ZC _
 | p::l,h=>by
  have h1:=HW λp hp=>h p (Zw _ hp);have h2:=h p Zx;rw[ZA,ZE,ZJ,aG];cbv
theorem Nl(XI:ab1 P w K mg base gc 2 VQ)(F:Own K mg gf)(T:Txt K mg):ab0 P w K mg base gf 3 Vt:=by
 show F.d (nos:=2) fJ (λds R h=>?_) λf bp A outer s H E M hr=>#[_,(af (sN 0 1 fJ.nd (aL ae))
 (af (sN 1 2 fJ.nd (aL (aa (vd 0) ae)))
 (af (tY PassesOwn.never (GS (pv 2))
 (af (sS 3 fJ.nd (Mo abb abc wO OR (pv 2)))
 (ak (cD (d5 (a8 bU fX U T.uF PyProof.Rows.boot_isinstance (aa (vd 3) (aa (dc (d:=.ty "str") (cm (v:=.ty "str") U T.str (-()) U) U) ae))))
 (ak (EO 1 (aa (vd 3) ae)))
 (ak (yk (JE PySem.F.slot_list_extend PySem.F.type_list_extend AA N8 (pv 2) (aa (DN.de (Hw (DN.de (fw hr XI (aa (vd 3) ae))) jB)) ae))))))))
 (ak (aF (qB ah (aa (JU (pv 1)) ae))))))),λds R h=>?_]
 .let(t,rfl,_):=h
  rfl
 .let(t,rfl,(hg,hin),q):=h;have hsz:=aK;show#[#[U,U],?_];show#[_,U,#[U,U],?_];show#[λm s=>∃ (sg:!Str) (st:!Pc) (x3:Sl),x3.pl=true/\m=(st.map yQ).sum/\(∀ x∈sg,1<=x.length)/\sg.flatMap cd++st.flatMap qJ=t.T/\(∀ p∈st,zv p)/\s=#[[.dat (toD t),.own 0,.own 1,x3],[some (.lst (sg.map .str)),some (.lst (st.reverse.map Dj))]],#[_,[],[.t t],.no,U,U,?_,?_,?_,U],?_]
  .exact λ_ h=>nomatch h
  .show []++(t.T++[])=_;simp
  .intro p hp;rw[ZI.mp hp];exact hg
  .rintro m s ⟨sg,st,x3,hx3,rfl,hm,hc,aD,rfl⟩;have hcl:=congrArg List.length hc;rw[ZE] at hcl;have uH:=HW hm;have Hg:=wN aD;show#[1,_,U,U,?_];cases st with
   | nil =>
    show eP U ?_;have hc:sg.flatMap cd=t.T:=by simpa using hc
    show#[_,U,.inr #[_,_,U,U,sg,U,?_,?_]]
    .rw[BJ,hc];change _+sg.length * 0<=_;cbv
    .have e:Txt.join "" sg=cn t.T:=g9 (by rw[Cs,hc]);rw[e];exact q
   | cons p st =>
    have hr1:((p::st).reverse.map Dj)=st.reverse.map Dj++[Dj p]:=by simp
    have hw:=GG p;rw[ZJ] at Hg;show mD (by rw[hr1];simp) ?_;show#[1,_,U,U,U,_,U,st.reverse.map Dj,Dj p,by rw[hr1],U,?_];cases p with
    | s x =>
     show#[_,U,_,_,true,U,U,_,U,?_];show mD U ?_;show#[0,_,U,U,U,_,U,_,U,_,_,U,U,by rw[Zy];cbv,?_];show#[(st.map yQ).sum,by simp[yQ],sg++[x],st,.dat (.str x),U,U,?_,?_,λp hp=>aD p (List.mem_cons_of_mem _ hp),by rw[List.map_append];rfl]
     .intro y hy;rcases ZR.mp hy with hy | hy
      .exact hm y hy
      .rw[ZI.mp hy];exact aD (.s x) Zx
     .rw[<- hc,Z0,Z4];change _=sg.flatMap cd++(cd x++st.flatMap qJ);simp
    | t u =>
     let(f,ks):=u;have hu:(Tm.node f ks).gg:=aD _ Zx;have hpw:=Ar hu.1;have hpo:=yb hu.1 hu.2;have hpT:=Be hu.1;have dI:=wN hpo;rw[ZA,ZE] at hcl Hg;have hcu:(Tm.node f ks).T.length<=20000:=by
      have:(qJ (.t (.node f ks))).length=(Tm.node f ks).T.length:=rfl;cbv
     rw[hpT] at dI;have hpB:(pieces f ks).length<=20000/\∀ p∈pieces f ks,(qJ p).length<=20000:=#[by cbv,λp hp=>by
      have:=Ie hp;rw[hpT] at this;cbv]
     show#[_,U,_,_,false,U,IW _,_,U,?_];show eP U ?_;show#[1,_,U,U,U,_,U,f,ks,U,#[hu.1,hpB],?_];show#[_,U,_,U,_,_,U,U,?_,?_]
     .simp only[List.length_map,List.length_reverse];cbv
     show#[((pieces f ks++st).map yQ).sum,?_,sg,pieces f ks++st,.dat (toD (.node f ks)),U,U,?_,?_,λp hp=>?_,?_]
     .rw[ZO,abn,ZG,aaL];cbv
     .exact hm
     .rw[Z0,hpT,<- hc]
      rfl
     .rcases ZR.mp hp with hp | hp
      .exact hpo p hp
      .exact aD p (Zw _ hp)
     .rw[List.reverse_append,ZO,List.map_reverse (l:=pieces f ks)]
      rfl
def JN(p:Str->Bool):abM:=λds R=>∃ z:Str,ds=[.str z]/\z.length<=100000/\R (.bl (p z))
theorem Cr{z:Str}{p:Nat->Bool}:(((Bo z).map λs=>p (s.cps.toList.headD 0)).all id)=(cd z).all p:=by
 change (((cd z).map λc=>(#[#v[c]]:Str)).map _).all id=_;rw[aal,abv]
 rfl
theorem II{tx:Str}{z:Str}:∀ s∈Bo z,(not ((GT.Str.occurrences tx s 0 tx.length 1).isEmpty))=decide (s.cps.toList.headD 0∈cd tx):=λs hs=>by
 let(c,_,rfl):=Z5.mp hs;exact StrLaws.found_one tx c
theorem VY{c:Nat}:decide (c∈cd "abcdefghijklmnopqrstuvwxyz")=true↔97<=c/\c<=122:=by
 rw[decide_eq_true_iff,show cd "abcdefghijklmnopqrstuvwxyz"=(List.range 26).map (·+97) by decide+kernel,Z5];constructor
 .rintro⟨a,ha,rfl⟩;have:=aa0.mp ha;cbv
 .intro h;exact#[c - 97,aa0.mpr (by cbv),by cbv]
theorem Wo{c:Nat}:decide (c∈cd "0123456789")=true↔48<=c/\c<=57:=by
 rw[decide_eq_true_iff,show cd "0123456789"=(List.range 10).map (·+48) by decide+kernel,Z5];constructor
 .rintro⟨a,ha,rfl⟩;have:=aa0.mp ha;cbv
 .intro h;exact#[c - 48,aa0.mpr (by cbv),by cbv]
def pZ:!Str:=nU++kK
theorem DF{z:Str}:Nm z↔(1<=z.length/\z.length<=8)/\z∉pZ/\(cd z).all (λc=>decide (c∈cd "abcdefghijklmnopqrstuvwxyz"))=true:=by
 rw[ZW];unfold pZ;rw[ZR,not_or];constructor
 .rintro⟨h1,h2,h3,h4,h5⟩;exact#[#[h2,h3],#[h4,h5],λc hc=>VY.mpr (h1 c hc)]
 .rintro⟨⟨h2,h3⟩,⟨h4,h5⟩,h1⟩;exact#[λc hc=>VY.mp (h1 c hc),h2,h3,h4,h5]
theorem OS(F:Own K mg cP)(T:Txt K mg):ab0 P w K mg base cP 1 (JN λz=>decide (Nm z)):=by
 show F.d (nos:=0) i9 (λds R h=>?_) λf bp A outer s H E M hr=>?_
 .let(z,rfl,_):=h
  rfl
 have hb:aq bC=uY (aq bC) 0 (fA ((aq bC).getD 0 fu)):=rfl;have ha:iX (fA ((aq bC).getD 0 fu))=true:=rfl;have hz:mZ (fA ((aq bC).getD 0 fu))=pZ:=rfl;have hl3:(fA ((aq bC).getD 0 fu)).length=pZ.length:=rfl;generalize fA ((aq bC).getD 0 fu)=es at hb ha hz hl3;have hn:(es.length<=1000:Bool)=true:=by rw[hl3];decide
 rw[hb];show#[_,(af (sS 1 i9.nd (DN.de (aL (kH ha hz hl3) hn)))
 (af (cD (DW.dt (iL (aH IF t9 (a8 bx kj U T.len aaf (aa (vd 0) ae)) ao (ay _)) (iL (aH pG t9 (a8 bx kj U T.len aaf (aa (vd 0) ae)) ao (ay _)) (ka (aH jz okIn (vd 0) (vd 1) U)))))
 (ak (aF GH))
 aP)
 (ak (aF (a8 (du U) yI U T.all PyProof.Rows.boot_all (aa (DN.de (nC ["_law_sign"] [] (Il (vd 0)) (λ_ _ _ _=>(gM 0 ["_law_sign"])) (λ_ _ _ _=>i7)
 (λ_ _ _ _=>(dH mq BI (vd 0) ah U)))) ae)))))),λds R h=>?_]
 let(z,rfl,hzl,q):=h;have q:R (.bl (decide (Nm z))):=q;have hsz:=aK;have hzz:z.length<=FB:=by cbv
 right;show#[hzz,?_];right;show aO U (λh1=>?_) λh1=>?_
 .have e:decide (Nm z)=false:=decide_eq_false λh=>by
   have:=of_decide_eq_true h1;have:=h.2.1;cbv
  rw[e] at q;right;exact q
 right;show#[hzz,?_];right;show aO U (λh2=>?_) λh2=>?_
 .have e:decide (Nm z)=false:=decide_eq_false λh=>by
   have:=of_decide_eq_true h2;have:=h.2.2.1;cbv
  rw[e] at q;right;exact q
 have h1':1<=z.length:=by
  have:¬ ((z.length:Int) < 1):=of_decide_eq_false h1;cbv
 have h2':z.length<=8:=by
  have:¬ ((8:Int) < (z.length:Int)):=of_decide_eq_false h2;cbv
 show#[_,U,_,U,_,.inl U,#[U,by rw[abv];exact ZW.mpr λ_ _=>rfl],?_];rw[show (pZ.map D.str).map fv=pZ.map V.str by rw[aal];rfl];show#[_,U,?_];show aO (b':=decide (z∈pZ)) dj (λh3=>?_) λh3=>?_
 .have e:decide (Nm z)=false:=decide_eq_false λh=>(DF.mp h).2.1 (of_decide_eq_true h3);rw[e] at q;right;exact q
 right;show#[hzz,?_];show ik D.str (λs=>D.bl (decide (s.cps.toList.headD 0∈cd "abcdefghijklmnopqrstuvwxyz"))) _ (λs hs k hk=>?_) ?_
 .right;rw[II s hs];exact hk _ U
 rw[aaJ];show#[(Bo z).map λs=>decide (s.cps.toList.headD 0∈cd "abcdefghijklmnopqrstuvwxyz"),by simp only[List.map_map,Function.comp_def],?_];rw[Cr (p:=λc=>decide (c∈cd "abcdefghijklmnopqrstuvwxyz"))];have e:decide (Nm z)=(cd z).all λc=>decide (c∈cd "abcdefghijklmnopqrstuvwxyz"):=by
  rw[aaH,decide_eq_true_iff,DF];exact#[λh=>h.2.2,λh=>#[#[h1',h2'],of_decide_eq_false h3,h]]
 rw[<- e];exact q
theorem qe{z:Str}:isNum z=true↔(1<=z.length/\z.length<=6)/\(z="0"\/z.cps.toList.headD 0≠48)/\(cd z).all (λc=>decide (c∈cd "0123456789"))=true:=by
 rw[ZW];constructor
 .intro h;unfold isNum at h;split at h
  .rename_i hl
   rw[ZX,abl,aar,decide_eq_true_iff,decide_eq_false_iff_not] at h;show#[hl,h.2.imp id λiR e=>iR ?_,λc hc=>Wo.mpr (Ws (lies_of h.1 c hc))];rw[e]
   rfl
  .cases h
 .rintro⟨hl,h2,h1⟩;unfold isNum;rw[if_pos hl,ZX,abl,aar,decide_eq_true_iff,decide_eq_false_iff_not];show#[?_,h2.imp id λiR e=>iR ?_]
  .unfold lies;rw[abv];show ZW.mpr λc hc=>?_;have:=Wo.mp (h1 c hc);change inside "0" "9" c=true;unfold inside;have a1:(not (decide (([c]:!Nat) < [48])))=true:=by rw[aar,decide_eq_false_iff_not,HP];cbv
   have a2:(not (decide (([57]:!Nat) < [c])))=true:=by rw[aar,decide_eq_false_iff_not,HP];cbv
   rw[if_pos (show HU "0" #[#v[c]]=true from a1)];exact a2
  .injection (show (#[#v[z.cps.toList.headD 0]]:Str)=#[#v[48]] from e) with e;simpa using e
theorem Qo(F:Own K mg cM)(T:Txt K mg):ab0 P w K mg base cM 1 (JN isNum):=by
 show F.d (nos:=0) mr (λds R h=>?_) λf bp A outer s H E M hr=>#[_,(af (cD (DW.dt (iL (aH IF t9 (a8 bx kj U T.len aaf (aa (vd 0) ae)) ao (ay _)) (iL (aH pG t9 (a8 bx kj U T.len aaf (aa (vd 0) ae)) ao (ay _)) (ka (DW.dt (mW (aH bu cY (xX qD yS (vd 0) ao (λ_ _=>rfl)) ah (ay _)) (jG (aH pG t9 (a8 bx kj U T.len aaf (aa (vd 0) ae)) ao (ay _)))))))))
 (ak (aF GH))
 aP)
 (ak (aF (a8 (du U) yI U T.all PyProof.Rows.boot_all (aa (DN.de (nC ["_law_sign"] [] (Il (vd 0)) (λ_ _ _ _=>(gM 0 ["_law_sign"])) (λ_ _ _ _=>i7)
 (λ_ _ _ _=>(dH mq BI (vd 0) ah U)))) ae))))),λds R h=>?_]
 .let(z,rfl,_):=h
  rfl
 let(z,rfl,hzl,q):=h;have hsz:=aK;have hzz:z.length<=FB:=by cbv
 have no:¬ ((1<=z.length/\z.length<=6)/\(z="0"\/z.cps.toList.headD 0≠48))->isNum z=false:=λh=>by
  cases e:isNum z with
  | false=>rfl
  | true=>exact absurd #[(qe.mp e).1,(qe.mp e).2.1] h
 right;show#[hzz,?_];right;show aO U (λh1=>?_) λh1=>?_
 .rw[no (by have:=of_decide_eq_true h1;cbv)] at q;right;exact q
 right;show#[hzz,?_];right;show aO U (λh2=>?_) λh2=>?_
 .rw[no (by have:=of_decide_eq_true h2;cbv)] at q;right;exact q
 have h1':1<=z.length:=by
  have:¬ ((z.length:Int) < 1):=of_decide_eq_false h1;cbv
 have h2':z.length<=6:=by
  have:¬ ((6:Int) < (z.length:Int)):=of_decide_eq_false h2;cbv
 obtain⟨c0,l0,e0⟩:∃ c l,cd z=c::l:=Iw (l:=cd z) (by rw[aG];exact h1');have hh0:z.cps.toList.headD 0=c0:=by change (cd z).headD 0=c0;rw[e0];rfl
 show#[_,U,z,0,c0,U,U,hzz,by change kW (cd z) 0=_;rw[e0];exact bB,#[U,U,U],_,U,?_];have h48:decide (fv (D.str #[#v[c0]])=fv (D.str "0"))=decide (c0=48):=by
  by_cases h:c0=48
  .rw[h];rfl
  .rw[decide_eq_false h];exact decide_eq_false λz'=>h (by
    have z':V.str #[#v[c0]]=V.str #[#v[48]]:=z';injection z' with z';injection z' with z';simpa using z')
 by_cases hz0:z="0"\/z.cps.toList.headD 0≠48
 .refine' jn ?hrest λhrest=>?main
  case main =>
   show aO h48 (λh3=>?_) λh3=>hrest;have h3:=of_decide_eq_true h3;have hz1:z="0":=hz0.resolve_right λh=>h (by rw[hh0];exact h3);right;show#[hzz,?_];right;show aO (b':=false) (by rw[hz1];rfl) (λh4=>nomatch h4) λ_=>hrest
  case hrest =>
   show eP U ?_;right;show#[hzz,?_];show ik D.str (λs=>D.bl (decide (s.cps.toList.headD 0∈cd "0123456789"))) _ (λs hs k hk=>?_) ?_
   .right;rw[II s hs];exact hk _ U
   rw[aaJ];show#[(Bo z).map λs=>decide (s.cps.toList.headD 0∈cd "0123456789"),by simp only[List.map_map,Function.comp_def],?_];rw[Cr (p:=λc=>decide (c∈cd "0123456789"))];have e:isNum z=(cd z).all λc=>decide (c∈cd "0123456789"):=by
    rw[aaH,qe];exact#[λh=>h.2.2,λh=>#[#[h1',h2'],hz0,h]]
   rw[<- e];exact q
 .rw[no λh=>hz0 h.2] at q;rw[not_or] at hz0;have h3:c0=48:=by
   have:=hz0.2;rw[hh0] at this;exact Decidable.not_not.mp this
  show aO (b':=true) (h48.trans (decide_eq_true h3)) (λ_=>?_) (λh=>nomatch h);right;show#[hzz,?_];right;have h4:decide ((1:Int) < (z.length:Int))=true:=decide_eq_true (by
   by_cases uH:1 < z.length
   .cbv
   .refine absurd (Bx ?_) hz0.1;have:(cd z).length=z.length:=aG z;rw[e0] at this ⊢;have hl0:l0=[]:=Z6 (by rw[ZJ] at this;cbv);rw[hl0,h3]
    rfl)
  show aO (b':=true) h4 (λ_=>?_) (λh=>nomatch h);right;exact q
theorem Dw{W:!Str}{k:Nat}:kW (cutD (W.map D.str) (some (k:Int)) (some ((k:Int)+1))++[.str ""]) 0=some (.str (seen (W.drop k))):=by
 rw[fY];rw[show ((k:Int)+1)=((k+1:Nat):Int) by cbv,HT.jx,HT.jx];by_cases hk:k < W.length
 .rw[show min k W.length=k by cbv,show min (k+1) W.length=k+1 by cbv,show k+1 - k=1 by cbv,abm hk];exact bB
 .rw[show min k W.length=W.length by cbv,show min (k+1) W.length=W.length by cbv,Nat.sub_self,List.take_zero,aa2,aaJ,aaS (by cbv)];exact bB
def JP(W:!Str):Prop:=W.length<=100000/\∀ x∈W,x.length<=100000
def Mc:abM:=λds R=>∃ (W:!Str) (k:Nat),ds=[.lst (W.map .str),.int k]/\JP W/\R (.str (seen (W.drop k)))
theorem Oy(F:Own K mg c9)(T:Txt K mg):ab0 P w K mg base c9 1 Mc:=by
 show F.d (nos:=0) uL (λds R h=>?_) λf bp A outer s H E M hr=>#[_,(ak (aF (j0 (DN.de (bJ aX a9 (DN.de (bK (vd 0) (bb (vd 1)) (bb (bR bD f9 (vd 1) ao)))) (DN.de (aL (aa ah ae))))) ao))),λds R h=>?_]
 .let(W,k,rfl,_):=h
  rfl
 .let(W,k,rfl,hW,q):=h;have hsz:=aK;have q0:=Dw (W:=W) (k:=k);right;show#[?_,_,_,_,U,U,q0,q];have h1:∀ l,(cutD (W.map D.str) (some (k:Int)) l).length<=W.length:=λl=>by
   rw[fY,Zy,aak,Z3];cbv
  have:=h1 (some ((k:Int)+1));have:=hW.1;change (cutD (W.map D.str) (some (k:Int)) (some ((k:Int)+1))).length+1<=_;cbv
abbrev wH(z:Str):!Str:=Txt.split (cn (dW (cd z))) " "
def VU:abM:=λds R=>∃ z:Str,ds=[.str z]/\z.length<=20000/\R (.lst ((wH z).map .str))
theorem tJ(z:Str):(wH z).length<=2 * z.length+1/\∀ x∈wH z,x.length<=2 * z.length:=by
 have sp:=nv (cn (dW (cd z)));let(h1,h2):=uz ((wH z).map cd);rw[sp.jn] at h1 h2;have h3:=tX (cd z);rw[aG] at h3;rw[Zy] at h1;show#[by change (wH z).length<=_;exact ZH h1 (by change (dW (cd z)).length+1<=_;cbv),λx hx=>?_];have:=h2 (cd x) (aa7 hx);rw[aG] at this;exact ZH this h3
theorem Pg(F:Own K mg gb)(T:Txt K mg):ab0 P w K mg base gb 1 VU:=by
 show F.d (nos:=0) tH (λds R h=>?_) λf bp A outer s H E M hr=>#[_,(ak (aF (DN.de (sR (Ae (-()) (Ae (-()) (vd 0))) (aa ah ae))))),λds R h=>?_]
 .let(z,rfl,_):=h
  rfl
 .let(z,rfl,hz,q):=h;have hsz:=aK;have e1:=ot (c:=40) () z "( ";have e2:=ot (c:=41) () (Txt.replace z "(" "( ") " )";rw[show (Txt.replace z "(" "( ")=Txt.replace z #[#v[40]] "( " from U] at e2;rw[e1] at e2;have e3:Txt.replace (Txt.replace z "(" "( ") ")" " )"=cn (dW (cd z)):=g9 (by
   change cd (Txt.replace (Txt.replace z #[#v[40]] "( ") #[#v[41]] " )")=dW (cd z);rw[e2];exact GK _)
  have l1:(Txt.replace z "(" "( ").length<=2 * z.length:=by
   rw[<- aG];change (cd (Txt.replace z #[#v[40]] "( ")).length<=_;rw[e1,<- aG z];generalize cd z=l
   induction l with
   | nil=>simp
   | cons a l ih =>
    rw[ZA,ZE,ZJ];have:(qa 40 (cd "( ") a).length<=2:=by
     unfold qa;split
     .decide
     .exact (by decide:1<=2)
    cbv
  let(l2,_):=tJ z;have l3:=tX (cd z);rw[aG] at l3;show#[_,U,z,U,by change z.length+(z.length+1) * 2<=_;cbv,_,U,by change _+(_+1) * 2<=_;cbv,_,U,_,U,U,?_,?_,?_]
  .rw[e3,d4];cbv
  .rw[e3];exact ZH l2 (by cbv)
  .rw[e3];exact q
def LV(q:Prop)(n:Nat):abM:=λds R=>q/\∃ (W:!Str) (k:Nat),ds=[.lst (W.map .str),.int k]/\JP W/\(W.drop k).count ("(":Str) < n/\uJ W k 1 toD (aw n (W.drop k)) R
def ltI(c:Str):Nat:=if c="*"\/c="|" then 0 else 1
def QZ(p:Str->Prop)(n:Nat):abM:=λds R=>∃ (W:!Str) (k:Nat) (c:Str),ds=[.lst (W.map .str),.int k,.str c]/\JP W/\(p c/\(c="|"->k<=W.length))/\(W.drop k).count ("(":Str) < n/\uJ W k (ltI c) id (zI (aw n) c (W.drop k)) R
def QM(q:Str->Prop)(n:Nat):abM:=λds R=>∃ (W:!Str) (k:Nat) (en c:Str),ds=[.lst (W.map .str),.int k,.str en,.str c]/\JP W/\(q c/\(c="t"\/c="n")/\en≠"")/\(W.drop k).count ("(":Str) < n/\uJ W k 0 D.tup (aE (lR (aw n) c) en ((W.drop k).length+1) (W.drop k)) R
def Rc(q:Prop)(n:Nat):abM:=λds R=>q/\∃ (W:!Str) (k:Nat),ds=[.lst (W.map .str),.int k]/\(JP W/\k<=W.length)/\(W.drop k).count ("(":Str) < n/\uJ W k 0 (λrs=>D.tup (rs.map LN)) (aQ (aw n) ((W.drop k).length+1) (W.drop k)) R
theorem uJ.of_map{α:Type}{W:!Str}{k lt:Nat}{f:α->D}{o:PR α}{R:D->Prop}(h:uJ W k lt id (o.map λa=>(f a.1,a.2)) R):uJ W k lt f o R:=#[λa j e h1 h2=>h.1 (f a) j (by rw[e];rfl) h1 h2,λe=>h.2 (by rw[e];rfl)]
theorem pb{W:!Str}(h:JP W)(k:Nat):(seen (W.drop k)).length<=100000:=by
 cases e:W.drop k with
 | nil=>exact Z1 _
 | cons a l=>exact h.2 a (aao (e▸Zx))
theorem k8{x y:Str}:decide (fv (D.str x)=fv (D.str y))=decide (x=y):=by
 by_cases h:x=y
 .rw[h,decide_eq_true U,decide_eq_true U]
 .rw[decide_eq_false h];exact decide_eq_false λz=>h (by injection (show V.str x=V.str y from z))
theorem Dt{x:Str}(h:Nm x):x≠"":=λe=>by rw[e] at h;exact absurd h.2.1 ()
theorem Cy{q1 q3:Prop}{q2:Str->Prop}{n m:Nat}(hm:1<=m)(uD:ab0 P w K mg base c9 1 Mc)(yz:ab0 P w K mg base cP 1 (JN λz=>decide (Nm z)))(Fd:ab0 P w K mg base cC m (LV q1 n))(Ui:ab0 P w K mg base ee m (QM q2 n))(Y9:ab0 P w K mg base eh m (Rc q3 n))(F:Own K mg d9)(T:Txt K mg) :
  C4 P w K mg base aV d9 (m+1) (b5 K .no (QZ (λc=>(c="t"->q1)/\(c="*"->q2 "t")/\(c="|"->q3)) n)):=by
 show F.d (nos:=0) nW (λds R h=>?_) λf bp A outer s H E M hr=>#[_,(af (sS 3 nW.nd (aC hr uD (aa (vd 0) (aa (vd 1) ae))))
 (af (cD (aH bu cY (vd 2) ah (ay _))
 (ak (aF (aC hr Fd (aa (vd 0) (aa (vd 1) ae)))))
 aP)
 (af (cD (aH bu cY (vd 2) ah (ay _))
 (ak (aF (aC hr Ui (aa (vd 0) (aa (vd 1) (aa ah (aa ah ae)))))))
 aP)
 (af (cD (aH bu cY (vd 2) ah (ay _))
 (ak (aF (aC hr Y9 (aa (vd 0) (aa (vd 1) ae)))))
 aP)
 (af (cD (DW.dt (iL (DW.dt (mW (aH bu cY (vd 2) ah (ay _)) (jG (d5 (aC hr yz (aa (vd 3) ae)))))) (ka (DW.dt (mW (aH bu cY (vd 2) ah (ay _)) (jG (aH bu cY (vd 3) ah (ay _))))))))
 (ak (aF (bZ (aa (vd 3) (aa (bR bD f9 (vd 1) ao) ae)))))
 aP)
 (af (cD (DW.dt (mW (aH bu cY (vd 2) ah (ay _)) (jG (DW.dt (iL (d5 (aC hr yz (aa (vd 3) ae))) (ka (aH bu cY (vd 3) ah (ay _))))))))
 (ak (aF (bZ (aa (vd 3) (aa (bR bD f9 (vd 1) ao) ae)))))
 aP)
 (ak (aF (bZ (aa gh (aa (vd 1) ae))))))))))),λds R h=>?_]
 .let(W,k,c,rfl,_):=h
  rfl
 .let(W,k,c,rfl,hW,((p1,p2,p3),p4),hcn,ha):=h;have hsl:=pb hW k;have hsz:=aK;show#[_,U,_,U,W,k,U,hW,?_];have tl:(W.drop k).tail=W.drop (k+1):=drop_tail W k;have pl:((k:Int)+1)=((k+1:Nat):Int):=by cbv
  by_cases hc:c∈(["t","*","|","n","to","k"]:!Str)
  .simp only[List.mem_cons,List.not_mem_nil,or_false] at hc;rcases hc with rfl | rfl | rfl | rfl | rfl | rfl
   .rw[gS (-()) (-()),Dd] at ha;right;rw[show ltI "t"=1 by decide+kernel] at ha;exact#[p1 U,W,k,U,hW,hcn,uJ.of_map ha]
   .rw[xW] at ha;right;rw[show ltI "*"=0 by decide+kernel] at ha;exact#[hW,#[p2 U,.inl U,by decide+kernel],hcn,uJ.of_map (f:=D.tup) ha]
   .rw[sQ] at ha;right;rw[show ltI "|"=0 by decide+kernel] at ha;exact#[p3 U,W,k,U,#[hW,p4 U],hcn,uJ.of_map (f:=λrs:!((Str×!Str)×Tm)=>D.tup (rs.map LN)) ha]
   .rw[gS (-()) (-()),AW] at ha;right;show#[hsl,?_];right;show aO (b':=decide (Nm (seen (W.drop k)))) U (λhn=>?_) λhn=>?_
    .have hn:=of_decide_eq_true hn;right;rw[pl];exact ha.1 (.str (seen (W.drop k))) (k+1) (by unfold bT;rw[if_pos hn,tl];rfl) (Nat.le_of_eq (by rfl)) (fb U (Dt hn))
    .have hn:=of_decide_eq_false hn;right;exact ha.2 (by unfold bT;rw[if_neg hn];rfl) k (Nat.le_refl _)
   .rw[gS (-()) (-()),zm] at ha;right;show aO (b':=decide (seen (W.drop k)="to")) k8 (λhn=>?_) λhn=>?_
    .have hn:=of_decide_eq_true hn;right;rw[pl,hn];exact ha.1 (.str "to") (k+1) (by unfold gT;rw[if_pos hn,tl];rfl) (Nat.le_of_eq (by rfl)) (fb hn (-()))
    .have hn:=of_decide_eq_false hn;right;exact ha.2 (by unfold gT;rw[if_neg hn];rfl) k (Nat.le_refl _)
   .rw[gS (-()) (-()),Hs] at ha;right;show#[hsl,?_];right;show aO (b':=decide (Nm (seen (W.drop k)))) U (λhn=>?_) λhn=>?_
    .have hn:=of_decide_eq_true hn;right;rw[pl];exact ha.1 (.str (seen (W.drop k))) (k+1) (by unfold fW;rw[if_pos (.inl hn),tl];rfl) (Nat.le_of_eq (by rfl)) (fb U (Dt hn))
    .have hn:=of_decide_eq_false hn;right;show aO (b':=decide (seen (W.drop k)="number")) k8 (λhk=>?_) λhk=>?_
     .have hk:=of_decide_eq_true hk;right;rw[pl];exact ha.1 (.str (seen (W.drop k))) (k+1) (by unfold fW;rw[if_pos (.inr hk),tl];rfl) (Nat.le_of_eq (by rfl)) (fb hk (-()))
     .have hk:=of_decide_eq_false hk;right;exact ha.2 (by unfold fW;rw[if_neg (λz=>z.elim hn hk)];rfl) k (Nat.le_refl _)
  .simp only[List.mem_cons,List.not_mem_nil,or_false,not_or] at hc;let(c1,c2,c3,c4,c5,c6):=hc;rw[gS c2 c3,DL.rJ (by simp only[List.mem_cons,List.not_mem_nil,or_false,not_or];exact#[c1,c4,c5,c6])] at ha;have go:∀ {y:Str},c≠y->decide (fv (D.str c)=fv (D.str y))=false:=λh=>by rw[k8];exact decide_eq_false h
   show#[_,U,#[U,U,U],_,U,?_];show aO (go c1) (λh=>nomatch h) λ_=>?_;right;show aO (go c2) (λh=>nomatch h) λ_=>?_;right;show aO (go c3) (λh=>nomatch h) λ_=>?_;right;show aO (go c4) (λh=>nomatch h) λ_=>?_;right;show aO (go c5) (λh=>nomatch h) λ_=>?_;right;show aO (go c6) (λh=>nomatch h) λ_=>?_;right;exact ha.2 U k (ZC _)
theorem Oi{c:Str}(h:c="t"\/c="n"):ltI c=1/\c≠"*"/\c≠"|":=by rcases h with rfl | rfl<;>decide+kernel
theorem yy{rd:!Str->PR Tm}{c:Str}(h:c="t"\/c="n"){ws r:!Str}{d:D}(e:lR rd c ws=some (d,r)):iq d=false:=by
 rcases h with rfl | rfl
 .rw[Dd] at e;let(a,_,h2):=ZN.mp e;cases h2;cases a.1 with
  | node f ks =>
   change iq (Bs f (toDs ks))=false;cases f<;>rfl
 .rw[AW] at e;let(a,_,h2):=ZN.mp e;cases h2
  rfl
theorem HN{q:Str->Prop}{n m:Nat}(hm:1<=m)(uD:ab0 P w K mg base c9 1 Mc)(Ng:ab0 P w K mg base d9 m (QZ q n))(F:Own K mg ee)(T:Txt K mg):ab0 P w K mg base ee (m+1) (QM q n):=by
 show F.d (nos:=1) gw (λds R h=>?_) λf bp A outer s H E M hr=>#[_,(af (sN 0 4 gw.nd (aL ae))
 (af (tY PassesOwn.never (aH za Jq (aC hr uD (aa (vd 0) (aa (vd 1) ae))) (vd 2) (ay _))
 (af (rL (n:=1000) (aC hr Ng (aa (vd 0) (aa (vd 1) (aa (vd 3) ae)))) (nk (m:=2) U (c7 (gN 5 gw.nd) (c7 (gN 1 gw.nd) ni))))
 (af (cD (aH mB qX (vd 5) gh (ay _))
 (ak (aF (bZ (aa gh (aa (vd 1) ae)))))
 aP)
 (ak (EO 4 (aa (vd 5) ae))))))
 (ak (aF (bZ (aa (AZ T.tuple (aa (JU (pv 4)) ae)) (aa (vd 1) ae))))))),λds R h=>?_]
 .let(W,k,en,c,rfl,_):=h
  rfl
 .let(W,k,en,c,rfl,hW,(hq,hc,hen),hcn,ha):=h;have hsz:=aK;have hWl:=hW.1;let(l1,l2,l3):=Oi hc;generalize hX:aE (lR (aw n) c) en ((W.drop k).length+1) (W.drop k)=X at ha;show#[#[U,U],?_];show#[λμ s=>∃ (j:Nat) (acc:!D) (x5:Sl),x5.pl=true/\μ=W.length - j/\(k<=j/\acc.length<=j - k/\(acc=[]\/j<=W.length))/\X=(aE (lR (aw n) c) en ((W.drop j).length+1) (W.drop j)).map (λb=>(acc++b.1,b.2))/\s=#[[.dat (.lst (W.map .str)),.dat (.int j),.dat (.str en),.dat (.str c),.own 0,x5],[some (.lst acc)]],#[_,k,[],.no,U,U,#[ZC _,Z1 _,.inl U],?_,U],?_]
  .rw[hX];cases X<;>rfl
  .rintro μ s ⟨j,acc,x5,hx5,rfl,⟨hkj,hal,haj⟩,hmm,rfl⟩;show#[_,U,_,U,W,j,U,hW,_,U,#[U,U,U],_,U,?_];have hlen:acc.length<=100000:=by
    rcases haj with rfl | h
    .exact Z1 _
    .cbv
   rw[show ∀ (b:!Str),aE (lR (aw n) c) en (b.length+1) b=if seen b=en then some ([],b) else (lR (aw n) c b).bind λa=>(aE (lR (aw n) c) en b.length a.2).bind λb=>some (a.1::b.1,b.2) from λb=>by rw[aE]] at hmm;by_cases hs:seen (W.drop j)=en
   .rw[if_pos hs] at hmm;show eP (by rw[hs];exact (by simp)) ?_;have:=ha.1 acc j (by rw[hmm];simp) hkj (Nat.le_of_lt (fb hs hen));right;exact this
   .rw[if_neg hs] at hmm;show mD (by
     rw[show (decide (fv (D.str (seen (W.drop j)))=fv (D.str en)))=decide (seen (W.drop j)=en) from k8,decide_eq_false hs]
     rfl) ?_
    show#[_,U,_,U,_,U,W,j,c,U,hW,#[hq,λe=>absurd e l3],aaw (jf hkj) hcn,?_];rw[gS l2 l3,l1];show#[λd j' e1 e2 e3=>?_,λe1 j' e2=>?_]
    .have hnn:=yy hc e1;rw[e1,aaP] at hmm;have hfu:aE (lR (aw n) c) en (W.drop j).length (W.drop j')=aE (lR (aw n) c) en ((W.drop j').length+1) (W.drop j'):=wZ Lq (by rw[Z3,Z3];cbv);simp only[hfu] at hmm;right;show aO hnn (λh=>nomatch h) λ_=>?_;right;show#[by change acc.length < _;cbv,?_];show#[W.length - j',by cbv,j',acc++[d],.dat d,U,U,#[by cbv,by rw[ZE];change acc.length+1<=_;cbv,.inr e3],?_,U];rw[hmm];cases aE (lR (aw n) c) en ((W.drop j').length+1) (W.drop j') with
     | none=>rfl
     | some b=>simp
    .have:=ha.2 (by rw[hmm,e1];rfl) j' (by cbv);right;exact this
theorem Ki{n:Nat}{en:Str}{m:Nat}{ws:!Str}:aE (lR (aw n) "n") en m ws=(aE bT en m ws).map λb=>(b.1.map D.str,b.2):=by
 rw[show lR (aw n) "n"=λws=>(bT ws).map λa=>(D.str a.1,a.2) from funext λws=>AW,mf]
theorem Ni{q1:Prop}{p qm:Str->Prop}{n m:Nat}(hm:1<=m)(Wi:q1)(hp:p "n")(WT:qm "n")(uD:ab0 P w K mg base c9 1 Mc)(Ng:ab0 P w K mg base d9 m (QZ p n))(Ui:ab0 P w K mg base ee m (QM qm n))(Fd:ab0 P w K mg base cC m (LV q1 n))(F:Own K mg eh)(T:Txt K mg):ab0 P w K mg base eh (m+1) (Rc True n):=by
 show F.d (nos:=1) b8 (λds R h=>?_) λf bp A outer s H E M hr=>#[_,(af (sN 0 2 b8.nd (aL ae))
 (af (tY PassesOwn.never (aH bu cY (aC hr uD (aa (vd 0) (aa (vd 1) ae))) ah (ay _))
 (af (rL (n:=1000) (aC hr Ng (aa (vd 0) (aa (bR bD f9 (vd 1) ao) (aa ah ae)))) (nk (m:=2) U (c7 (gN 3 b8.nd) (c7 (gN 1 b8.nd) ni))))
 (af (rL (n:=1000) (aC hr Ui (aa (vd 0) (aa (vd 1) (aa ah (aa ah ae))))) (nk (m:=2) U (c7 (gN 4 b8.nd) (c7 (gN 1 b8.nd) ni))))
 (af (cD (DW.dt (iL (aH mB qX (vd 3) gh (ay _)) (ka (aH mB qX (vd 4) gh (ay _)))))
 (ak (aF (bZ (aa gh (aa (vd 1) ae)))))
 aP)
 (af (rL (n:=1000) (aC hr Fd (aa (vd 0) (aa (bR bD f9 (vd 1) ao) ae))) (nk (m:=2) U (c7 (gN 5 b8.nd) (c7 (gN 1 b8.nd) ni))))
 (af (cD (aH mB qX (vd 5) gh (ay _))
 (ak (aF (bZ (aa gh (aa (vd 1) ae)))))
 aP)
 (ak (EO 2 (aa (bZ (aa (vd 3) (aa (vd 4) (aa (vd 5) ae)))) ae)))))))))
 (ak (aF (bZ (aa (AZ T.tuple (aa (JU (pv 2)) ae)) (aa (vd 1) ae))))))),λds R h=>?_]
 .let(_,W,k,rfl,_):=h
  rfl
 .let(_,W,k,rfl,(hW,hkW),hcn,ha):=h;have hsz:=aK;have hWl:=hW.1;generalize hX:aQ (aw n) ((W.drop k).length+1) (W.drop k)=X at ha;have pl:∀ j:Nat,((j:Int)+1)=((j+1:Nat):Int):=λj=>by cbv
  show#[#[U,U],?_];show#[λμ s=>∃ (j:Nat) (acc:!((Str×!Str)×Tm)) (x3 x4 x5:Sl),(x3.pl=true/\x4.pl=true/\x5.pl=true)/\μ=W.length - j/\(k<=j/\acc.length<=j/\j<=W.length)/\X=(aQ (aw n) ((W.drop j).length+1) (W.drop j)).map (λb=>(acc++b.1,b.2))/\s=#[[.dat (.lst (W.map .str)),.dat (.int j),.own 0,x3,x4,x5],[some (.lst (acc.map LN))]],#[_,k,[],.no,.no,.no,#[U,U,U],U,#[ZC _,Z1 _,hkW],?_,U],?_]
  .rw[hX];cases X<;>rfl
  .rintro μ s ⟨j,acc,x3,x4,x5,hx,rfl,⟨hkj,hal,hjW⟩,hmm,rfl⟩;show#[_,U,_,U,W,j,U,hW,#[U,U,U],_,U,?_];rw[show ∀ (b:!Str),aQ (aw n) (b.length+1) b=if seen b="|" then (kh (aw n) b.tail).bind λa=>(aQ (aw n) b.length a.2).bind λb=>some (a.1::b.1,b.2) else some ([],b) from λb=>by rw[aQ]] at hmm;show aO (b':=decide (seen (W.drop j)="|")) k8 (λhs=>?_) λhs=>?_
   .have hs:=of_decide_eq_true hs;rw[if_pos hs,drop_tail] at hmm;have hjl:=fb hs (-());have c1:(W.drop (j+1)).count ("(":Str) < n:=aaw (jf (by cbv)) hcn;right;show#[hW,#[hp,λe=>absurd e (-())],c1,?_];rw[gS (-()) (-()),AW,show ltI "n"=1 by decide+kernel];have callm:∀ j1,j+1<=j1->(W.drop j1).count ("(":Str) < n:=λj1 h=>aaw (jf (by cbv)) hcn;show#[λd j1 e1 e2 e3=>?_,λe1 j1 e2=>?_]
    .let(x,e4,e5):=ZN.mp e1;injection e5 with e5 e6;subst e5;have e4:bT (W.drop (j+1))=some (x.1,W.drop j1):=by rw[e4,<- e6]
     right;show#[hW,#[WT,.inr U,by decide+kernel],callm j1 (by cbv),?_];rw[Ki];show#[λds j2 f1 f2 f3=>?_,λf1 j2 f2=>?_]
     .let(ns,f4,f5):=ZN.mp f1;injection f5 with f5 f6;subst f5;have f4:aE bT ":" ((W.drop j1).length+1) (W.drop j1)=some (ns.1,W.drop j2):=by rw[f4,<- f6]
      right;show#[Wi,W,j2+1,U,hW,callm _ (by cbv),?_];have hrow:kh (aw n) (W.drop (j+1))=(aw n (W.drop (j2+1))).bind λt=>some (((x.1,ns.1),t.1),t.2):=by
       unfold kh;rw[e4];change (aE bT ":" ((W.drop j1).length+1) (W.drop j1)).bind _=_;rw[f4];change (aw n (W.drop j2).tail).bind _=_;rw[drop_tail]
      show#[λt j3 g1 g2 g3=>?_,λg1 j3 g2=>?_]
      .rw[hrow,g1] at hmm;have hfu:aQ (aw n) (W.drop j).length (W.drop j3)=aQ (aw n) ((W.drop j3).length+1) (W.drop j3):=u9 (by rw[Z3,Z3];cbv);simp only[Option.bind_some,hfu] at hmm;have hnn:iq (toD t)=false:=by
        cases t with
        | node f ks =>
         change iq (Bs f (toDs ks))=false;cases f<;>rfl
       right;show aO hnn (λh=>nomatch h) λ_=>?_;right;show#[by rw[Zy];cbv,?_];show#[W.length - j3,by cbv,j3,acc++[((x.1,ns.1),t)],.dat (.str x.1),.dat (.tup (ns.1.map .str)),.dat (toD t),#[U,U,U],U,#[by cbv,by rw[ZE];change acc.length+1<=_;cbv,g3],?_,?_]
       .rw[hmm];cases aQ (aw n) ((W.drop j3).length+1) (W.drop j3) with
        | none=>rfl
        | some b=>simp
       .rw[ZO]
        rfl
      .have:=ha.2 (by rw[hmm,hrow,g1];rfl) j3 (by cbv);right;exact this
     .have hrow:kh (aw n) (W.drop (j+1))=none:=by
       unfold kh;rw[e4];change (aE bT ":" ((W.drop j1).length+1) (W.drop j1)).bind _=_;cases hy:aE bT ":" ((W.drop j1).length+1) (W.drop j1) with
       | none=>rfl
       | some b=>rw[hy] at f1;cases f1
      have:=ha.2 (by rw[hmm,hrow];rfl) j2 (by cbv);right;exact this
    .have hrow:kh (aw n) (W.drop (j+1))=none:=by
      unfold kh;cases hy:bT (W.drop (j+1)) with
      | none=>rfl
      | some b=>rw[hy] at e1;cases e1
     have hno:=ha.2 (by rw[hmm,hrow];rfl);right;show#[hW,#[WT,.inr U,by decide+kernel],callm j1 (by cbv),?_];show#[λds j2 f1 f2 f3=>?_,λf1 j2 f2=>?_]
     .have:=hno j2 (by cbv);right;exact this
     .have:=hno j2 (by cbv);right;exact this
   .have hs:=of_decide_eq_false hs;rw[if_neg hs] at hmm;have:=ha.1 acc j (by rw[hmm];simp) hkj hjW;right;exact this
theorem Gh{n:Nat}{c:Str}{ws r:!Str}{d:D}(e:zI (aw n) c ws=some (d,r)):iq d=false:=by
 by_cases h1:c="*"
 .rw[h1,xW] at e;let(a,_,h2):=ZN.mp e;cases h2
  rfl
 by_cases h2:c="|"
 .rw[h2,sQ] at e;let(a,_,h2):=ZN.mp e;cases h2
  rfl
 rw[gS h1 h2] at e;by_cases h3:c="t"\/c="n"
 .exact yy h3 e
 rw[not_or] at h3;by_cases h4:c="to"
 .rw[h4,zm] at e;let(a,_,h2):=ZN.mp e;cases h2
  rfl
 by_cases h5:c="k"
 .rw[h5,Hs] at e;let(a,_,h2):=ZN.mp e;cases h2
  rfl
 rw[DL.rJ (by simp only[List.mem_cons,List.not_mem_nil,or_false,not_or];exact#[h3.1,h3.2,h4,h5])] at e;cases e
def heads:!Str:=["+","-","*","zero","let","make","ask","new","case"]
theorem sI{h:Str}(hh:h∉heads):gv h=[("x":Str)]:=by
 unfold heads at hh;simp only[List.mem_cons,List.not_mem_nil,or_false,not_or] at hh;let(h1,h2,h3,h4,h5,h6,h7,h8,h9):=hh;unfold gv;rw[if_neg (by rintro (z | z | z)<;>contradiction),if_neg h4,if_neg h5,if_neg h6,if_neg h7,if_neg h8,if_neg h9]
theorem JY(h:Str):(gv h).length<=4/\(gv h).head?≠some "|"/\(h="case"->(gv h).length=4):=by
 by_cases hh:h∈heads
 .unfold heads at hh;simp only[List.mem_cons,List.not_mem_nil,or_false] at hh;rcases hh with rfl | rfl | rfl | rfl | rfl | rfl | rfl | rfl | rfl<;>decide+kernel
 .rw[sI hh];exact#[by decide,by decide+kernel,λe=>absurd (by rw[e];decide+kernel) hh]
def KZ:!Key:=[.inr "+",.inr "-",.inr "*",.inr "zero",.inr "let",.inr "make",.inr "ask",.inr "new"]
def Jf:!D:=[.str "tt",.str "tt",.str "tt",.str "ttt",.str "ntt",.str "n*",.str "tn*",.str "k|"]
theorem Lx{h:Str}(hh:h∉heads):jc KZ Jf (.inr h)=none:=by
 unfold heads at hh;simp only[List.mem_cons,List.not_mem_nil,or_false,not_or] at hh;let(h1,h2,h3,h4,h5,h6,h7,h8,h9):=hh;simp[jc,KZ,Jf,h1,h2,h3,h4,h5,h6,h7,h8,Ne.symm h1,Ne.symm h2,Ne.symm h3,Ne.symm h4,Ne.symm h5,Ne.symm h6,Ne.symm h7,Ne.symm h8]
theorem uJ.to_map{α:Type}{W:!Str}{k lt:Nat}{f:α->D}{o:PR α}{R:D->Prop}(h:uJ W k lt f o R):uJ W k lt id (o.map λa=>(f a.1,a.2)) R:=by
 show#[λa j e h1 h2=>?_,λe=>h.2 (Option.map_eq_none_iff.mp e)];let(x,e1,e2):=ZN.mp e;injection e2 with e2 e3;rw[<- e2];exact h.1 x.1 j (by rw[e1,<- e3]) h1 h2
theorem J9(h:Str):∃ z:Str,(jc KZ Jf (.inr h)).getD (.str "x")=.str z/\z.cps.all (·< 128)=true/\z.cps.size<=3/\(h≠"case"->gv h=Bo z):=by
 by_cases hh:h∈heads
 .unfold heads at hh;simp only[List.mem_cons,List.not_mem_nil,or_false] at hh;rcases hh with rfl | rfl | rfl | rfl | rfl | rfl | rfl | rfl | rfl
  .exact#["tt",U,by decide+kernel,by decide+kernel,λ_=>by decide+kernel]
  .exact#["tt",U,by decide+kernel,by decide+kernel,λ_=>by decide+kernel]
  .exact#["tt",U,by decide+kernel,by decide+kernel,λ_=>by decide+kernel]
  .exact#["ttt",U,by decide+kernel,by decide+kernel,λ_=>by decide+kernel]
  .exact#["ntt",U,by decide+kernel,by decide+kernel,λ_=>by decide+kernel]
  .exact#["n*",U,by decide+kernel,by decide+kernel,λ_=>by decide+kernel]
  .exact#["tn*",U,by decide+kernel,by decide+kernel,λ_=>by decide+kernel]
  .exact#["k|",U,by decide+kernel,by decide+kernel,λ_=>by decide+kernel]
  .exact#["x",U,by decide+kernel,by decide+kernel,λh=>absurd U h]
 .refine#["x",by rw[Lx hh];rfl,by decide+kernel,by decide+kernel,λ_=>?_];rw[sI hh];decide+kernel
theorem Hf{t u:jX}{R:gD}{s:DS}(I:DS->Prop)(h1:∀ E:gD,(∀ s',I s'->E.nx s')->t E s)(h2:∀ s',I s'->u R s'):rR t u R s:=h1 _ h2
theorem Hi{h:Str}{rest:jX}{E:gD}{a0 a1 a2:Sl}{os:!(Option D)}(hh:∀ x4:D,rest E #[[a0,a1,a2,.dat (.str h),.dat x4,.dat (.lst ((gv h).map .str)),.no,.no,.no],os]) :
  rR (rS 4 (Ce [("+",uu (.str "tt")),("-",uu (.str "tt")),("*",uu (.str "tt")),("zero",uu (.str "ttt")),("let",uu (.str "ntt")),("make",uu (.str "n*")),("ask",uu (.str "tn*")),("new",uu (.str "k|"))])) (rR (rS 5 (m5 En (mP (CJ (MG 4) (MG 3) (uu (.str "x"))) B9))) (rR (KI (PJ (ER Wq (MG 3) (uu (.str "case")))) (rS 5 (HZ (mP (uu (.str "t")) (mP (uu (.str "to")) (mP (uu (.str "k")) (mP (uu (.str "|")) B9)))))) Eo) rest)) E #[[a0,a1,a2,.dat (.str h),.no,.no,.no,.no,.no],os]:=by
 have hsz:=aK;let(z,e,z1,z2,z3):=J9 h;right;generalize hL:jc _ _ (Sum.inr h:Key)=od;have e:od.getD (.str "x")=.str z:=by rw[<- hL];exact e
 dsimp only;rw[e];right;show#[z1,by cbv,?_];by_cases hc:h="case"
 .subst hc;right;exact hh _
 .refine#[_,U,#[U,U,U],_,U,?_];show aO (b':=decide (h="case")) k8 (λh'=>absurd (of_decide_eq_true h') hc) λ_=>?_;rw[<- z3 hc];exact hh _
theorem UB{α:Type}{l:!α}(h:l.length=4):∃ a b c d,l=[a,b,c,d]:=by
 match l,h with
 | [a,b,c,d],_=>exact#[a,b,c,d,U]
theorem Ky(h:Str):(gv h).length≠0:=by
 by_cases hh:h∈heads
 .unfold heads at hh;simp only[List.mem_cons,List.not_mem_nil,or_false] at hh;rcases hh with rfl | rfl | rfl | rfl | rfl | rfl | rfl | rfl | rfl<;>decide+kernel
 .rw[sI hh];decide
def Pl(x:Sl):Prop:=x=.no\/∃ d,x=.dat d
theorem DK{a0 a1 a2 a3 a4 a5 d:D}{x6 x7 x8:Sl}(h7:Pl x7)(h8:Pl x8):noRef 1 6 [.dat a0,.dat a1,.dat a2,.dat a3,.dat a4,.dat a5,x6,vi 0 d x7,vi 0 d x8]=true:=by
 rcases h7 with rfl | ⟨_,rfl⟩<;>rcases h8 with rfl | ⟨_,rfl⟩<;>rfl
theorem KA{p:Str->Prop}{n m:Nat}(hm:1<=m)(hp:∀ c,p c)(uD:ab0 P w K mg base c9 1 Mc)(yz:ab0 P w K mg base cP 1 (JN λz=>decide (Nm z)))(Mh:ab0 P w K mg base cM 1 (JN isNum))(Ng:ab0 P w K mg base d9 m (QZ p n))(F:Own K mg cC)(T:Txt K mg):ab0 P w K mg base cC (m+1) (LV True (n+1)):=by
 show F.d (nos:=2) bz (λds R h=>?_) λf bp A outer s H E M hr=>#[_,(af (sS 2 bz.nd (aC hr uD (aa (vd 0) (aa (vd 1) ae))))
 (af (cD (d5 (aC hr Mh (aa (vd 2) ae)))
 (ak (aF (bZ (aa (bZ (aa ah (aa (fU rj Cg U T.int (-()) (aa (vd 2) ae)) ae))) (aa (bR bD f9 (vd 1) ao) ae)))))
 aP)
 (af (cD (aH za Jq (vd 2) ah (ay _))
 (ak (aF (bZ (aa (j0 (DN.de (aL (aa gh (aa (bZ (aa ah (aa (vd 2) ae))) ae)))) (fU mR xt U T.int (-()) (aa (aC hr yz (aa (vd 2) ae)) ae))) (aa (bR bD f9 (vd 1) ao) ae)))))
 aP)
 (af (sS 3 bz.nd (aC hr uD (aa (vd 0) (aa (bR bD f9 (vd 1) ao) ae))))
 (af (sS 4 bz.nd (DN.de (JH (fh ah (fh ah (fh ah (fh ah (fh ah (fh ah (fh ah (fh ah Gx)))))))) (show List.Nodup [(Sum.inr ("+":Str):Key),(Sum.inr ("-":Str):Key),(Sum.inr ("*":Str):Key),(Sum.inr ("zero":Str):Key),(Sum.inr ("let":Str):Key),(Sum.inr ("make":Str):Key),(Sum.inr ("ask":Str):Key),(Sum.inr ("new":Str):Key)] by decide+kernel))))
 (af (sS 5 bz.nd (DN.de (vF (xU U) DD U T.list (-()) (aa (Kv (DP (HV hr) (DE.pe (vd 4)) (DE.pe (vd 3)) (DE.pe ah) #[U,U,U,U])) ae))))
 (af (cD (aH bu cY (vd 3) ah (ay _))
 (ak (sS 5 bz.nd (DN.de (aL (aa ah (aa ah (aa ah (aa ah ae))))))))
 aP)
 (af (sN 0 6 bz.nd (aL (aa (vd 3) ae)))
 (af (sS 1 bz.nd (bR bD f9 (vd 1) ao))
 (af (sF (nJ (vd 5)) (gN 7 bz.nd)
 (af (rL (n:=1000) (aC hr Ng (aa (vd 0) (aa (vd 1) (aa (vd 7) ae)))) (nk (m:=2) U (c7 (gN 8 bz.nd) (c7 (gN 1 bz.nd) ni))))
 (af (cD (aH mB qX (vd 8) gh (ay _))
 (ak (aF (bZ (aa gh (aa (vd 1) ae)))))
 aP)
 (ak (EO 6 (aa (vd 8) ae))))))
 (af (cD (aH za Jq (aC hr uD (aa (vd 0) (aa (vd 1) ae))) ah (ay _))
 (ak (aF (bZ (aa gh (aa (vd 1) ae)))))
 aP)
 (af (cD (aH bu cY (vd 3) ah (ay _))
 (ak (yk (JE abb abc BR Hk (pv 6) (aa ao ae))))
 aP)
 (af (cD (aH jz okIn (vd 3) (bZ (aa ah (aa ah (aa ah ae)))) U)
 (ak (sN 1 6 bz.nd (bJ aX a9 (DN.de (aL (aa ah ae))) (JU (pv 6)))))
 aP)
 (ak (aF (bZ (aa (AZ T.tuple (aa (JU (pv 6)) ae)) (aa (bR bD f9 (vd 1) ao) ae)))))))))))))))))),λds R h=>?_]
 .let(_,W,k,rfl,_):=h
  rfl
 .let(_,W,k,rfl,hW,hcn,ha):=h;have hsz:=aK;have hsl:=pb hW k;have hWl:=hW.1;have tl:(W.drop k).tail=W.drop (k+1):=drop_tail W k;have tl2:(W.drop k).tail.tail=W.drop (k+2):=by rw[tl,drop_tail]
  rw[aw] at ha;show#[_,U,_,U,W,k,U,hW,?_];show#[_,U,_,U,hsl,_,U,?_];show aO (b':=isNum (seen (W.drop k))) U (λhn=>?_) λhn=>?_
  .let(i,hi,ei):=mN.mp hn;have hI:ir (seen (W.drop k))=some i:=by rw[ei];exact kC hi
   rw[hI] at ha;have:=ha.1 (.node (.num i) []) (k+1) (by rw[tl]) (ZC _) (fb U λe=>by rw[e] at ei;exact (eL (i:=i) hi.1).1 (by rw[<- ei];rfl));rw[ei];right;show#[hi.1,Int.lt_trans hi.2 (),?_];right;exact this
  have hI:ir (seen (W.drop k))=none:=yH (by rw[hn];decide);rw[hI] at ha;show#[_,U,#[U,U,U],_,U,?_];show aO (b':=decide (seen (W.drop k)≠"(")) (by rw[show (decide (fv (D.str (seen (W.drop k)))=fv (D.str "(")))=decide (seen (W.drop k)="(") from k8];simp) (λhs=>?_) λhs=>?_
  .have hs:=of_decide_eq_true hs;have ha:uJ W k 1 toD (if Nm (seen (W.drop k)) then some (.node (.nm (seen (W.drop k))) [],W.drop (k+1)) else none) R:=by
    rw[if_neg hs,tl] at ha;exact ha
   right;show#[hsl,?_];by_cases hN:Nm (seen (W.drop k))
   .have:=ha.1 (.node (.nm (seen (W.drop k))) []) (k+1) (if_pos hN) (ZC _) (fb U (Dt hN));dsimp only;rw[decide_eq_true hN];right;exact this
   .have:=ha.2 (if_neg hN) (k+1) (by cbv);dsimp only;rw[decide_eq_false hN];right;exact this
  .have hs:seen (W.drop k)="(":=Decidable.of_not_not (of_decide_eq_false hs);have hb:uJ W k 1 id (Cz (aw n) (seen (W.drop (k+1))) (W.drop (k+2))) R:=by
    rw[if_pos hs,tl,drop_tail] at ha;rw[<- CG];exact uJ.to_map ha
   have hcn2:(W.drop (k+2)).count ("(":Str) < n:=by
    have:=BN hs;exact aaw (jf (by cbv)) (show (W.drop (k+1)).count ("(":Str) < n by cbv)
   have hhl:=pb hW (k+1);clear ha;right;show#[hW,?_];generalize seen (W.drop (k+1))=h at hb hhl;show Hi (h:=h) λx4=>?_;right;generalize hX:jM (aw n) (gv h) (W.drop (k+2))=X;have hb:uJ W k 1 id (X.bind λb=>if seen b.2=")" then some (qr h b.1,b.2.tail) else none) R:=by
    rw[<- hX];exact hb
   let(o1,o2,o3):=JY h;show CO D.str (λdn s=>∃ (j:Nat) (acc:!D) (x7 x8:Sl) (td:!Str),(Pl x7/\Pl x8)/\gv h=dn++td/\(k+2<=j/\(dn≠[]->j<=W.length)/\acc.length=dn.length)/\X=(jM (aw n) td (W.drop j)).map (λb=>(acc++b.1,b.2))/\s=#[[.dat (.lst (W.map .str)),.dat (.int j),.dat (.str (seen (W.drop k))),.dat (.str h),.dat x4,.dat (.lst ((gv h).map .str)),.own 0,x7,x8],[some (.lst (.str h::acc)),none]]) ?_ ?_ _ #[k+2,[],.no,.no,gv h,#[.inl U,.inl U],U,#[ZC _,λh=>absurd U h,U],?_,U]
   .rintro s ⟨j,acc,x7,x8,td,hx,e1,⟨e2,e3,e4⟩,e5,rfl⟩;have ht:td=[]:=by simpa using e1
    subst ht;have hj:j<=W.length:=e3 λe=>by
     exact Ky h (by rw[e];rfl)
    have hX2:X=some (acc,W.drop j):=by rw[e5];simp[jM]
    rw[hX2] at hb;have hb:uJ W k 1 id (if seen (W.drop j)=")" then some (qr h acc,W.drop (j+1)) else none) R:=by
     rw[<- drop_tail];exact hb
    show#[_,U,_,U,W,j,U,hW,#[U,U,U],_,U,?_];by_cases xh:seen (W.drop j)=")"
    .rw[xh];have hj2:=fb xh (-());have hR:=hb.1 (qr h acc) (j+1) (if_pos xh) (by cbv) (by cbv);show eP (-()) ?_;by_cases hc:h="case"
     .subst hc;have h4:acc.length=4:=by rw[e4];exact o3 U
      let(y1,y2,y3,y4,rfl):=UB h4;right;show#[by decide,show seqIndex? 2 5=some 2 by decide,U,?_];right;exact hR
     .refine#[_,U,#[U,U,U],_,U,?_];show aO (b':=decide (h="case")) k8 (λh'=>absurd (of_decide_eq_true h') hc) λ_=>?_;unfold qr at hR;rw[if_neg hc] at hR;by_cases hop:h="+"\/h="-"\/h="*"
      .rw[if_pos hop] at hR;have ha4:acc.length<=4:=by cbv
       rcases hop with rfl | rfl | rfl
       .right;show#[by change 1+(acc.length+1)<=_;cbv,#[U,DK hx.1 hx.2],?_];right;exact hR
       .right;show#[by change 1+(acc.length+1)<=_;cbv,#[U,DK hx.1 hx.2],?_];right;exact hR
       .right;show#[by change 1+(acc.length+1)<=_;cbv,#[U,DK hx.1 hx.2],?_];right;exact hR
      .rw[if_neg hop] at hR;show#[_,U,_,.inr U,#[U,U],_,U,?_];show eP (by
        rw[if_neg ()];show (dj (w:=h) (zs:=["+","-","*"])).trans (decide_eq_false λz=>hop ?_);simpa using z) ?_
       right;exact hR
    .have hR:=hb.2 (if_neg xh) j (by cbv);show mD (by
      rw[show (decide (fv (D.str (seen (W.drop j)))=fv (D.str ")")))=decide (seen (W.drop j)=")") from k8,decide_eq_false xh]
      rfl) ?_
     right;exact hR
   .rintro dn c td s E e0 ⟨j,acc,x7,x8,td',hx,e1,⟨e2,e3,e4⟩,e5,rfl⟩ hN hE;obtain rfl:td'=c::td:=aa9 (e1.symm.trans e0);have hlen:dn.length<=4:=by
     have:=congrArg List.length e0;rw[ZE] at this;cbv
    right;show#[hW,#[hp c,λec=>?_],aaw (jf e2) hcn2,?_]
    .refine e3 λe=>o2 ?_;rw[e0,e,ec]
     rfl
    show#[λd j' f1 f2 f3=>?_,λf1 j' f2=>?_]
    .have hnn:=Gh f1;rw[jM,f1,aaP] at e5;right;show aO hnn (λh=>nomatch h) λ_=>?_;right;show#[by change acc.length+1 < _;cbv,?_];show hN _ #[j',acc++[d],.dat (.str c),.dat d,td,#[.inr #[_,U],.inr #[_,U]],by rw[e0];simp,#[by cbv,λ_=>f3,by rw[List.length_append,List.length_append,e4];rfl],?_,U];rw[e5];cases jM (aw n) td (W.drop j') with
     | none=>rfl
     | some b=>simp
    .have:=hb.2 (by rw[e5,jM,f1];rfl) j' (by cbv);right;exact hE _ this
   .rw[hX];cases X<;>rfl
end
section
variable{P:Fr}{w:Fa}{K:Frag}{mg:Str->Option AT}{base:Ev}{CX:u4}{d:D3}{k m:Nat}{t t':abM}
theorem C4.up(g:ab0 P w K mg base d k t)(h:k<=m):ab0 P w K mg base d m t:=by
 let(f,fd,J,r):=g;exact#[f,fd,J.mono h,r]
theorem C4.wk(c:ab0 P w K mg base d k t)(h:∀ ds R,t' ds R->t ds R):C4 P w K mg base aV d k (b5 K .no t') :=
 c.imp λf fd F=>F.imp λvs H Q E z=>by
  let(M,ds,R,B,r,q,kk):=z;exact#[M,ds,R,B,r,h ds R q,kk]
theorem never(o:Own K mg d)(h:∀ ds R,t ds R->False):ab0 P w K mg base d k t:=C4.wk (o.c λf fd F=>Em) h
theorem Iv(uD:ab0 P w K mg base c9 1 Mc)(yz:ab0 P w K mg base cP 1 (JN λz=>decide (Nm z)))(Mh:ab0 P w K mg base cM 1 (JN isNum))(FR:Own K mg cC)(FI:Own K mg d9)(FM:Own K mg ee)(FT:Own K mg eh)(T:Txt K mg):∀ n:Nat,ab0 P w K mg base cC (4 * n+3) (LV True n)
 | 0=>never FR λds R #[_,W,k,_,_,h,_]=>nomatch h
 | n+1=>by
  have Fd:=Iv uD yz Mh FR FI FM FT T n;have nR:∀ {m},ab0 P w K mg base cC m (LV False n):=never FR λds R h=>h.1;have nM:∀ {m},ab0 P w K mg base ee m (QM (λ_=>False) n):=never FM λds R #[_,_,_,_,_,_,h,_]=>h.1;have nT:∀ {m},ab0 P w K mg base eh m (Rc False n):=never FT λds R h=>h.1;have h1:1<=4 * n+3:=by cbv
  have I1:=Cy (n:=n) (m:=1) (ZC 1) uD yz nR nM nT FI T;have M1:=HN () uD I1 FM T;have B1:=Ni h1 trivial #[λe=>absurd e (-()),λe=>absurd e (-()),λe=>absurd e (-())] #[λe=>absurd e (-()),λe=>absurd e (-()),λe=>absurd e (-())] uD (C4.up I1 (by cbv)) (C4.up M1 (by cbv)) Fd FT T;have I2:=Cy h1 uD yz Fd nM nT FI T;have M2:=HN (by cbv) uD I2 FM T;have I3:=Cy (m:=4 * n+5) (by cbv) uD yz (C4.up Fd (by cbv)) (C4.up M2 (by cbv)) (C4.up B1 (by cbv)) FI T;exact KA (m:=4 * n+6) (by cbv) (λc=>#[λ_=>trivial,λ_=>#[λ_=>trivial,λe=>absurd e (-()),λe=>absurd e (-())],λ_=>trivial]) uD yz Mh I3 FR T
end
section
variable{P:Fr}{w:Fa}{K:Frag}{mg:Str->Option AT}{base:Ev}
mutual
noncomputable def Bm:D->Bool
 | .str _=>true
 | .int _=>true
 | .tup ds=>iG ds
 | _=>false
noncomputable def iG:!D->Bool
 | []=>true
 | d::ds=>Bm d&&iG ds
end
theorem u0:∀ {ds:!D},iG ds=true->∀ d∈ds,Bm d=true
 | [],_,d,h=>(nomatch h)
 | a::ds,h,d,hd=>by
  have h:(Bm a&&iG ds)=true:=h;rw[ZX] at h;rcases ZD.mp hd with rfl | hd
  .exact h.1
  .exact u0 h.2 d hd
theorem yP:∀ {ds:!D} {d:D},d∈ds->iw d<=gx ds
 | a::ds,d,h=>by
  rw[eZ];rcases ZD.mp h with rfl | h
  .exact Nat.le_max_left _ _
  .exact ZH (yP h) (Nat.le_max_right _ _)
def Vn:Nat->abM
 | 0=>λ_ _=>False
 | n+1=>λds R=>∃ d:D,ds=[d,d]/\(Bm d=true/\iw d<=n)/\R (.bl true)
theorem Hz(F:Own K mg gp)(T:Txt K mg):∀ n:Nat,ab0 P w K mg base gp (n+1) (Vn n)
 | 0=>never F λds R h=>h
 | n+1=>by
  have Vc:=Hz F T n;show F.d (nos:=0) sr (λds R h=>?_) λf bp A outer s H E M hr=>#[_,(af (cD (DW.dt (mW (d5 (a8 bU fX U T.uF PyProof.Rows.boot_isinstance (aa (vd 0) (aa (dc (d:=.ty "tuple") (cm (v:=.ty "tuple") U T.tuple (-()) U) U) ae)))) (jG (d5 (a8 bU fX U T.uF PyProof.Rows.boot_isinstance (aa (vd 1) (aa (dc (d:=.ty "tuple") (cm (v:=.ty "tuple") U T.tuple (-()) U) U) ae)))))))
 (ak (aF (iK (dH bu cY (jS T.len (aa (vd 0) ae)) (jS T.len (aa (vd 1) ae)) (ay _)) (jZ (a8 (du U) yI U T.all PyProof.Rows.boot_all (aa (DN.de (nC ["_law_part","_law_more"] [] (Pw U T.zip (aa (vd 0) (aa (vd 1) ae))) (λ_ _ _ _=>(nk (m:=2) U (c7 (gM 0 ["_law_part","_law_more"]) (c7 (gM 1 ["_law_part","_law_more"]) ni)))) (λ_ _ _ _=>i7)
 (λ_ _ _ _=>(aC hr Vc (aa (vd 0) (aa (vd 1) ae)))))) ae))))))
 aP)
 (af (cD (DW.dt (iL (d5 (a8 bU fX U T.uF PyProof.Rows.boot_isinstance (aa (vd 0) (aa (dc (d:=.ty "str") (cm (v:=.ty "str") U T.str (-()) U) U) ae)))) (ka (d5 (a8 bU fX U T.uF PyProof.Rows.boot_isinstance (aa (vd 1) (aa (dc (d:=.ty "str") (cm (v:=.ty "str") U T.str (-()) U) U) ae)))))))
 (ak (aF (iK (a8 bU fX U T.uF PyProof.Rows.boot_isinstance (aa (vd 0) (aa (dc (d:=.ty "str") (cm (v:=.ty "str") U T.str (-()) U) U) ae))) (iK (a8 bU fX U T.uF PyProof.Rows.boot_isinstance (aa (vd 1) (aa (dc (d:=.ty "str") (cm (v:=.ty "str") U T.str (-()) U) U) ae))) (jZ (dH bu cY (vd 0) (vd 1) (ay _)))))))
 aP)
 (af (cD (DW.dt (iL (xG (d5 (a8 bU fX U T.uF PyProof.Rows.boot_isinstance (aa (vd 0) (aa (dc (d:=.ty "int") (cm (v:=.ty "int") U T.int (-()) U) U) ae))))) (iL (xG (d5 (a8 bU fX U T.uF PyProof.Rows.boot_isinstance (aa (vd 1) (aa (dc (d:=.ty "int") (cm (v:=.ty "int") U T.int (-()) U) U) ae))))) (iL (d5 (a8 bU fX U T.uF PyProof.Rows.boot_isinstance (aa (vd 0) (aa (dc (d:=.ty "bool") (cm (v:=.ty "bool") U T.bool (-()) U) U) ae)))) (ka (d5 (a8 bU fX U T.uF PyProof.Rows.boot_isinstance (aa (vd 1) (aa (dc (d:=.ty "bool") (cm (v:=.ty "bool") U T.bool (-()) U) U) ae)))))))))
 (ak (aF GH))
 aP)
 (ak (aF (dH bu cY (vd 0) (vd 1) (ay _))))))),λds R h=>?_]
  .let(d,rfl,_):=h
   rfl
  .let(d,rfl,(hp,hd),q):=h;have hsz:=aK;cases d with
   | str x =>
    show#[_,U,_,_,false,U,U,_,U,?_];show eP U ?_;show#[_,U,_,_,true,U,U,_,U,?_];show mD U ?_;show mD U ?_;show#[_,U,_,_,true,U,U,_,U,?_];show mD U ?_;show#[_,U,_,_,true,U,U,_,U,?_];show mD U ?_;show#[_,U,_,U,#[U,U,U],?_];rw[decide_eq_true U];exact q
   | int i =>
    show#[_,U,_,_,false,U,U,_,U,?_];show eP U ?_;show#[_,U,_,_,false,U,U,_,U,?_];show eP U ?_;show#[_,U,_,_,false,U,U,_,U,?_];show eP U ?_;show#[_,U,_,_,true,U,U,_,U,?_];show eP U ?_;show#[_,U,_,_,true,U,U,_,U,?_];show eP U ?_;show#[_,U,_,_,false,U,U,_,U,?_];show eP U ?_;show#[_,U,_,_,false,U,U,_,U,?_];show eP U ?_;show#[_,U,_,U,#[U,U,U],?_];rw[decide_eq_true U];exact q
   | tup xs =>
    show#[_,U,_,_,true,U,U,_,U,?_];show mD U ?_;show#[_,U,_,_,true,U,U,_,U,?_];show mD U ?_;show#[_,U,_,.inr U,_,U,_,.inr U,#[U,U,U],_,U,?_];show mD (decide_eq_true U) ?_;show#[_,U,_,U,_,_,_,_,U,#[U,U],?_];rw[show wY xs xs=xs.map λd=>D.tup [d,d] by
     unfold wY;rw[List.zipWith_self]]
    rw[zP] at hd;show ik (λd=>D.tup [d,d]) (λ_=>D.bl true) _ (λd hdm k hk=>?_) ?_
    .refine#[_,U,U,_,_,U,_,_,U,U,_,U,_,U,?_];have h1:=yP hdm;cases n with
     | zero=>cbv
     | succ n=>exact#[d,U,#[u0 hp d hdm,by cbv],hk _ U]
    show#[xs.map λ_=>true,?_,?_]
    .rw[aaJ,aal]
     rfl
    .rw[show (xs.map λ_=>true).all id=true by simp];exact q
   | _=>cases hp
end
mutual
theorem Co:∀ t:Tm,t.gg->iw (toD t)<=4 * t.dep
 | .node f ks,#[ha,hk]=>by
  have ih:=zi ks hk;have i3:gx (toDs ks)<=4 * n8 ks+3:=ZH ih (aaN _ 3);have i2:gx (toDs ks)<=4 * n8 ks+2:=ZH ih (aaN _ 2);change iw (Bs f (toDs ks))<=4 * n8 ks+3+1;cases f with
  | nm x=>exact fV (eY fj (eY fj um))
  | num x=>exact fV (eY fj (eY (by rw[Hc];exact Z1 _) um))
  | op x=>exact fV (eY fj (eY fj i3))
  | jK=>exact fV (eY fj i3)
  | lt x=>exact fV (eY fj (eY fj i3))
  | mk x=>exact fV (eY fj (eY fj (eY (fV i2) um)))
  | ask x =>
   let(a,r,rfl):=tV (l:=ks) ha.2;have e:=Nat.max_le.mp (eZ (toD a) (toDs r)▸i2);exact fV (eY fj (eY (Nat.le_succ_of_le e.1) (eY fj (eY (fV e.2) um))))
  | jb x hd =>
   let(a,r,rfl):=tV (l:=ks) (by rw[ha.2.2];cbv);have e:=Nat.max_le.mp (eZ (toD a) (toDs r)▸ih);exact fV (eY fj (eY (ZH e.1 (aaN _ 3)) (eY fj (eY (fV (pW hd _ e.2)) um))))
  | new x hd=>exact fV (eY fj (eY fj (eY (fV (pW hd _ ih)) um)))
theorem zi:∀ ks:!Tm,qK ks->gx (toDs ks)<=4 * n8 ks
 | [],_=>by change gx []<=_;rw[pC];cbv
 | t::r,h=>by
  have h1:=Co t h.1;have h2:=zi r h.2;change gx (toD t::toDs r)<=4 * max t.dep (n8 r);rw[eZ];cbv
end
theorem mw:∀ (hs:!(Str×!Str)) (ds:!D),iG ds=true->iG (cW hs ds)=true
 | [],ds,_=>by cases ds<;>rfl
 | _::_,[],_=>rfl
 | h::hs,d::ds,e=>by
  have e:(Bm d&&iG ds)=true:=e;rw[ZX] at e;have hm:∀ l:!Str,iG (l.map D.str)=true:=λl=>by
   induction l with
   | nil=>rfl
   | cons a l ih=>exact ih
  change ((iG (h.2.map D.str)&&(Bm d&&true))&&iG (cW hs ds))=true;rw[hm,e.1,mw hs ds e.2]
  rfl
mutual
theorem B7:∀ t:Tm,t.gg->Bm (toD t)=true
 | .node f ks,h=>by
  have ih:=Aa ks h.2;cases f with
  | nm x=>rfl
  | num x=>rfl
  | op x=>exact ih
  | jK=>exact ih
  | lt x=>exact ih
  | mk x =>
   change (iG (toDs ks)&&true)=true;rw[ih]
   rfl
  | ask x =>
   let(a,r,rfl):=tV h.1.2;have ih:(Bm (toD a)&&iG (toDs r))=true:=ih;rw[ZX] at ih;change (Bm (toD a)&&(iG (toDs r)&&true))=true;rw[ih.1,ih.2]
   rfl
  | jb r hs =>
   let(a,l,rfl):=tV (l:=ks) (by rw[h.1.2.2];cbv);have ih:(Bm (toD a)&&iG (toDs l))=true:=ih;rw[ZX] at ih;change (Bm (toD a)&&(iG (cW hs (toDs l))&&true))=true;rw[ih.1,mw hs _ ih.2]
   rfl
  | new k hs =>
   change (iG (cW hs (toDs ks))&&true)=true;rw[mw hs _ ih]
   rfl
theorem Aa:∀ ks:!Tm,qK ks->iG (toDs ks)=true
 | [],_=>rfl
 | t::r,h=>by
  change (Bm (toD t)&&iG (toDs r))=true;rw[B7 t h.1,Aa r h.2]
  rfl
end
section
variable{P:Fr}{w:Fa}{K:Frag}{mg:Str->Option AT}{base:Ev}
theorem Gj(l:!Nat):(dW l).count 40=l.count 40:=by
 induction l with
 | nil=>rfl
 | cons c l ih =>
  rw[cw,aas,ih,DL.rep1];by_cases h1:c=40
  .rw[if_pos h1,h1,aaZ];simp;cbv
  .rw[if_neg h1,aaX h1];by_cases h2:c=41
   .rw[if_pos h2];simp
   .rw[if_neg h2,aaX h1];simp
theorem gI:∀ ws:!(!Nat),(ws.map λx=>x.count 40).sum=(ba ws).count 40
 | []=>rfl
 | [a]=>by simp[ba]
 | a::b::l=>by
  have:=gI (b::l);rw[ZG,aaL,this];simp[ba]
theorem yT{c:Str}(hc:(cd c).count 40=1):∀ W:!Str,W.count c<=((W.map cd).map λx=>x.count 40).sum
 | []=>ZC _
 | a::l=>by
  have:=yT hc l;rw[ZG,ZG,aaL,List.count_cons];by_cases h:a=c
  .rw[h,hc,if_pos (by simp)];cbv
  .rw[if_neg (by simpa using h)];cbv
theorem Gz(z:Str):(wH z).count ("(":Str)<=(cd z).count 40:=by
 have sp:=nv (cn (dW (cd z)));show ZH (yT (-()) _) ?_;rw[gI,sp.jn];change (dW (cd z)).count 40<=_;rw[Gj];exact ZC _
theorem Jk{z:Str}(h:z.length<=20000):JP (wH z):=#[ZH (tJ z).1 (by cbv),λx hx=>ZH ((tJ z).2 x hx) (by cbv)]
def VX:abM:=λds R=>∃ z:Str,ds=[.str z]/\(z.length<=20000/\(cd z).count 40<=55)/\(∀ t,Az (lX z)=some t->t.gg->t.T=cd z->R (toD t))/\(Az (lX z)=none->R .bX)
theorem yA{x y:Int}:decide (fv (D.int x)=fv (D.int y))=decide (x=y):=by
 by_cases h:x=y
 .rw[h,decide_eq_true U,decide_eq_true U]
 .rw[decide_eq_false h];exact decide_eq_false λz=>h (by injection (show V.int x=V.int y from z))
theorem Oc(Yu:ab0 P w K mg base gb 1 VU)(Fd:ab0 P w K mg base cC 227 (LV True 56))(F:Own K mg jE)(T:Txt K mg):ab0 P w K mg base jE 228 VX:=by
 show F.d (nos:=0) g8 (λds R h=>?_) λf bp A outer s H E M hr=>#[_,(af (sS 1 g8.nd (aC hr Yu (aa (vd 0) ae)))
 (af (rL (n:=1000) (aC hr Fd (aa (vd 1) (aa ao ae))) (nk (m:=2) U (c7 (gN 2 g8.nd) (c7 (gN 3 g8.nd) ni))))
 (ak (aF (j0 (DN.de (aL (aa gh (aa (vd 2) ae)))) (fU mR xt U T.int (-()) (aa (dH bu cY (vd 3) (jS T.len (aa (vd 1) ae)) (ay _)) ae))))))),λds R h=>?_]
 .let(z,rfl,_):=h
  rfl
 .let(z,rfl,(hl,hc),q1,q2):=h;have hW:=Jk hl;have hcn:=Gz z;have sp:=nv (cn (dW (cd z)));have sz:=nv z;have eW:((wH z).map cd).map cn=wH z:=by rw[aal];exact (aa8 λa _=>gk a).trans (abA _)
  right;show#[hl,?_];right;show#[trivial,wH z,0,U,hW,aaw hcn (by cbv),?_];have no:(∀ t,aw 56 (wH z)≠some (t,[]))->R .bX:=λh=>q2 (Cj sz sp (n:=56) (by cbv) (by rw[eW];exact h));rw[aa1];show#[λt k e1 e2 e3=>?_,λe1 k e2=>?_]
  .by_cases hk:k=(wH z).length
   .let(y1,y2,y3):=AE sz sp (n:=56) (t:=t) (by rw[eW,e1,hk,aa3]);have:=q1 t y1 y2 y3;right;exact#[by rw[show (decide (fv (D.int (k:Int))=fv (D.int ((((wH z).map D.str).length:Nat):Int))))=decide _ from yA,decide_eq_true (by rw[Zy,hk]),if_pos U];exact oz,this]
   .have:=no λt h=>by
     rw[e1] at h;injection h with h;injection h with _ h;have:=congrArg List.length h;rw[Z3] at this;exact hk (by change k=_;have:(wH z).length - k=0:=this;cbv)
    right;exact#[by rw[show (decide (fv (D.int (k:Int))=fv (D.int ((((wH z).map D.str).length:Nat):Int))))=decide _ from yA,decide_eq_false (by rw[Zy];cbv),if_neg ()];exact bB,this]
  .have:=no λt h=>by rw[e1] at h;cases h
   right;show#[?_,this];by_cases hk:decide (fv (D.int (k:Int))=fv (D.int ((((wH z).map D.str).length:Nat):Int)))=true
   .rw[if_pos hk];exact oz
   .rw[if_neg hk];exact bB
def Gd:Fk->!Fk
 | .Try _ (.ExceptHandler _ _ lq _::_) _ _ _=>lq
 | _=>[]
def handOf(s:Fk):!Fk:=Gd ((aq s).getD 1 (.Pass #[0,0,0,0]))
structure L8(K:Frag)(mg:Str->Option AT)(aS a0 a1 a2 a3 a4 a5 a6 a7:AC):Prop where
 ve:mg "ValueError"=none
 nS:mg "SideError"=some (.ref aS)
 n0:mg "NoText"=some (.ref a0)
 n1:mg "NoProgram"=some (.ref a1)
 n2:mg "NoTerm"=some (.ref a2)
 n3:mg "NoValue"=some (.ref a3)
 n4:mg "NotFlat"=some (.ref a4)
 n5:mg "NoKind"=some (.ref a5)
 n6:mg "NoEdit"=some (.ref a6)
 n7:mg "NoRow"=some (.ref a7)
 t:Pj K a0
 em:PySem.W.exmOne K (.ref a0) (.ref a0)=some true
 rw:Hu K a0 "row"
 kO:kitAny K (.ref a0) ([a1,a2,a3,a4,a5,a6,a7].map AT.ref)=some false
 kS:kitOne K (.ref a0) (.ref aS)=some true
 kV:kitOne K (.ref a0) (.type "ValueError")=some true
theorem Sj(a:AC)(cv:V)(u:AT)(h1:RelV cv (.ref a))(h2:RelV cv u):u=.ref a:=by
 cases cv with
 | ref b=>cases (show AT.ref a=AT.ref b from h1);exact h2
 | bX=>exact nomatch (show AT.ref a=AT.none from h1)
 | bl b=>exact nomatch (show AT.ref a=AT.bool b from h1)
 | int b=>let(t,e):=h1;exact nomatch e
 | str b=>let(t,e):=h1;exact nomatch e
 | wG b=>let(t,e):=h1;exact nomatch e
 | Mg b=>let(t,e):=h1;exact nomatch e
 | ty n=>exact nomatch (show AT.ref a=AT.type n from h1)
theorem TJ(x:String)(cv:V)(u:AT)(h1:RelV cv (.type x))(h2:RelV cv u):u=.type x:=by
 cases cv with
 | ty b=>cases (show AT.type x=AT.type b from h1);exact h2
 | bX=>exact nomatch (show AT.type x=AT.none from h1)
 | bl b=>exact nomatch (show AT.type x=AT.bool b from h1)
 | int b=>let(t,e):=h1;exact nomatch e
 | str b=>let(t,e):=h1;exact nomatch e
 | wG b=>let(t,e):=h1;exact nomatch e
 | Mg b=>let(t,e):=h1;exact nomatch e
 | ref n=>exact nomatch (show AT.type x=AT.ref n from h1)
def Wh:abM:=λds R=>∃ z:Str,ds=[.str z]/\(z.length<=20000/\Gc.strOk z=true)/\Az (lX z)=none/\R (.bl true)
theorem O9{aS a0 a1 a2 a3 a4 a5 a6 a7:AC}(TE:L8 K mg aS a0 a1 a2 a3 a4 a5 a6 a7)(YT:C4 P w K mg base (cA P w) ft 11 (cE K (U7 a0)))(F:Own K mg fc)(T:Txt K mg):ab0 P w K mg base fc 12 Wh:=by
 show F.d (nos:=0) dq (λds R h=>?_) λf bp A outer s H E M hr=>#[_,(af (sS 1 dq.nd GH)
 (af (Lk U U hr YT (aa (vd 0) ae) (Oh (i:=2) U TE.n0 dq.nd U U Gp Jt))
 (ak (aF (vd 1))))),λds R h=>?_]
 .let(z,rfl,_):=h
  rfl
 .let(z,rfl,aD,hno,q):=h;have hand:∀ (D1:gD),(∀ x2 x3,D1.nx #[[.dat (.str z),.dat (.bl true),x2,x3],[]]) ->
    WR K #[.no,M,H] (Wx K (.ref a0) 2 (Lo (jO aV P w K mg base ["_law_text","_law_found","e","_law_other"] "_law_refused" (ag cO) f bp A outer s H E).wD (handOf cO)) MS) D1 #[[.dat (.str z),.dat (.bl false),.no,.no],[]] a0 [("row",.int 0)]:=by
   intro D1 hnx E' M1 M2 as O Hh H1 ea dd se gr L fa oO;show#[true,TE.em,oi ?_];have hD:=Ck fa;rcases fa with ⟨z,_⟩ | ⟨dx,hdx,hxf⟩
   .cases z
   subst hdx;have hs:∃ tb,(∀ ev:AT,vW ((jO aV P w K mg base ["_law_text","_law_found","e","_law_other"] "_law_refused" (ag cO) f bp A outer s H E).wD.hand ev) #[.no,M1,Hh] (handOf cO) tb)/\tb { nx:=λs'=>∃ x2 x3,s'=#[[.dat (.str z),.dat (.bl true),x2,x3],[]],rt:=λ_=>False } #[[.dat (.str z),.dat (.bl false),.dat (.hJ ea),.no],[]]:=by
    show#[_,λev=>(af (sS 3 dq.nd (O0 (Kc (cs:=[a1,a2,a3,a4,a5,a6,a7]) (Nat.le_of_ble_eq_true U) oO hD TE.t TE.kO (cq (Aw U) U T.uF PyProof.Rows.boot_isinstance (ax (pv 2) (ax (Ex (ax (dA (v:=.ref a1) U TE.n1 U) (ax (dA (v:=.ref a2) U TE.n2 U) (ax (dA (v:=.ref a3) U TE.n3 U) (ax (dA (v:=.ref a4) U TE.n4 U) (ax (dA (v:=.ref a5) U TE.n5 U) (ax (dA (v:=.ref a6) U TE.n6 U) (ax (dA (v:=.ref a7) U TE.n7 U) aM)))))))) aM)))) (jZ (a8 bU fX U T.uF PyProof.Rows.boot_isinstance (aa (CU oO hxf TE.t.toExC TE.rw U (zW U (pv 2) U)) (aa (dc (d:=.ty "bool") (cm (v:=.ty "bool") U T.bool (-()) U) U) ae))))))
 (ak (sS 1 dq.nd (iK (IH (c:=.ref aS) (cv:=.ref aS) U oO hD TE.t TE.kS (cq (wA U (Sj aS)) U T.uF PyProof.Rows.boot_isinstance (ax (pv 2) (ax (dA (v:=.ref aS) U TE.nS U) aM)))) (iK (IH (c:=.type "ValueError") (cv:=.ty "ValueError") U oO hD TE.t TE.kV (cq (wA U (TJ "ValueError")) U T.uF PyProof.Rows.boot_isinstance (ax (pv 2) (ax (cm (v:=.ty "ValueError") U TE.ve PyProof.Rows.Boot.«ValueError» rfl) aM)))) (iK (OL (vd 3)) (jZ (dH bu cY (CU oO hxf TE.t.toExC TE.rw U (zW U (pv 2) U)) ao (ay _))))))))),?_]
    right;rw[show decide (fv (D.int 0)=fv (D.int 0))=true from decide_eq_true U];exact#[_,_,U]
   let(tb,h1,h2):=hs;unfold Lo;show#[tS K #[.no,M1,Hh] tb,λev=>(h1 ev).ps,M1,_,as,_,(L.down λk d e=>by cases e).JW 2 (d:=.hJ ea) U,h2,?_];show#[λs' qP M' O' H' #[x2,x3,es] L' G'=>?_,λ_ _ _ _ _ z=>z.elim,λ_ _ _ _ _ z=>z.elim,λ_ _ _ _ z=>z.elim,λ_ _ _ _ _ z=>z.elim,λ_ _ _ _ _ _ _ z=>z.elim];subst es;exact se.nx _ qP M' _ H' (hnx .no x3) ((L.up L').Pr 2) (gr.trans G')
  right;show#[aD,?_];rw[hno];show hand _ λx2 x3=>?_;right;exact q
def Vz:abM:=λds R=>∃ z:Str,ds=[.str z]/\(z.length<=20000/\Gc.strOk z=true/\(cd z).count 40<=55)/\R (.bl true)
theorem MD{a0:AC}(Yv:ab0 P w K mg base jE 228 VX)(YM:ab0 P w K mg base fc 12 Wh)(Zh:C4 P w K mg base aV ft 11 (b5 K .no λds R=>U7 a0 ds R λ_ _=>False))(Vc:ab0 P w K mg base gp 226 (Vn 225))(YO:ab0 P w K mg base gf 3 Vt)(F:Own K mg gj)(T:Txt K mg):ab0 P w K mg base gj 229 Vz:=by
 show F.d (nos:=0) il (λds R h=>?_) λf bp A outer s H E M hr=>#[_,(af (sS 1 il.nd (aC hr Yv (aa (vd 0) ae)))
 (af (cD (aH mB qX (vd 1) gh (ay _))
 (ak (aF (aC hr YM (aa (vd 0) ae))))
 aP)
 (af (sS 2 il.nd (aC hr Zh (aa (vd 0) ae)))
 (ak (aF (iK (aC hr Vc (aa (vd 2) (aa (vd 1) ae))) (jZ (dH bu cY (aC hr YO (aa (vd 2) ae)) (vd 0) (ay _))))))))),λds R h=>?_]
 .let(z,rfl,_):=h
  rfl
 .let(z,rfl,(h1,h2,h3),q):=h;have hsz:=aK;right;show#[#[h1,h3],λt e1 e2 e3=>?_,λe1=>?_]
  .have hnn:iq (toD t)=false:=by
    cases t with
    | node f ks =>
     change iq (Bs f (toDs ks))=false;cases f<;>rfl
   have hT:t.T.length<=20000:=by rw[e3];exact h1
   have hdp:iw (toD t)<=224:=by
    have a:=Co t e2;have b:=sL t.size t (ZC _) e2;rw[e3] at b;cbv
   right;show aO hnn (λh=>nomatch h) λ_=>?_;right;show#[#[h1,h2],?_];rw[e1];right;show#[#[B7 t e2,hdp],?_];right;show#[#[e2,hT],?_];rw[e3];right;rw[show decide (fv (D.str (cn (cd z)))=fv (D.str z))=true from decide_eq_true (by rw[gk])];exact q
  .right;exact#[#[h1,h2],e1,q]
theorem Bb{ws:!Str}:(ws.map D.str).all iF=true:=by
 rw[abv];exact ZW.mpr λ_ _=>rfl
theorem Gq{ws:!Str}:(ws.map D.str).map fv=ws.map V.str:=by
 rw[aal]
 rfl
theorem fO{zs:!Str}{r:Int}(h0:0<=r)(h1:r < zs.length):∃ z∈zs,kW (zs.map D.str) r=some (.str z):=by
 have hj:r.toNat < zs.length:=by cbv
 show#[zs[r.toNat],List.getElem_mem hj,?_];have e:(r.toNat:Int)=r:=aa6 h0;have q:=gu (xs:=zs.map D.str) (j:=r.toNat) (v:=.str zs[r.toNat]) (by simp[hj]);rw[e] at q;exact q
theorem v7:∀ (ys:!D),(∀ y∈ys,∃ ch,(97<=ch/\ch<=122)/\y=D.str #[#v[ch]])->∃ cs:!Nat,ys=(cs.map λc=>(#[#v[c]]:Str)).map D.str/\(∀ c∈cs,97<=c/\c<=122)/\cs.length=ys.length
 | [],_=>#[[],U,λ_ h=>absurd h (by simp),U]
 | y::ys,h=>by
  let(ch,hc,e):=h y Zx;let(cs,e2,h2,h3):=v7 ys λz hz=>h z (Zw _ hz);subst e;show#[ch::cs,by rw[e2];simp,λc hm=>?_,by simp[h3]];rcases ZD.mp hm with rfl | hm
  .exact hc
  .exact h2 c hm
theorem Cf{d l:AC}(lU:C4 P w K mg base aV cg 1 (b5 K (bH d l) (nV d)))(F:Own K mg gm)(T:Txt K mg):C4 P w K mg base aV gm 2 (b5 K (bH d l) (Ew d)):=by
 show F.d (nos:=1) aY (λds R h=>?_) λf bp A outer s H E M hr=>?_
 .let(m,rfl,_):=h
  rfl
 have hb:aq b7=uY (aq b7) 6 (fA ((aq b7).getD 6 fu)):=rfl;have ha:iX (fA ((aq b7).getD 6 fu))=true:=rfl;have hz:mZ (fA ((aq b7).getD 6 fu))=cj.near:=rfl;have hl3:(fA ((aq b7).getD 6 fu)).length=cj.near.length:=rfl;generalize fA ((aq b7).getD 6 fu)=es at hb ha hz hl3;have hn:(es.length<=1000:Bool)=true:=by rw[hl3];decide
 rw[hb];show#[_,(af (C2 (eT (i:=2) aY.nd U (Or.inr U) (DE.pe ah)))
 (af (sS 3 aY.nd (qB ah (aa (DN.de (nC ["_law_k"] [2,0] (pF U T.range (aa (bf hr lU (aa (vd 0) (aa ao ae))) ae)) (λ_ _ _ _=>(gM 0 ["_law_k","_law_letters","_law_deal_here"])) (λ_ _ _ _=>i7)
 (λ_ _ _ _=>(xX qD yS (vd 1) (bf hr lU (aa (vd 2) (aa ao ae))) (λ_ _=>rfl))))) ae)))
 (af (sS 4 aY.nd (bf hr lU (aa (vd 0) (aa (bR bD f9 (a8 bx kj U T.len aaf (aa (vd 3) ae)) ao) ae))))
 (af (sS 5 aY.nd (bf hr lU (aa (vd 0) (aa ao ae))))
 (af (sN 0 6 aY.nd (aL ae))
 (af (sF (pF U T.range (aa (vd 1) ae)) (gN 7 aY.nd)
 (af (sS 8 aY.nd (xX qD yS (vd 2) (bR gz QE (bR bD f9 (vd 5) (bR j7 QE ao (vd 7))) ao) (λ_ _=>rfl)))
 (af (sS 9 aY.nd (bR aJ cB (bR aJ cB (bR aJ cB (bR aJ cB (fg (vd 3) bw (bb (vd 4))) (vd 8)) (fg (vd 3) (bb (vd 4)) bw)) (bR o8 Dc ah (bR gz QE (vd 7) ao))) (bR o8 Dc ah (bR wb QE (vd 7) ao))))
 (af (cD (aH jz okIn (vd 9) (bZ (aa ah (aa ah (aa ah (aa ah (aa ah (aa ah (aa ah ae)))))))) U)
 (ak (sS 9 aY.nd (bR aJ cB (vd 9) ah)))
 aP)
 (af (cD (aH jz okIn (vd 9) (bZ (aa ah (aa ah (aa ah (aa ah (aa ah (aa ah ae))))))) U)
 (ak (sS 9 aY.nd (bR aJ cB (vd 9) ah)))
 aP)
 (ak (EO 6 (aa (vd 9) ae))))))))
 (af (sS 10 aY.nd (DN.de (aL (kH ha hz hl3) hn)))
 (af (sS 9 aY.nd (j0 (vd 10) (bf hr lU (aa (vd 0) (aa ao ae)))))
 (af (cD (DW.dt (mW (aH bu cY (bf hr lU (aa (vd 0) (aa ao ae))) ao (ay _)) (jG (Kp lb (vd 9) (pv 6) U))))
 (ak (yO (xY (DE.pe (vd 9)) (CD (pv 6) (DE.pe (bf hr lU (aa (vd 0) (aa (vd 1) ae)))) set_list))))
 aP)
 (ak (aF (JU (pv 6))))))))))))),λds R h=>?_]
 .let(m,rfl,(hm0,hm1),q):=h;trivial;show#[#[by decide,by decide],λr r0 r1=>?_];show#[r,U,#[by cbv,by cbv],?_];show pV (λy=>∃ ch,(97<=ch/\ch<=122)/\y=D.str #[#v[ch]]) _ (λx hx k hk=>?_) λys hyl hyp=>?_
  .refine#[_,U,_,U,_,U,#[by decide,by decide],λa a0 a1=>?_];exact#[_,_,_,U,U,by decide+kernel,yW a0 a1,hk _ _ #[_,#[by cbv,by cbv],U] rfl]
  let(cs,e1,hcs,hcl):=v7 ys hyp;subst e1;have hcl':cs.length<=4:=by
   have:(fR 0 r.toNat).length=r.toNat:=by simp[fR]
   rw[hcl,hyl,this];cbv
  show#[cs.map λc=>(#[#v[c]]:Str),U,?_,?_]
  .rw[cj.vq,Zy];change cs.length+cs.length * 0<=16777216;cbv
  have hcore:(Txt.join ("":Str) (cs.map λc=>(#[#v[c]]:Str))).length<=4:=by
   have:=cj.join_ones cs;cbv
  have hlw:Lw (Txt.join ("":Str) (cs.map λc=>(#[#v[c]]:Str))):=λc hc=>by
   rw[vw] at hc;exact hcs c hc
  generalize Txt.join ("":Str) (cs.map λc=>(#[#v[c]]:Str))=core at hcore hlw;have hsz:(1000:Nat)<=FB:=by decide
  show#[_,U,_,U,_,U,by omega,_,_,U,U,_,U,#[by omega,by omega],λat_' a0 a1=>?_];show#[_,U,_,U,#[by decide,by decide],λtn t0 t1=>?_];show#[#[U,U],_,U,m,U,#[by cbv,by cbv],?_];have h2s:=An (x:=core) (i:=at_') a0 (by cbv);have hL1:=hlw.slice none (some at_');have hL2:=hlw.slice (some at_') none;generalize As:Txt.slice core none (some at_')=pre at h2s hL1;generalize hpost:Txt.slice core (some at_') none=post at h2s hL2;show lV (λxs s=>∃ (ws:!Str) (a b e:Sl),(∀ (i:Nat) (x:D),xs[i]?=some x->x=D.int ((ws.length+i:Nat):Int))/\ws.length+xs.length=m.toNat/\vt pre.cps.toList post.cps.toList tn.toNat ws/\s=#[[.dat (.hJ d),.dat (.int m),.dat (.str cj.P9),.dat (.str core),.dat (.int at_'),.dat (.int tn),.own 0,a,b,e,.no],[some (.lst (ws.map D.str))]]) ?_ ?_ _ _ #[[],.no,.no,.no,?_,?_,λ_ _ h=>absurd h (by simp),U]
  .rintro s ⟨ws,a,b,e,h1,h2,h3,rfl⟩
   replace h2:ws.length=m.toNat:=h2
   trivial;show#[#[by decide,by decide],λr r0 r1=>?_];let(z,hz2,ez):=fO (zs:=cj.near) r0 r1;have hzw:=FE z hz2;show#[_,_,_,U,U,ez,?_];show#[_,U,_,U,#[by decide,by decide],λr2 r20 r21=>?_];show#[#[U,U,U],_,U,?_];show aO U (λ_=>?_) λ_=>?_
   .refine#[_,U,0,_,U,U,#[U,Bb],_,U,?_];show aO U (λhni=>?_) λ_=>?_
    .refine#[_,U,0,U,_,U,_,U,_,U,#[by cbv,by cbv],λr3 r30 r31=>?_];have hj:zC (ws.map D.str).length r3=some r3.toNat:=by
      rw[Zy];unfold zC;rw[if_pos (by cbv),if_pos (by cbv)]
     show#[_,_,_,U,U,hj,?_];show .inr #[0,_,U,U,?_];change R (.lst ((ws.map D.str).set r3.toNat (.str z)));rw[<- List.map_set];have hnz:z∉ws:=λhm=>by
      replace hni:(not (yU (.str z) ((ws.map D.str).map fv)))=true:=hni
      rw[Gq,dj,decide_eq_true hm] at hni;cases hni
     show q _ (by simpa using h2) (rQ _ h3.nodup hnz) λy hy=>?_;rcases List.mem_or_eq_of_mem_set hy with hy | rfl
     .exact h3.nm y hy
     .exact hzw
    .exact .inr #[0,_,U,U,q ws h2 h3.nodup h3.nm]
   .exact .inr #[0,_,U,U,q ws h2 h3.nodup h3.nm]
  .rintro x xs s N ⟨ws,a,b,e,h1,h2,h3,rfl⟩ hN hE_;have hx:=h1 0 x U;subst hx
   replace h2:ws.length+(xs.length+1)=m.toNat:=h2
   have hk:ws.length < 60:=by cbv
   trivial;show#[.inl #[by decide,by decide],?_];show#[_,_,U,U,?_];show#[_,_,U,U,(show (0:Int) < 26 by decide),?_];have ea:=yW (r:=(tn+7 * ((ws.length+0:Nat):Int)) % 26) (aaW _ ()) (aaT _ ());show#[_,_,_,U,U,by decide+kernel,ea,?_];rw[show ((tn+7 * ((ws.length+0:Nat):Int)) % 26).toNat=(tn.toNat+7 * ws.length) % 26 by cbv];have uI:97<=97+(tn.toNat+7 * ws.length) % 26/\97+(tn.toNat+7 * ws.length) % 26<=122:=#[by cbv,by cbv];let(mx,ox):=Ag (c:=120) (n:=((ws.length+0:Nat):Int) % 2) (aaW _ ()) (by cbv);let(my,oy):=Ag (c:=121) (n:=((ws.length+0:Nat):Int) / 26) (by cbv) (by cbv);rw[show (((ws.length+0:Nat):Int) % 2).toNat=ws.length % 2 by cbv] at mx;rw[show (((ws.length+0:Nat):Int) / 26).toNat=ws.length / 26 by cbv] at my;generalize hmx:Txt.mul (#[#v[120]]:Str) (((ws.length+0:Nat):Int) % 2)=tx at mx;generalize hmy:Txt.mul (#[#v[121]]:Str) (((ws.length+0:Nat):Int) / 26)=ty at my;have lx:tx.length=ws.length % 2:=by rw[show tx.length=tx.cps.toList.length by simp[Str.length],mx,List.length_replicate]
   have ly:ty.length=ws.length / 26:=by rw[show ty.length=ty.cps.toList.length by simp[Str.length],my,List.length_replicate]
   have wx:Lw tx:=λc hc=>by rw[mx] at hc;have:=abt hc;cbv
   have wy:Lw ty:=λc hc=>by rw[my] at hc;have:=abt hc;cbv
   have hL:Lw (pre++(#[#v[97+(tn.toNat+7 * ws.length) % 26]]:Str)++post++tx++ty) :=
    (((hL1.app (λc hc'=>by simp at hc';subst hc';exact uI)).app hL2).app wx).app wy
   have uH:(pre++(#[#v[97+(tn.toNat+7 * ws.length) % 26]]:Str)++post++tx++ty).length<=8/\1<=(pre++(#[#v[97+(tn.toNat+7 * ws.length) % 26]]:Str)++post++tx++ty).length:=by
    rw[cj.cp,cj.cp,cj.cp,cj.cp,cj.ju];cbv
   have hcp:(pre++(#[#v[97+(tn.toNat+7 * ws.length) % 26]]:Str)++post++tx++ty).cps.toList=wl pre.cps.toList post.cps.toList tn.toNat ws.length 0:=by
    rw[lr,lr,lr,lr,mx,my];simp[wl]
   show#[_,U,_,U,_,U,_,U,by cbv,?_];rw[As];show#[_,U,_,_,U,U,by rw[cj.ju];cbv,?_];show#[_,U,_,U,_,U,_,U,by cbv,?_];rw[hpost];show#[_,_,U,U,by rw[cj.cp,cj.ju];cbv,?_];show#[_,U,_,_,U,U,(show (0:Int) < 2 by decide),?_];show#[_,_,U,U,ox,?_];rw[show Txt.mul (Str.ofString "x") (((ws.length+0:Nat):Int) % 2)=tx from hmx];show#[_,_,U,U,by rw[cj.cp,cj.cp,cj.ju];cbv,?_];show#[_,U,_,_,U,U,#[by decide,by decide],?_];show#[_,_,U,U,oy,?_];rw[show Txt.mul (Str.ofString "y") (((ws.length+0:Nat):Int) / 26)=ty from hmy];show#[_,_,U,U,by rw[cj.cp,cj.cp,cj.cp,cj.ju];cbv,?_];generalize pre++(#[#v[97+(tn.toNat+7 * ws.length) % 26]]:Str)++post++tx++ty=wd at hL uH hcp;have hLq:Lw ("q":Str):=by decide+kernel
   have Wi:("q":Str).length=1:=rfl;have hcq:(wd++("q":Str)).cps.toList=wl pre.cps.toList post.cps.toList tn.toNat ws.length 1:=by
    rw[lr,hcp];simp[wl]
    rfl
   have fin:∀ (u:Str) (a b:Sl) (e:Nat),Nm u->u.cps.toList=wl pre.cps.toList post.cps.toList tn.toNat ws.length e->N.nx #[[.dat (.hJ d),.dat (.int m),.dat (.str cj.P9),.dat (.str core),.dat (.int at_'),.dat (.int tn),.own 0,a,b,.dat (.str u),.no],[some (.lst (ws.map D.str++[D.str u]))]]:=λu a b e hu he=>by
    show hN _ #[ws++[u],a,b,.dat (.str u),λi z hz=>?_,?_,h3.snoc hu he,by simp]
    .have:=h1 (i+1) z hz;rw[this];simp;cbv
    .rw[ZE];simp;cbv
   have Dv:(ws.map D.str).length < FB:=by
    rw[Zy];cbv
   show#[_,U,?_];show#[_,.inr U,#[U,U],_,U,?_];show aO (b':=yU (.str wd) (nU.map V.str)) U (λc1=>?_) λc1=>?_
   .rw[dj] at c1;have c1:=Ff wd (of_decide_eq_true c1);show#[_,U,_,_,U,U,by cbv,?_];show#[_,U,?_];show#[_,.inr U,#[U,U],_,U,?_];show aO (b':=yU (.str (wd++("q":Str))) (kK.map V.str)) U (λc2=>?_) λc2=>?_
    .rw[dj] at c2;exact absurd (of_decide_eq_true c2) c1.2.1
    .have nm:Nm (wd++("q":Str)):=#[hL.app hLq,by rw[cj.cp];cbv,by rw[cj.cp];cbv,c1.1,c1.2.1];exact#[0,_,U,U,U,_,U,_,U,_,_,U,U,Dv,fin _ _ _ 1 nm hcq]
   .rw[dj] at c1;have c1:=of_decide_eq_false c1;show#[_,U,?_];show#[_,.inr U,#[U,U],_,U,?_];show aO (b':=yU (.str wd) (kK.map V.str)) U (λc2=>?_) λc2=>?_
    .rw[dj] at c2;have c2:=FK wd (of_decide_eq_true c2);have nm:Nm (wd++("q":Str)):=#[hL.app hLq,by rw[cj.cp];cbv,by rw[cj.cp];cbv,c2.1,c2.2.1];show#[_,U,_,_,U,U,by cbv,?_];exact#[0,_,U,U,U,_,U,_,U,_,_,U,U,Dv,fin _ _ _ 1 nm hcq]
    .rw[dj] at c2;exact#[0,_,U,U,U,_,U,_,U,_,_,U,U,Dv,fin _ _ _ 0 #[hL,uH.2,uH.1,c1,of_decide_eq_false c2] hcp]
  .intro i x hx;unfold fR at hx;rw[Z8] at hx;let(j,hj,rfl):=ZN.mp hx;let(_,e):=ZF.mp hj;simp at e;subst e;simp
  .simp[fR]
def Tx(c L:Nat)(z:Str):Prop:=z.length<=L/\(∀ x∈cd z,x < 128)/\(cd z).count 40<=c
noncomputable instance {c L:Nat} {z:Str}:Decidable (Tx c L z):=inferInstanceAs (Decidable (_/\_/\_))
theorem Tx.ok{c L:Nat}{z:Str}(h:Tx c L z):Gc.strOk z=true:=tF.mpr λx hx=>decide_eq_true (Nat.lt_trans (h.2.1 x hx) ())
theorem Tx.up{c L c' L':Nat}{z:Str}(h:Tx c L z)(hc:c<=c')(hL:L<=L'):Tx c' L' z:=#[ZH h.1 hL,h.2.1,ZH h.2.2 hc]
def JT:!Str:=[""," ","a","7","07","00","0","-1","+1","1000000","999999","1_0","a b","(a)","((+ a b))"]
def IU:!Str:=JT++(["(+ a b","+ a b)","(+ a)","(+ a b c)","(+  a b)","( + a b)","(+ a b )","(+a b)","(/ a b)"]:!Str)++(["()","(",")","(let 1 a b)","(let a b)","(let number a b)","(make)","(make a)","(make 1)"]:!Str)++(["(make a b","(ask a)","(ask a b)","(ask 1 b c)","(ask a 1)","(case a to b)","(case a b)"]:!Str)++(["(case a to 1)","(new number)","(new 1)","(new a | b)","(new a | b :)","(new a | : b)"]:!Str)++(["(new a b : c)","(new a | b : c d)","(case a to number | b c : d |)","(zero a b)"]:!Str)++(["(zero a b c d)","let","to","number","new","|",":"]:!Str)
theorem Ho:∀ z∈IU,Tx 2 31 z:=by
 have:IU.all (λz=>decide (Tx 2 31 z))=true:=by decide+kernel
 exact λz hz=>of_decide_eq_true (ZW.mp this z hz)
def BL:!Str:=["","|",":","to","made","(",")","(+","a)","a))","(make","(new","number","0","00","x","(zero"]
theorem G7:∀ z∈BL,Tx 1 6 z:=by
 have:BL.all (λz=>decide (Tx 1 6 z))=true:=by decide+kernel
 exact λz hz=>of_decide_eq_true (ZW.mp this z hz)
def Vh(d:AC):abM:=λds R=>ds=[.hJ d]/\∀ z,Tx 2 31 z->R (.str z)
theorem Nr{d l:AC}(lU:C4 P w K mg base aV cg 1 (b5 K (bH d l) (nV d)))(F:Own K mg jF)(T:Txt K mg):C4 P w K mg base aV jF 2 (b5 K (bH d l) (Vh d)):=by
 show F.d (nos:=0) cZ (λds R h=>?_) λf bp A outer s H E M hr=>?_
 .let(rfl,_):=h
  rfl
 have hb:aq dB=uY (aq dB) 0 (fA ((aq dB).getD 0 fu)):=rfl;have ha:iX (fA ((aq dB).getD 0 fu))=true:=rfl;have hz:mZ (fA ((aq dB).getD 0 fu))=JT:=rfl;have hl3:(fA ((aq dB).getD 0 fu)).length=JT.length:=rfl;generalize fA ((aq dB).getD 0 fu)=es at hb ha hz hl3;have hn:(es.length<=1000:Bool)=true:=by rw[hl3];decide
 rw[hb];show#[_,(af (sS 1 cZ.nd (DN.de (aL (kH ha hz hl3) hn)))
 (af (sS 1 cZ.nd (DN.de (bJ aX a9 (vd 1) (DN.de (aL (aa ah (aa ah (aa ah (aa ah (aa ah (aa ah (aa ah (aa ah (aa ah ae))))))))))))))
 (af (sS 1 cZ.nd (DN.de (bJ aX a9 (vd 1) (DN.de (aL (aa ah (aa ah (aa ah (aa ah (aa ah (aa ah (aa ah (aa ah (aa ah ae))))))))))))))
 (af (sS 1 cZ.nd (DN.de (bJ aX a9 (vd 1) (DN.de (aL (aa ah (aa ah (aa ah (aa ah (aa ah (aa ah (aa ah ae))))))))))))
 (af (sS 1 cZ.nd (DN.de (bJ aX a9 (vd 1) (DN.de (aL (aa ah (aa ah (aa ah (aa ah (aa ah (aa ah ae)))))))))))
 (af (sS 1 cZ.nd (DN.de (bJ aX a9 (vd 1) (DN.de (aL (aa ah (aa ah (aa ah (aa ah ae)))))))))
 (af (sS 1 cZ.nd (DN.de (bJ aX a9 (vd 1) (DN.de (aL (aa ah (aa ah (aa ah (aa ah (aa ah (aa ah (aa ah ae))))))))))))
 (ak (aF (j0 (vd 1) (bf hr lU (aa (vd 0) (aa (jS T.len (aa (vd 1) ae)) ae))))))))))))),λds R h=>?_]
 let(rfl,q):=h;have hsz:=aK;have n200:∀ {n:Nat},n<=200->n<=FB:=λh=>ZH h (by cbv);right;show#[n200 (-()),?_];right;show#[n200 (-()),?_];right;show#[n200 (-()),?_];right;show#[n200 (-()),?_];right;show#[n200 (-()),?_];right;show#[n200 (-()),?_];right;show#[#[by decide+kernel,by decide+kernel],λr r0 r1=>?_];let(z,hz,ez):=fO (zs:=IU) r0 (by exact r1);exact#[_,_,_,U,U,ez,q z (Ho z hz)]
def VN(d:AC):abM:=λds R=>∃ ws:!Str,ds=[.hJ d,.lst (ws.map .str)]/\(ws≠[]/\ws.length<=100000)/\∀ z,z∈ws\/Tx 1 6 z->R (.str z)
theorem Ot{d l:AC}(lU:C4 P w K mg base aV cg 1 (b5 K (bH d l) (nV d)))(F:Own K mg dG)(T:Txt K mg):C4 P w K mg base aV dG 2 (b5 K (bH d l) (VN d)):=by
 show F.d (nos:=0) gi (λds R h=>?_) λf bp A outer s H E M hr=>?_
 .let(ws,rfl,_):=h
  rfl
 have hb:aq aW=uY (aq aW) 0 (fA ((aq aW).getD 0 fu)):=rfl;have ha:iX (fA ((aq aW).getD 0 fu))=true:=rfl;have hz:mZ (fA ((aq aW).getD 0 fu))=BL:=rfl;have hl3:(fA ((aq aW).getD 0 fu)).length=BL.length:=rfl;generalize fA ((aq aW).getD 0 fu)=es at hb ha hz hl3;have hn:(es.length<=1000:Bool)=true:=by rw[hl3];decide
 rw[hb];show#[_,(af (sS 2 gi.nd (DN.de (aL (kH ha hz hl3) hn)))
 (ak (aF (j0 (DN.de (aL (aa (j0 (vd 2) (bf hr lU (aa (vd 0) (aa ao ae)))) (aa (j0 (vd 1) (bf hr lU (aa (vd 0) (aa (jS T.len (aa (vd 1) ae)) ae)))) ae)))) (bf hr lU (aa (vd 0) (aa ao ae))))))),λds R h=>?_]
 let(ws,rfl,(hw1,hw2),q):=h;have hsz:=aK;have hw0:0 < ws.length:=abk.mpr hw1;right;show#[#[by decide,by decide],λr r0 r1=>?_];let(z1,hz1,ez1):=fO (zs:=BL) r0 (by exact r1);show#[_,_,_,U,U,ez1,?_];right;show#[#[by rw[Zy];omega,by rw[Zy];omega],λr r0 r1=>?_];let(z2,hz2,ez2):=fO (zs:=ws) r0 (by rw[Zy] at r1;exact r1);show#[_,_,_,U,U,ez2,?_];right;show#[#[by decide,by decide],λr r0 r1=>?_];let(z,hz,ez):=fO (zs:=[z1,z2]) r0 (by exact r1);show#[_,_,_,U,U,ez,q z ?_];rcases ZD.mp hz with rfl | hz
 .exact .inr (G7 _ hz1)
 .rw[ZI.mp hz];exact .inl hz2
theorem AN{α:Type}{f:α->D}{l:!α}{i j:Nat}:cutD (l.map f) none (some (i:Int))=(l.take i).map f/\cutD (l.map f) (some (i:Int)) none=(l.drop i).map f/\cutD (l.map f) (some (i:Int)) (some (j:Int))=((l.take j).drop i).map f:=by
 show#[?_,?_,?_]
 .rw[fY,HT.uU,HT.jx,aa1,Nat.sub_zero]
  congr 1
  rw[Nat.min_comm,<- List.take_take,aaF (by rw[aak];cbv)]
 .rw[fY,HT.uU,HT.jx]
  congr 1
  rw[aaF (by rw[Z3];cbv)];by_cases h:i<=l.length
  .rw[abJ h]
  .rw[Nat.min_eq_right (by cbv),aa3,aaS (by cbv)]
 .rw[fY,HT.jx,HT.jx]
  congr 1
  rw[List.drop_take];by_cases h:i<=l.length
  .rw[abJ h];by_cases h2:j<=l.length
   .rw[abJ h2]
   .rw[Nat.min_eq_right (by cbv),aaF (by rw[Z3];cbv),aaF (by rw[Z3];cbv)]
  .rw[Nat.min_eq_right (show l.length<=i by cbv),aa3,aaS (show l.length<=i by cbv),List.take_nil,List.take_nil]
theorem Ht{xs:!D}{r:Int}(h0:0<=r)(h1:r < xs.length):∃ x∈xs,kW xs r=some x:=by
 have hj:r.toNat < xs.length:=by cbv
 show#[xs[r.toNat],List.getElem_mem hj,?_];have e:(r.toNat:Int)=r:=aa6 h0;have q:=gu (xs:=xs) (j:=r.toNat) (v:=xs[r.toNat]) (by simp[hj]);rw[e] at q;exact q
abbrev sm(f:Str->Nat)(l:!Str):Nat:=(l.map f).sum
theorem eU{f:Str->Nat}{a b:!Str}:sm f (a++b)=sm f a+sm f b:=by
 change ((a++b).map f).sum=_;rw[ZO,abn]
theorem oY{f:Str->Nat}{l:!Str}(i:Nat):sm f (l.take i)+sm f (l.drop i)=sm f l:=by rw[<- eU,abG]
theorem JB{f:Str->Nat}{l:!Str}:sm f l.reverse=sm f l:=by
 change (l.reverse.map f).sum=_;rw[List.map_reverse,List.sum_reverse]
theorem GO{f:Str->Nat}{l:!Str}(i:Nat):sm f (l.drop (i+1))<=sm f (l.drop i):=by
 have:=oY (f:=f) (l:=l.drop i) 1;rw[List.drop_drop] at this;cbv
def yl(ws:!Str)(a:Nat)(one:Str):!(!Str):=[ws.take a++[one]++ws.drop (a+1),ws.take a++[one]++ws.drop a,ws.take a++ws.drop (a+1),ws.take (a+1)++ws.drop a,ws.take a++((ws.take (a+2)).drop a).reverse++ws.drop (a+2)]
theorem zQ{ws:!Str}{a:Nat}{one:Str}{f:Str->Nat}{c:Nat}(h:f one<=sm f ws+c):∀ v∈yl ws a one,sm f v<=2 * sm f ws+c:=λv hv=>by
 have h1:=oY (f:=f) (l:=ws) a;have h2:=oY (f:=f) (l:=ws) (a+1);have h3:=oY (f:=f) (l:=ws) (a+2);have h4:=GO (f:=f) (l:=ws) a;have h5:sm f ((ws.take (a+2)).drop a)+sm f (ws.take a)=sm f (ws.take (a+2)):=by
  have:=oY (f:=f) (l:=ws.take (a+2)) a;rw[List.take_take,abJ (by cbv)] at this;cbv
 have e1:sm f [one]=f one:=by change ([one].map f).sum=_;simp
 unfold yl at hv;simp only[List.mem_cons,List.not_mem_nil,or_false] at hv;rcases hv with rfl | rfl | rfl | rfl | rfl
 .rw[eU,eU,e1];cbv
 .rw[eU,eU,e1];cbv
 .rw[eU];cbv
 .rw[eU];cbv
 .rw[eU,eU,JB];cbv
theorem Dp{ws:!Str}{a:Nat}{one:Str}:∀ v∈yl ws a one,∀ x∈v,x∈ws\/x=one:=λv hv x hx=>by
 unfold yl at hv;simp only[List.mem_cons,List.not_mem_nil,or_false] at hv;rcases hv with rfl | rfl | rfl | rfl | rfl<;>simp only[List.mem_append,List.mem_cons,List.not_mem_nil,or_false,List.mem_reverse] at hx
 .rcases hx with (hx | hx) | hx
  .exact .inl (aap hx)
  .exact .inr hx
  .exact .inl (aao hx)
 .rcases hx with (hx | hx) | hx
  .exact .inl (aap hx)
  .exact .inr hx
  .exact .inl (aao hx)
 .rcases hx with hx | hx
  .exact .inl (aap hx)
  .exact .inl (aao hx)
 .rcases hx with hx | hx
  .exact .inl (aap hx)
  .exact .inl (aao hx)
 .rcases hx with (hx | hx) | hx
  .exact .inl (aap hx)
  .exact .inl (aap (aao hx))
  .exact .inl (aao hx)
theorem pS:∀ ws:!(!Nat),(ba ws).length<=(ws.map λx=>x.length+1).sum/\(ws≠[]->(ba ws).length+1=(ws.map λx=>x.length+1).sum)
 | []=>#[ZC _,λh=>absurd U h]
 | a::l=>by
  have e:(l.flatMap (32::·)).length=(l.map λx=>x.length+1).sum:=by
   induction l with
   | nil=>rfl
   | cons b l ih=>rw[ZA,ZE,ih,ZG,aaL];rfl
  have:(ba (a::l)).length=a.length+(l.map λx=>x.length+1).sum:=by
   change (a++l.flatMap (32::·)).length=_;rw[ZE,e]
  rw[this,ZG,aaL];exact#[by cbv,λ_=>by cbv]
abbrev fL(x:Str):Nat:=x.length+1
abbrev fC(x:Str):Nat:=(cd x).count 40
theorem HS{ws:!Str}:sm fL ws=((ws.map cd).map λx=>x.length+1).sum:=by
 change (ws.map fL).sum=_;rw[aal];exact congrArg List.sum (aa8 λa _=>by change a.length+1=(cd a).length+1;rw[aG])
theorem zu{ws:!Str}:sm fC ws=((ws.map cd).map λx=>x.count 40).sum:=by
 change (ws.map fC).sum=_;rw[aal]
 rfl
theorem rC{ws:!(!Nat)}{x:Nat}(h:x∈ba ws):x=32\/∃ w∈ws,x∈w:=by
 cases ws with
 | nil=>cases h
 | cons a l =>
  rcases ZR.mp h with h | h
  .exact .inr #[a,Zx,h]
  .let(b,hb,hx):=aaQ.mp h;rcases ZD.mp hx with hx | hx
   .exact .inl hx
   .exact .inr #[b,Zw _ hb,hx]
theorem rG{ws:!(!Nat)}{w:!Nat}{x:Nat}(hw:w∈ws)(hx:x∈w):x∈ba ws:=by
 cases ws with
 | nil=>cases hw
 | cons a l =>
  show ZR.mpr ?_;rcases ZD.mp hw with rfl | hw
  .exact .inl hx
  .exact .inr (aaQ.mpr #[w,hw,Zw _ hx])
theorem xw{f:Str->Nat}{x:Str}:∀ {ws:!Str},x∈ws->f x<=sm f ws
 | a::l,h=>by
  change f x<=((a::l).map f).sum;rw[ZG,aaL];rcases ZD.mp h with rfl | h
  .cbv
  .have:=xw (f:=f) h;have:f x<=(l.map f).sum:=this;cbv
theorem Hq{c L:Nat}{z one:Str}{a:Nat}(h:Tx c L z)(ho:one∈Txt.split z " "\/Tx 1 6 one):∀ v∈yl (Txt.split z " ") a one,Tx (2 * c+1) (2 * L+9) (Txt.join " " v)/\sm fL v<=2 * L+9:=λv hv=>by
 let(h1,h2,h3):=h;have sp:=nv z;have l1:sm fL (Txt.split z " ")=z.length+1:=by
  rw[HS,<- (pS _).2 sp.ne,sp.jn,aG]
 have l2:sm fC (Txt.split z " ")=(cd z).count 40:=by rw[zu,gI,sp.jn]
 have a1:fL one<=sm fL (Txt.split z " ")+7:=by
  rcases ho with ho | ho
  .exact ZH (xw ho) (by cbv)
  .have:=ho.1;change one.length+1<=_;cbv
 have a2:fC one<=sm fC (Txt.split z " ")+1:=by
  rcases ho with ho | ho
  .exact ZH (xw ho) (by cbv)
  .exact ZH ho.2.2 (by cbv)
 have b1:=zQ (a:=a) a1 v hv;have b2:=zQ (a:=a) a2 v hv;have ec:cd (Txt.join " " v)=ba (v.map cd):=kR v;show#[#[?_,λx hx=>?_,?_],by cbv]
 .have:(cd (Txt.join " " v)).length<=sm fL v:=by rw[ec,HS];exact (pS _).1
  rw[aG] at this;exact ZH this (by cbv)
 .rw[ec] at hx;rcases rC hx with rfl | ⟨w,hw,hx⟩
  .decide
  .let(y,hy,rfl):=Z5.mp hw;rcases Dp v hv y hy with hy | rfl
   .exact h2 x (by rw[<- sp.jn];exact rG (aa7 hy) hx)
   .rcases ho with ho | ho
    .exact h2 x (by rw[<- sp.jn];exact rG (aa7 ho) hx)
    .exact ho.2.1 x hx
 .rw[ec,<- gI,<- zu];cbv
def WD(d:AC):abM:=λds R=>∃ (z:Str) (c L:Nat),ds=[.hJ d,.str z]/\(Tx c L z/\L<=20000)/\∀ z',Tx (2 * c+1) (2 * L+9) z'->R (.str z')
theorem Qu{d l:AC}(lU:C4 P w K mg base aV cg 1 (b5 K (bH d l) (nV d)))(X2:C4 P w K mg base aV dG 2 (b5 K (bH d l) (VN d)))(F:Own K mg dF)(T:Txt K mg):C4 P w K mg base aV dF 3 (b5 K (bH d l) (WD d)):=by
 show F.d (nos:=0) bM (λds R h=>?_) λf bp A outer s H E M hr=>#[_,(af (sS 2 bM.nd (DN.de (sR (vd 1) (aa ah ae))))
 (af (sS 3 bM.nd (bf hr lU (aa (vd 0) (aa (jS T.len (aa (vd 2) ae)) ae))))
 (af (sS 4 bM.nd (bf hr X2 (aa (vd 0) (aa (vd 2) ae))))
 (af (sS 5 bM.nd (DN.de (aL (aa (DN.de (bJ aX a9 (DN.de (bJ aX a9 (DN.de (bK (vd 2) bw (bb (vd 3)))) (DN.de (aL (aa (vd 4) ae))))) (DN.de (bK (vd 2) (bb (bR bD f9 (vd 3) ao)) bw)))) (aa (DN.de (bJ aX a9 (DN.de (bJ aX a9 (DN.de (bK (vd 2) bw (bb (vd 3)))) (DN.de (aL (aa (vd 4) ae))))) (DN.de (bK (vd 2) (bb (vd 3)) bw)))) (aa (DN.de (bJ aX a9 (DN.de (bK (vd 2) bw (bb (vd 3)))) (DN.de (bK (vd 2) (bb (bR bD f9 (vd 3) ao)) bw)))) ae))))))
 (af (sS 5 bM.nd (DN.de (bJ aX a9 (vd 5) (DN.de (aL (aa (DN.de (bJ aX a9 (DN.de (bK (vd 2) bw (bb (bR bD f9 (vd 3) ao)))) (DN.de (bK (vd 2) (bb (vd 3)) bw)))) (aa (DN.de (bJ aX a9 (DN.de (bJ aX a9 (DN.de (bK (vd 2) bw (bb (vd 3)))) (DN.de (Hw (DN.de (bK (vd 2) (bb (vd 3)) (bb (bR bD f9 (vd 3) ao)))) jB)))) (DN.de (bK (vd 2) (bb (bR bD f9 (vd 3) ao)) bw)))) ae)))))))
 (ak (aF (qB ah (aa (j0 (vd 5) (bf hr lU (aa (vd 0) (aa ao ae)))) ae))))))))),λds R h=>?_]
 .let(z,c,L,rfl,_):=h
  rfl
 .let(z,c,L,rfl,(hz,hL),q):=h;have hsz:=aK;have sp:=nv z;have hz1:=hz.1;have wl:=(uz ((Txt.split z " ").map cd)).1;rw[sp.jn,Zy,aG] at wl;have wl:(Txt.split z " ").length<=100000:=ZH wl (by change z.length+1<=_;cbv);have wne:Txt.split z " "≠[]:=λe=>sp.ne (by rw[e];rfl);have w0:0 < (Txt.split z " ").length:=abk.mpr wne;have five:=@Hq c L z;right;show#[by cbv,by cbv,?_];generalize Txt.split z " "=ws at wl wne w0 five;right;show#[#[by rw[Zy];cbv,by rw[Zy];cbv],λa a0 a1=>?_];rw[Zy] at a1;obtain⟨a,rfl⟩:∃ k:Nat,a=k:=#[a.toNat,by cbv];right;show#[#[wne,wl],λone ho=>?_];have five:=five (one:=one) (a:=a) hz ho;have cl:∀ lo hi,(cutD (ws.map D.str) lo hi).length<=100000:=λlo hi=>by
   unfold cutD;rw[aak,Z3,Zy];cbv
  have k1:=cl none (some (a:Int));have k2:=cl (some (a:Int)) none;have k3:=cl none (some ((a:Int)+1));have k4:=cl (some ((a:Int)+1)) none;have k5:=cl (some (a:Int)) (some ((a:Int)+2));have k6:=cl (some ((a:Int)+2)) none;have e1:cutD (ws.map D.str) none (some (a:Int))=(ws.take a).map .str:=(AN (j:=0)).1;have e2:cutD (ws.map D.str) (some (a:Int)) none=(ws.drop a).map .str:=(AN (j:=0)).2.1;have e3:cutD (ws.map D.str) none (some ((a:Int)+1))=(ws.take (a+1)).map .str:=(AN (i:=a+1) (j:=0)).1;have e4:cutD (ws.map D.str) (some ((a:Int)+1)) none=(ws.drop (a+1)).map .str:=(AN (i:=a+1) (j:=0)).2.1;have e5:cutD (ws.map D.str) (some (a:Int)) (some ((a:Int)+2))=((ws.take (a+2)).drop a).map .str:=(AN (j:=a+2)).2.2;have e6:cutD (ws.map D.str) (some ((a:Int)+2)) none=(ws.drop (a+2)).map .str:=(AN (i:=a+2) (j:=0)).2.1;right;show#[by
   try simp only[List.length_append,List.length_cons,List.length_nil,List.length_reverse]
   cbv,?_]
  right;show#[by
   try simp only[List.length_append,List.length_cons,List.length_nil,List.length_reverse]
   cbv,?_]
  right;show#[by
   try simp only[List.length_append,List.length_cons,List.length_nil,List.length_reverse]
   cbv,?_]
  right;show#[by
   try simp only[List.length_append,List.length_cons,List.length_nil,List.length_reverse]
   cbv,?_]
  right;show#[by
   try simp only[List.length_append,List.length_cons,List.length_nil,List.length_reverse]
   cbv,?_]
  right;show#[by
   try simp only[List.length_append,List.length_cons,List.length_nil,List.length_reverse]
   cbv,?_]
  right;show#[by
   try simp only[List.length_append,List.length_cons,List.length_nil,List.length_reverse]
   cbv,?_]
  right;show#[by
   try simp only[List.length_append,List.length_cons,List.length_nil,List.length_reverse]
   cbv,?_]
  right;show#[by
   try simp only[List.length_append,List.length_cons,List.length_nil,List.length_reverse]
   cbv,?_]
  right;show#[#[by decide,by decide],λr r0 r1=>?_];rw[e1,e2,e3,e4,e5,e6];let(x,hx,ex):=Ht (xs:=(yl ws a one).map λv=>.lst (v.map D.str)) r0 (by exact r1);let(v,hv,rfl):=Z5.mp hx;let(v1,v2):=five v hv;show#[_,_,.lst (v.map D.str),U,U,?_,?_]
  .rw[<- ex];unfold yl;simp only[List.map_cons,List.map_nil,List.map_append,List.map_reverse,List.cons_append,List.nil_append]
  .right;show#[?_,q _ v1];have:(v.map λx=>x.length).sum+v.length * ((" ":Str)).length=sm fL v:=by
    change _+v.length * 1=_;rw[Nat.mul_one];clear v1 v2 hv hx ex
    induction v with
    | nil=>rfl
    | cons b v ih =>
     change (b.length+(v.map λx=>x.length).sum)+(v.length+1)=(b.length+1)+sm fL v;cbv
   cbv
open PySem.Builtin.Str in
theorem zU(l:!Nat):∀ m:Nat,(List.range m).filterMap (λk=>l[k]?)=l.take m
 | 0=>rfl
 | m+1=>by
  rw[List.range_succ,List.filterMap_append,zU l m,List.take_succ];rw[abi];cases l[m]?<;>rfl
open PySem.Builtin.Str in
theorem Cm{l:!Nat}{lo u:Option Int}{i m:Nat}(h:strSliceIndices lo u 1 l.length=(List.range m).map (·+i))(hm:i+m<=l.length):Txt.slice (cn l) lo u=cn ((l.drop i).take m):=by
 unfold Txt.slice;rw[d4,h];split
 .rename_i e
  have e2:m=l.length:=by simpa using e
  have e3:i=0:=by cbv
  subst e3;rw[aa1,aaF (by cbv)]
 .refine g9 ?_;change ((List.range m).map (·+i)).filterMap (l.toArray[·]?)=_;rw[List.filterMap_map];rw[show ((l.toArray[·]?)∘(·+i))=λk=>(l.drop i)[k]? from funext λk=>by simp[Nat.add_comm]];rw[zU]
open PySem.Builtin.Str in
theorem xE{a b:Nat}(h:a<=b):sliceRange (a:Int) (b:Int) 1=(List.range (b - a)).map (·+a):=by
 have hc:(if (a:Int) < (b:Int) then ((b:Int) - a+1 - 1) / 1 else 0).toNat=b - a:=by
  split
  .rw[Int.ediv_one];cbv
  .cbv
 change (List.range (if (a:Int) < (b:Int) then ((b:Int) - a+1 - 1) / 1 else 0).toNat).map (λ(k:Nat)=>((a:Int)+1 * (k:Int)).toNat)=_;rw[hc];show aa8 λk _=>?_;cbv
open PySem.Builtin.Str in
theorem Hx{l:!Nat}{i:Nat}:Txt.slice (cn l) (some (i:Int)) none=cn (l.drop i):=by
 by_cases hi:i<=l.length
 .rw[Cm (i:=i) (m:=l.length - i) ?_ (by cbv),List.take_of_length_le (by simp)];change sliceRange (max 0 (min (i:Int) (l.length:Nat))) ((l.length:Nat):Int) 1=_;rw[show max 0 (min (i:Int) ((l.length:Nat):Int))=(i:Int) by cbv];exact xE hi
 .rw[Cm (i:=l.length) (m:=0) ?_ (by cbv),List.take_zero,aaS (by cbv)];change sliceRange (max 0 (min (i:Int) (l.length:Nat))) ((l.length:Nat):Int) 1=_;rw[show max 0 (min (i:Int) ((l.length:Nat):Int))=((l.length:Nat):Int) by cbv];rw[xE (ZC _),Nat.sub_self]
open PySem.Builtin.Str in
theorem P7{l:!Nat}{i:Nat}(hi:i<=l.length):Txt.slice (cn l) none (some (i:Int))=cn (l.take i):=by
 rw[Cm (i:=0) (m:=i) ?_ (by cbv),aa1];change sliceRange ((0:Nat):Int) (max 0 (min (i:Int) (l.length:Nat))) 1=_;rw[show max 0 (min (i:Int) ((l.length:Nat):Int))=((i:Nat):Int) by cbv];exact xE (Z1 _)
def C6(l:!Nat)(a:Nat)(g:Nat):!Str:=[cn (l.take a)++#[#v[g]]++cn (l.drop a),cn (l.take a)++cn (l.drop (a+1)),cn (l.take a)++#[#v[g]]++cn (l.drop (a+1))]
theorem BW{c L:Nat}{z:Str}{a g:Nat}(h:Tx c L z)(hg:g < 128):∀ x∈C6 (cd z) a g,Tx (c+1) (L+1) x:=by
 let(h1,h2,h3):=h;have key:∀ (m:!Nat),m.length<=1->(∀ x∈m,x < 128)->∀ j,a<=j->∀ x:Str,cd x=(cd z).take a++m++(cd z).drop j->Tx (c+1) (L+1) x:=λm hm hm2 j hj x e=>by
  have e2:(cd z).take a++(cd z).drop a=cd z:=abG _ _;have e3:(cd z).drop j=((cd z).drop a).drop (j - a):=by rw[List.drop_drop];congr 1;cbv
  have l2:=congrArg List.length e2;have c2:=congrArg (List.count 40) e2;rw[ZE,aG] at l2;rw[aas] at c2;have l3:((cd z).drop j).length<=((cd z).drop a).length:=by rw[e3,Z3];cbv
  have c3:((cd z).drop j).count 40<=((cd z).drop a).count 40:=by rw[e3];exact List.Sublist.count_le _ (List.drop_sublist _ _)
  have c4:m.count 40<=m.length:=List.count_le_length;show#[?_,λy hy=>?_,?_]
  .have:(cd x).length<=L+1:=by
    rw[e,ZE,ZE];have:(z.cps.size)=z.length:=rfl;cbv
   rw[aG] at this;exact this
  .rw[e] at hy;rcases ZR.mp hy with hy | hy
   .rcases ZR.mp hy with hy | hy
    .exact h2 y (aap hy)
    .exact hm2 y hy
   .exact h2 y (aao hy)
  .rw[e,aas,aas];cbv
 intro x hx;unfold C6 at hx;simp only[List.mem_cons,List.not_mem_nil,or_false] at hx;rcases hx with rfl | rfl | rfl
 .exact key [g] (Nat.le_refl _) (by simpa using hg) a (Nat.le_refl _) _ (by rw[b6,b6])
 .exact key [] (Nat.zero_le _) (by simp) (a+1) (by cbv) _ (by rw[b6,List.append_nil])
 .exact key [g] (Nat.le_refl _) (by simpa using hg) (a+1) (by cbv) _ (by rw[b6,b6])
theorem Ls{r:Int}(h0:0<=r)(h1:r < 10):∃ g,g < 128/\kW (" ()|:a0+Z\n":Str).cps.toList r=some g:=by
 have hn:∀ n:Fin 10,((" ()|:a0+Z\n":Str).cps.toList[n.val]?).any (λg=>decide (g < 128))=true:=by decide+kernel
 have hj:r.toNat < 10:=by cbv
 have e:(r.toNat:Int)=r:=aa6 h0;have h:=hn #[r.toNat,hj];cases hg:(" ()|:a0+Z\n":Str).cps.toList[r.toNat]? with
 | none=>rw[hg] at h;cases h
 | some g =>
  rw[hg] at h;show#[g,of_decide_eq_true h,?_];have q:=gu (xs:=(" ()|:a0+Z\n":Str).cps.toList) (j:=r.toNat) (v:=g) hg;rw[e] at q;exact q
theorem BF(x y:Str):(x++y).length=x.length+y.length:=by
 have:=congrArg List.length (b6 x y);rw[ZE,aG,aG,aG] at this;exact this
def Vs(d:AC):abM:=λds R=>∃ (z:Str) (c L:Nat),ds=[.hJ d,.str z]/\(Tx c L z/\L<=20000/\1<=c)/\∀ z',Tx (2 * c+1) (2 * L+31) z'->R (.str z')
theorem PN{d l:AC}(lU:C4 P w K mg base aV cg 1 (b5 K (bH d l) (nV d)))(Zc:C4 P w K mg base aV jF 2 (b5 K (bH d l) (Vh d)))(Zg:C4 P w K mg base aV dF 3 (b5 K (bH d l) (WD d)))(F:Own K mg fD)(T:Txt K mg):C4 P w K mg base aV fD 4 (b5 K (bH d l) (Vs d)):=by
 show F.d (nos:=0) dP (λds R h=>?_) λf bp A outer s H E M hr=>#[_,(af (sS 2 dP.nd (bf hr lU (aa (vd 0) (aa ao ae))))
 (af (sS 3 dP.nd (bf hr lU (aa (vd 0) (aa (bR bD f9 (a8 bx kj U T.len aaf (aa (vd 1) ae)) ao) ae))))
 (af (cD (aH bu cY (vd 2) ao (ay _))
 (ak (aF (bf hr Zc (aa (vd 0) ae))))
 aP)
 (af (cD (aH bu cY (vd 2) ao (ay _))
 (af (sS 4 dP.nd (xX qD yS ah (bf hr lU (aa (vd 0) (aa ao ae))) (λ_ _=>rfl)))
 (af (sS 5 dP.nd (DN.de (aL (aa (bR aJ cB (bR aJ cB (fg (vd 1) bw (bb (vd 3))) (vd 4)) (fg (vd 1) (bb (vd 3)) bw)) (aa (bR aJ cB (fg (vd 1) bw (bb (vd 3))) (fg (vd 1) (bb (bR bD f9 (vd 3) ao)) bw)) (aa (bR aJ cB (bR aJ cB (fg (vd 1) bw (bb (vd 3))) (vd 4)) (fg (vd 1) (bb (bR bD f9 (vd 3) ao)) bw)) ae))))))
 (ak (aF (j0 (vd 5) (bf hr lU (aa (vd 0) (aa ao ae))))))))
 aP)
 (ak (aF (bf hr Zg (aa (vd 0) (aa (vd 1) ae))))))))),λds R h=>?_]
 .let(z,c,L,rfl,_):=h
  rfl
 .let(z,c,L,rfl,(hz,hL,hc1),q):=h;have hsz:=aK;have hz1:=hz.1;right;show#[#[by decide,by decide],λway w0 w1=>?_];right;show#[by cbv,?_];right;show#[#[by cbv,by cbv],λa a0 a1=>?_];obtain⟨a,rfl⟩:∃ k:Nat,a=k:=#[a.toNat,by cbv];right;show aO (b':=decide (way=0)) yA (λ_=>?_) λ_=>?_
  .right;exact λz' hz'=>q z' (hz'.up (by cbv) (by cbv))
  show#[_,U,#[U,U,U],_,U,?_];show aO (b':=decide (way=1)) yA (λ_=>?_) λ_=>?_
  .right;show#[#[by decide,by decide],λr r0 r1=>?_];let(g,hg,eg):=Ls r0 r1;show#[_,_,g,U,U,ZH (show _<=10 by decide+kernel) (by cbv),eg,?_];have s1:Txt.slice z none (some (a:Int))=cn ((cd z).take a):=by
    have:=P7 (l:=cd z) (i:=a) (by rw[aG];change a<=z.length;cbv)
    rwa [gk] at this
   have s2:Txt.slice z (some (a:Int)) none=cn ((cd z).drop a):=by
    have:=Hx (l:=cd z) (i:=a)
    rwa [gk] at this
   have s3:Txt.slice z (some ((a:Int)+1)) none=cn ((cd z).drop (a+1)):=by
    have:=Hx (l:=cd z) (i:=a+1);rw[gk] at this;exact this
   have zl:(cd z).length=z.length:=aG z;have k1:(Txt.slice z none (some (a:Int))).length<=z.length:=by rw[s1,d4,aak];cbv
   have k2:(Txt.slice z (some (a:Int)) none).length<=z.length:=by rw[s2,d4,Z3];cbv
   have k3:(Txt.slice z (some ((a:Int)+1)) none).length<=z.length:=by rw[s3,d4,Z3];cbv
   have k4:(#[#v[g]]:Str).length=1:=rfl;have k5:(Txt.slice z none (some (a:Int))++#[#v[g]]).length=(Txt.slice z none (some (a:Int))).length+1:=by rw[BF];rfl
   right;show#[by cbv,?_];right;show#[by cbv,?_];right;show#[by cbv,?_];right;show#[by cbv,?_];right;show#[by cbv,?_];right;show#[by cbv,?_];right;show#[by cbv,?_];right;show#[by cbv,?_];right;show#[by cbv,?_];right;show#[by cbv,?_];right;show#[by cbv,?_];right;show#[#[by decide,by decide],λr r0 r1=>?_];let(y,hy,ey):=fO (zs:=C6 (cd z) a g) r0 (by exact r1);rw[s1,s2,s3];exact#[_,_,_,U,U,ey,q y ((BW hz hg y hy).up (by cbv) (by cbv))]
  .right;exact#[#[hz,hL],λz' hz'=>q z' (hz'.up (by cbv) (by cbv))]
def wt(x:Nat):Nat:=if x=78\/x=75 then 8 else 1
def Wt(l:!Nat):Nat:=(l.map wt).sum
theorem so{a b:!Nat}:Wt (a++b)=Wt a+Wt b:=by unfold Wt;rw[List.map_append,List.sum_append]
theorem pq(l:!Nat):l.length<=Wt l:=by
 induction l with
 | nil=>exact ZC _
 | cons a l ih =>
  change l.length+1<=wt a+Wt l;have:1<=wt a:=by unfold wt;split<;>cbv
  cbv
theorem Kx{x:Str}(h:Nm x):Wt (cd x)<=8/\(cd x).count 40=0/\84∉cd x/\∀ c∈cd x,c < 128:=by
 have hl:∀ c∈cd x,97<=c/\c<=122:=h.1;show#[?_,?_,λm=>by have:=hl _ m;cbv,λc m=>by have:=hl _ m;cbv]
 .have e:Wt (cd x)=(cd x).length:=by
   generalize cd x=l at hl
   induction l with
   | nil=>rfl
   | cons a l ih =>
    change wt a+Wt l=l.length+1;have ha:=hl a Zx;rw[ih λc m=>hl c (Zw _ m),wt,if_neg (by cbv)];cbv
  rw[e,aG];exact h.2.2.1
 .rw[List.count_eq_zero];exact λm=>by have:=hl _ m;cbv
theorem Kd{c:Nat}{n:!Nat}(h:Wt n<=wt c)(l:!Nat):Wt (l.flatMap (qa c n))<=Wt l:=by
 induction l with
 | nil=>exact ZC _
 | cons a l ih =>
  rw[ZA,so];change _<=wt a+Wt l;have:Wt (qa c n a)<=wt a:=by
   unfold qa;split
   .rename_i e;rw[e];exact h
   .exact ZC _
  cbv
theorem Gm{n:!Nat}(l:!Nat):Wt (l.flatMap (qa 84 n))<=Wt l+l.count 84 * Wt n:=by
 induction l with
 | nil=>exact Z1 _
 | cons a l ih =>
  rw[ZA,so];change _<=wt a+Wt l+_;by_cases e:a=84
  .rw[e,aaZ,Nat.succ_mul,qa,if_pos U];have:wt 84=1:=rfl;cbv
  .rw[aaX e,qa,if_neg e];change Wt [a]+_<=_;have:Wt [a]=wt a:=rfl;cbv
theorem yR{c:Nat}{n:!Nat}(hc:c≠40)(l:!Nat):(l.flatMap (qa c n)).count 40=l.count 40+l.count c * n.count 40:=by
 induction l with
 | nil=>simp
 | cons a l ih =>
  rw[ZA,aas,ih,qa];by_cases e:a=c
  .rw[if_pos e,e,aaZ,aaX hc,Nat.succ_mul];cbv
  .rw[if_neg e,aaX e];by_cases e2:a=40
   .rw[e2,List.count_cons_self,List.count_cons_self];simp;cbv
   .rw[List.count_cons_of_ne e2,List.count_cons_of_ne e2];simp
theorem tU{c:Nat}{n l:!Nat}{x:Nat}(h:x∈l.flatMap (qa c n)):x∈l\/x∈n:=by
 let(a,ha,hx):=aaQ.mp h;unfold qa at hx;split at hx
 .exact .inr hx
 .rw[ZI.mp hx];exact .inl ha
structure Pc(w:Str)(b:Nat)(x:Str):Prop where
 g:Wt (cd x)<=15+20 * (cd w).count 84+300 * b
 c:(cd x).count 40<=(cd w).count 40+b
 p:∀ y∈cd x,y < 128
 t:84∈cd x->84∈cd w
structure Wf(w:Str):Prop where
 g:Wt (cd w)<=15
 p:∀ y∈cd w,y < 128
 t:(cd w).count 84<=1
 i:(not ((PySem.Builtin.Str.occurrences w "T" 0 w.length 1).isEmpty))=decide (84∈cd w)
structure Tz(b:Nat)(z:Str):Prop where
 g:Wt (cd z)<=300 * b+20
 c:(cd z).count 40<=b
 p:∀ y∈cd z,y < 128
 t:z≠"T"
theorem Wf.pc{w:Str}(h:Wf w):Pc w 0 w:=#[ZH h.g (by cbv),by cbv,h.p,id]
theorem Wf.qJ{w z:Str}{b:Nat}(h:Wf w)(hz:Tz b z)(ht:84∈cd w):Pc w b w/\Pc w b (Txt.replace w "T" z):=by
 show#[#[ZH h.g (by cbv),by cbv,h.p,id],?_];have e:cd (Txt.replace w "T" z)=(cd w).flatMap (qa 84 (cd z)):=ot () w z;have h1:(cd w).count 84=1:=Nat.le_antisymm h.t (List.count_pos_iff.mpr ht);have hw:=Gm (n:=cd z) (cd w);have hc:=yR (c:=84) (n:=cd z) () (cd w);rw[h1,Nat.one_mul] at hw hc;have z1:=hz.g;have z2:=hz.c;have z3:=h.g;show#[by rw[e,h1];cbv,by rw[e,hc];cbv,λy hy=>?_,λ_=>ht];rw[e] at hy;rcases tU hy with hy | hy
 .exact h.p y hy
 .exact hz.p y hy
theorem Pc.put{w x n:Str}{b c:Nat}(h:Pc w b x)(hc:c=78\/c=75)(hn:Nm n):Pc w b (Txt.replace x #[#v[c]] n):=by
 have e:cd (Txt.replace x #[#v[c]] n)=(cd x).flatMap (qa c (cd n)):=ot (by cbv) x n;let(n1,n2,n3,n4):=Kx hn;have k1:=Kd (c:=c) (n:=cd n) (by rcases hc with rfl | rfl<;>exact n1) (cd x);have k2:=yR (c:=c) (n:=cd n) (by cbv) (cd x);rw[n2,Nat.mul_zero] at k2;have h1:=h.g;have h2:=h.c;show#[by rw[e];cbv,by rw[e,k2];cbv,λy hy=>?_,λhy=>?_]
 .rw[e] at hy;rcases tU hy with hy | hy
  .exact h.p y hy
  .exact n4 y hy
 .rw[e] at hy;rcases tU hy with hy | hy
  .exact h.t hy
  .exact absurd hy n3
def La:!Str:=["N","N","7","0","(+ T T)","(- T T)","(zero T T T)","(let N T T)","(make N)","(make N T T)"]
def wa:!Str:=La++(["(ask T N)","(ask T N T)","(case T to K | N N : T | N : T)","(case T to number)"]:!Str)++(["(new K | N : T | N N N : T)","(new K)","(* T T)"]:!Str)
abbrev fB(w:Str):Nat:=15+20 * (cd w).count 84
structure Sf(s:Str):Prop where
 w:∀ w∈Txt.split s " ",Wf w
 b:sm fB (Txt.split s " ")+(Txt.split s " ").length<=300
 c:sm fC (Txt.split s " ")<=1
 n:(Txt.split s " ").length=1->∀ w∈Txt.split s " ",84∉cd w
 l:s.length<=40
def UP(w:Str):Bool:=decide (Wt (cd w)<=15)&&((cd w).all (·< 128))&&decide ((cd w).count 84<=1)&&((not ((PySem.Builtin.Str.occurrences w "T" 0 w.length 1).isEmpty)) == decide (84∈cd w))
def R7(s:Str):Bool:=(Txt.split s " ").all UP&&decide (sm fB (Txt.split s " ")+(Txt.split s " ").length<=300)&&decide (sm fC (Txt.split s " ")<=1)&&(decide ((Txt.split s " ").length≠1)||(Txt.split s " ").all λw=>decide (84∉cd w))&&decide (s.length<=40)
theorem NF{w:Str}(h:UP w=true):Wf w:=by
 unfold UP at h;simp only[Bool.and_eq_true,decide_eq_true_eq,beq_iff_eq] at h;exact#[h.1.1.1,λy hy=>by simpa using List.all_eq_true.mp h.1.1.2 y hy,h.1.2,h.2]
theorem MX{s:Str}(h:R7 s=true):Sf s:=by
 unfold R7 at h;simp only[Bool.and_eq_true,Bool.or_eq_true,decide_eq_true_eq] at h;show#[λw hw=>NF (ZW.mp h.1.1.1.1 w hw),h.1.1.1.2,h.1.1.2,λh1 w hw=>?_,h.2];rcases h.1.2 with h2 | h2
 .exact absurd h1 h2
 .exact of_decide_eq_true (ZW.mp h2 w hw)
theorem GZ:∀ s∈wa,Sf s:=by
 have:wa.all R7=true:=by decide+kernel
 exact λs hs=>MX (ZW.mp this s hs)
theorem yJ:∀ s∈wa.take 4,sm fC (Txt.split s " ")=0/\(Txt.split s " ").length=1/\sm fB (Txt.split s " ")=15/\∀ w∈Txt.split s " ",84∉cd w:=by
 have:(wa.take 4).all (λs=>decide (sm fC (Txt.split s " ")=0/\(Txt.split s " ").length=1/\sm fB (Txt.split s " ")=15/\∀ w∈Txt.split s " ",84∉cd w))=true:=by decide+kernel
 exact λs hs=>of_decide_eq_true (ZW.mp this s hs)
def pt(m:Int):Nat:=(m - 1).toNat
def Wa(d r:AC):Nat->!D->D->(D->D->Prop)->Prop
 | 0=>λ_ _ _=>False
 | n+1=>λds d0 R=>∃ (ws:!Str) (m:Int),ds=[.hJ d,.lst (ws.map .str),.hJ r]/\d0=.lst [.int m]/\(ws.length=12/\(∀ x∈ws,Nm x)/\m<=n/\m<=6)/\∀ (z:Str) (m':Int) (b:Nat),Tz b z->b+pt m'<=(if 0 < m then 1 else 0)+pt m->m'<=m->R (.str z) (.lst [.int m'])
theorem Jy{q:D3}{k:Nat}{d l r:AC}(o:Own K mg q):C4 P w K mg base aV q k (GU K d l r λ_ _ _=>False):=o.c λf fd F=>#[λvs H Q E h=>by let(_,_,_,_,_,_,_,_,_,_,h,_):=h;exact h.elim,λA outer s H args us vs Q E hr he hb hv h=>by let(_,_,_,_,_,_,_,_,_,_,h,_):=h;exact h.elim]
structure Ac(dn:!Str)(B:Nat)(acc:!Str):Prop where
 n:acc.length=dn.length
 g:sm (λx=>Wt (cd x)) acc<=sm fB dn+300 * B
 c:sm fC acc<=sm fC dn+B
 p:∀ x∈acc,∀ y∈cd x,y < 128
 t:∀ x∈acc,84∈cd x->∃ w∈dn,84∈cd w
theorem Ac.nil:Ac [] 0 []:=#[U,Z1 _,Z1 _,λ_ h=>(nomatch h),λ_ h=>(nomatch h)]
theorem LH{zs:!Str}{k:Nat}{r:Int}(h0:0<=r)(h1:r < k)(h2:k<=zs.length):∃ z∈zs.take k,kW (zs.map D.str) r=some (.str z):=by
 have hj:r.toNat < zs.length:=by cbv
 show#[zs[r.toNat],List.mem_take_iff_getElem.mpr #[r.toNat,by cbv,U],?_];have e:(r.toNat:Int)=r:=aa6 h0;have q:=gu (xs:=zs.map D.str) (j:=r.toNat) (v:=.str zs[r.toNat]) (by simp[hj]);rw[e] at q;exact q
theorem tM{f:Str->Nat}{x:Str}:sm f [x]=f x:=by change ([x].map f).sum=_;simp
theorem Ac.snoc{dn acc:!Str}{B b:Nat}{w x:Str}(h:Ac dn B acc)(k:Pc w b x):Ac (dn++[w]) (B+b) (acc++[x]):=by
 have h1:=h.g;have h2:=h.c;have k1:=k.g;have k2:=k.c;show#[by rw[ZE,ZE,h.n];rfl,?_,?_,λy hy=>?_,λy hy ht=>?_]
 .rw[eU,eU,tM,tM];change _+Wt (cd x)<=_+(15+20 * (cd w).count 84)+300 * (B+b);cbv
 .rw[eU,eU,tM,tM];change _+(cd x).count 40<=_+(cd w).count 40+(B+b);cbv
 .rcases ZR.mp hy with hy | hy
  .exact h.p y hy
  .rw[ZI.mp hy];exact k.p
 .rcases ZR.mp hy with hy | hy
  .let(v,hv,e):=h.t y hy ht;exact#[v,Z2 _ hv,e]
  .rw[ZI.mp hy] at ht;exact#[w,by simp,k.t ht]
theorem zq:∀ ws:!Str,Wt (ba (ws.map cd))<=sm (λx=>Wt (cd x)) ws+ws.length
 | []=>ZC _
 | a::l=>by
  have e:∀ l:!Str,Wt ((l.map cd).flatMap (32::·))=sm (λx=>Wt (cd x)) l+l.length:=λl=>by
   induction l with
   | nil=>rfl
   | cons b l ih =>
    rw[ZG,ZA,so,ih];change (wt 32+Wt (cd b))+_=(Wt (cd b)+sm (λx=>Wt (cd x)) l)+(l.length+1);have:wt 32=1:=rfl;cbv
  change Wt (cd a++(l.map cd).flatMap (32::·))<=_;rw[so,e];change _<=(Wt (cd a)+sm (λx=>Wt (cd x)) l)+(l.length+1);cbv
theorem Ac.tz{s:Str}{acc:!Str}{B:Nat}(hs:Sf s)(h:Ac (Txt.split s " ") B acc):Tz (B+1) (Txt.join " " acc):=by
 have e:cd (Txt.join " " acc)=ba (acc.map cd):=kR acc;have h1:=h.g;have h2:=h.c;have h3:=h.n;have s1:=hs.b;have s2:=hs.c;have w1:=zq acc;show#[by rw[e];cbv,by rw[e,<- gI,<- zu];cbv,λy hy=>?_,λht=>?_]
 .rw[e] at hy;rcases rC hy with rfl | ⟨v,hv,hy⟩
  .decide
  .let(x,hx,rfl):=Z5.mp hv;exact h.p x hx y hy
 .have e2:ba (acc.map cd)=[84]:=by rw[<- e,ht];rfl
  have jl:=(pS (acc.map cd)).2 (λq=>by rw[q] at e2;cases e2)
  match acc,h3,e2 with
  | [a],h3,e2 =>
   have ha:cd a=[84]:=by simpa [ba] using e2
   let(w,hw,hw2):=h.t a (by simp) (by rw[ha];simp);exact hs.n h3.symm w hw hw2
  | a::b::l,_,e2 =>
   have:(32:Nat)∈ba ((a::b::l).map cd):=by
    change 32∈cd a++((b::l).map cd).flatMap (32::·);simp
   rw[e2] at this;simp at this
theorem Ac.Za{s:Str}{acc:!Str}(hs:Sf s)(hl:s∈wa.take 4)(h:Ac (Txt.split s " ") 0 acc):Tz 0 (Txt.join " " acc):=by
 have k:=h.tz hs;have e:cd (Txt.join " " acc)=ba (acc.map cd):=kR acc;have h1:=h.g;have h2:=h.c;have h3:=h.n;have w1:=zq acc;let(l1,l2,l3,_):=yJ s hl;exact#[by rw[e];cbv,by rw[e,<- gI,<- zu];cbv,k.p,k.t]
theorem HA{d l r:AC}(lU:C4 P w K mg base aV cg 1 (b5 K (gR d l r) (nV d)))(FS:Own K mg d3)(T:Txt K mg):∀ n:Nat,C4 P w K mg base aV d3 (n+2) (GU K d l r (Wa d r n))
 | 0=>Jy FS
 | n+1=>by
  have Ss:=HA lU FS T n;show FS.c λf fd F=>?_;show Yn (nos:=1) 2 F aZ (λds d0 R h=>?_) λbp A outer s H E M hr=>?_
  .let(ws,m,rfl,_):=h;exact#[U,U]
  have hb:aq bj=uY (aq bj) 0 (fA ((aq bj).getD 0 fu)):=rfl;have ha:iX (fA ((aq bj).getD 0 fu))=true:=rfl;have hz:mZ (fA ((aq bj).getD 0 fu))=La:=rfl;have hl3:(fA ((aq bj).getD 0 fu)).length=La.length:=rfl;generalize fA ((aq bj).getD 0 fu)=es at hb ha hz hl3;have hn:(es.length<=1000:Bool)=true:=by rw[hl3];decide
  rw[hb];show#[_,(af (sS 3 aZ.nd (DN.de (aL (kH ha hz hl3) hn)))
 (af (sS 3 aZ.nd (DN.de (bJ aX a9 (vd 3) (DN.de (aL (aa ah (aa ah (aa ah (aa ah ae)))))))))
 (af (sS 3 aZ.nd (DN.de (bJ aX a9 (vd 3) (DN.de (aL (aa ah (aa ah (aa ah ae))))))))
 (af (sN 1 4 aZ.nd (aL ae))
 (af (sS 5 aZ.nd (j0 (vd 3) (bf hr lU (aa (vd 0) (aa (j0 (DN.de (aL (aa ao (aa ao ae)))) (fU mR xt U T.int (-()) (aa (dH pG t9 (HI (nH hV (pv 2) (DE.pe ao) (λ_ _=>rfl))) ao (ay _)) ae))) ae)))))
 (af (sF (nJ (DN.de (sR (vd 5) (aa ah ae)))) (gN 6 aZ.nd)
 (af (cD (aH mq BI ah (vd 6) U)
 (af (yO (xY (DE.pe (bR xl f9 (HI (nH hV (pv 2) (DE.pe ao) (λ_ _=>rfl))) ao)) (CD (pv 2) (DE.pe ao) set_list)))
 (ak (sS 6 aZ.nd (xi (vd 6) (aa ah (aa (CH hr Ss (aa (vd 0) (aa (vd 1) (aa (XW U (pv 2)) ae)))) ae))))))
 aP)
 (af (sS 6 aZ.nd (xi (vd 6) (aa ah (aa (j0 (vd 1) (bf hr lU (aa (vd 0) (aa (jS T.len (aa (vd 1) ae)) ae)))) ae))))
 (ak (EO 4 (aa (xi (vd 6) (aa ah (aa (j0 (vd 1) (bf hr lU (aa (vd 0) (aa ao ae)))) ae))) ae))))))
 (ak (K0 (qB ah (aa (JU (pv 4)) ae)))))))))),λds d0 R h=>?_]
  let(ws,m,rfl,rfl,(hw1,hw2,hm1,hm2),q):=h;have hsz:=aK;obtain⟨j,hj,ej⟩:∃ j:Nat,(j=17/\0 < m\/j=4/\¬ 0 < m)/\kW [D.int 4,D.int 17] (if (λi j=>decide (j < i)) m 0=true then 1 else 0)=some (.int j):=by
   by_cases hm:0 < m
   .exact#[17,.inl #[U,hm],by rw[if_pos (decide_eq_true hm)];exact oz]
   .exact#[4,.inr #[U,hm],by rw[if_neg (by simpa using hm)];exact bB]
  have n200:∀ {n:Nat},n<=200->n<=FB:=λh=>ZH h (by cbv);right;show#[n200 (-()),?_];right;show#[n200 (-()),?_];right;have hj17:j<=17/\0 < j:=by cbv
  show#[ej,?_];right;show#[#[by cbv,by cbv],λr' r0 r1=>?_];let(s0,hs0,es):=LH (zs:=wa) (k:=j) r0 r1 hj17.1;have hs:=GZ s0 (aap hs0);have hsl:=hs.l;have hb3:=hs.b;show#[_,_,_,U,U,es,?_];right;show#[by cbv,by cbv,?_];right;show CO D.str (λdn O=>∃ (m1:Int) (B:Nat) (acc:!Str) (x6:Sl),Pl x6/\(m1<=m/\B+pt m1<=pt m)/\Ac dn B acc/\O=#[[.dat (.hJ d),.dat (.lst (ws.map .str)),.own 0,.dat (.lst (wa.map .str)),.own 1,.dat (.str s0),x6],[some (.lst [.int m1]),some (.lst (acc.map .str))]]) ?_ ?_ _ #[m,0,[],.no,.inl U,#[Int.le_refl _,by cbv],Ac.nil,U]
  .rintro O ⟨m1,B,acc,x6,hx6,⟨h1,h2⟩,hA,rfl⟩;right;have hB:B<=6:=by have:pt m<=5:=by { show (m - 1).toNat<=5;cbv };cbv
   have g1:=hA.g;have g2:=hA.n;have gl:(acc.map λx=>x.length).sum<=sm (λx=>Wt (cd x)) acc:=by
    clear g1 g2 hA
    induction acc with
    | nil=>exact ZC _
    | cons a l ih =>
     change a.length+(l.map λx=>x.length).sum<=Wt (cd a)+sm (λx=>Wt (cd x)) l;have:=pq (cd a);rw[aG] at this;have:a.length<=Wt (cd a):=this;cbv
   show#[by change _+acc.length * 1<=_;cbv,?_];by_cases hm:0 < m
   .exact#[_,U,q _ m1 (B+1) (hA.tz hs) (by rw[if_pos hm];cbv) h1]
   .have hj4:j=4:=by
     rcases hj with hj | hj
     .exact absurd hj.2 hm
     .exact hj.1
    subst hj4;have hB0:B=0:=by have:pt m=0:=by { show (m - 1).toNat=0;cbv };cbv
    subst hB0;exact#[_,U,q _ m1 0 (hA.Za hs hs0) (by rw[if_neg hm];cbv) h1]
  .rintro dn w0 td O E0 e0 ⟨m1,B,acc,x6,hx6,⟨h1,h2⟩,hA,rfl⟩ hN hE;have hwm:w0∈Txt.split s0 " ":=by rw[e0];simp
   have hwf:=hs.w w0 hwm;change rR (KI _ _ _) _ E0 _;show Hf (λO=>∃ (m2:Int) (b:Nat) (x:Str),(m2<=m/\B+b+pt m2<=pt m)/\Pc w0 b x/\O=#[[.dat (.hJ d),.dat (.lst (ws.map .str)),.own 0,.dat (.lst (wa.map .str)),.own 1,.dat (.str s0),.dat (.str x)],[some (.lst [.int m2]),some (.lst (acc.map .str))]]) (λE1 hE1=>?_) ?_
   .right;show aO hwf.i (λht=>?_) λht=>?_
    .have ht:=of_decide_eq_true ht;have hm:0 < m:=by
      rcases hj with hj | hj
      .exact hj.2
      .have hj4:=hj.1;subst hj4;exact absurd ht ((yJ s0 hs0).2.2.2 w0 hwm)
     obtain⟨n',rfl⟩:∃ n',n=n'+1:=#[n - 1,by cbv];have l0:w0.length<=15:=by
      have:=pq (cd w0);rw[aG] at this;exact ZH this hwf.g
     right;show#[#[hw1,hw2,by cbv,by cbv],λz m' b hz hb hm'=>?_];have hb2:b+pt m'<=pt m1:=by
      have:(if 0 < m1 - 1 then 1 else 0)+pt (m1 - 1)=pt m1:=by
       unfold pt;split<;>cbv
      cbv
     have hb6:b<=6:=by have:pt m<=5:=by { show (m - 1).toNat<=5;cbv };cbv
     have lz:z.length<=1820:=by
      have:=pq (cd z);rw[aG] at this;have h3:=hz.g;have:z.length<=Wt (cd z):=this;cbv
     have hsz2:w0.length+(w0.length+1) * z.length<=16777216:=by
      have:=Nat.mul_le_mul (show w0.length+1<=16 by cbv) lz;cbv
     let(p1,p2):=hwf.qJ hz ht;right;exact#[λe=>hz.t e.symm,hsz2,hE1 _ #[m',b,w0,#[by cbv,by cbv],p1,U],hE1 _ #[m',b,_,#[by cbv,by cbv],p2,U]]
    .right;exact hE1 _ #[m1,0,w0,#[h1,by cbv],hwf.pc,U]
   .rintro O ⟨m2,b,x,⟨h3,h4⟩,hp,rfl⟩;have hb6:B+b<=6:=by have:pt m<=5:=by { show (m - 1).toNat<=5;cbv };cbv
    have ps:∀ y,Pc w0 b y->y.length<=1835:=λy hy=>by
     have:=pq (cd y);rw[aG] at this;have h5:=hy.g;have h6:=hwf.t;have:y.length<=Wt (cd y):=this;cbv
    have psz:∀ (y n:Str),y.length<=1835->n.length<=8->y.length+(y.length+1) * n.length<=16777216:=λy n h1 h2=>by
     have:=Nat.mul_le_mul (show y.length+1<=1836 by cbv) h2;cbv
    have hacc:(acc.map D.str).length < FB:=by
     rw[Zy,hA.n];have:=congrArg List.length e0;rw[ZE] at this;cbv
    right;show#[#[by rw[Zy];cbv,by rw[Zy];cbv],λr1 r10 r11=>?_];let(n1,hn1,en1):=fO (zs:=ws) r10 (by rw[Zy] at r11;exact r11);show#[_,_,_,U,U,en1,?_];have nn1:=hw2 n1 hn1;right;show#[λe=>absurd nn1 (by rw[<- e];decide+kernel),psz _ _ (ps _ hp) (ko nn1),?_,?_]
    .have hx:=ps _ (hp);right;show#[#[by decide,by decide],λr2 r20 r21=>?_];let(n2,HQ,en2):=fO (zs:=ws) r20 (by cbv);show#[_,_,_,U,U,en2,?_];have nn2:=hw2 n2 HQ;right;show#[λe=>absurd nn2 (by rw[<- e];decide+kernel),psz _ _ hx (ko nn2),?_,?_]
     .right;show#[hacc,?_];show hN _ #[m2,B+b,acc++[x],.dat (.str x),.inr #[_,U],#[h3,h4],hA.snoc (hp),?_];rw[ZO]
      rfl
     .right;show#[hacc,?_];show hN _ #[m2,B+b,acc++[Txt.replace (x) "K" n2],.dat (.str x),.inr #[_,U],#[h3,h4],hA.snoc ((hp).put (.inr U) nn2),?_];rw[ZO]
      rfl
    .have hx:=ps _ (hp.put (.inl U) nn1);right;show#[#[by decide,by decide],λr2 r20 r21=>?_];let(n2,HQ,en2):=fO (zs:=ws) r20 (by cbv);show#[_,_,_,U,U,en2,?_];have nn2:=hw2 n2 HQ;right;show#[λe=>absurd nn2 (by rw[<- e];decide+kernel),psz _ _ hx (ko nn2),?_,?_]
     .right;show#[hacc,?_];show hN _ #[m2,B+b,acc++[Txt.replace x "N" n1],.dat (.str (Txt.replace x "N" n1)),.inr #[_,U],#[h3,h4],hA.snoc (hp.put (.inl U) nn1),?_];rw[ZO]
      rfl
     .right;show#[hacc,?_];show hN _ #[m2,B+b,acc++[Txt.replace (Txt.replace x "N" n1) "K" n2],.dat (.str (Txt.replace x "N" n1)),.inr #[_,U],#[h3,h4],hA.snoc ((hp.put (.inl U) nn1).put (.inr U) nn2),?_];rw[ZO]
      rfl
theorem t7:ar ["_law_deal_here","_law_many_here","_law_number","_law_one","_law_other"] ["_law_deal_here","_law_many_here"] (ag pP):=fQ
theorem K7(F:Own K mg cg)(T:Txt K mg):C4 P w K mg base aV cg 1 cj.xM:=by
 show F.c λf fd F=>?_;show cj.Es F t7 λbp A outer s H E hu=>?_;exact aI (uP PassesOwn.never (PW.pt (pw_and (hU bu (ib hu (pv 0) bP (λ_ _=>rfl)) bg (ay _)) (pw_and1 (hU pG (cq fK U T.len aaf (ax (ib hu (pv 0) bP (λ_ _=>rfl)) aM)) bg (ay _)))))
   (bI (uC hu (pv 0) bP (w9 aag abb abc wO (ib hu (pv 0) bP (λ_ _=>rfl))) U)))
  (aI (eT (i:=2) t7.nd U (Or.inl U) (ib hu (pv 0) bP (λ_ _=>rfl)))
  (aI (r8 (hU pG (pv 2) bg (ay _)) (aI (uC hu (pv 0) bP (cH wb (pv 2) (pv 1)) U) (bI (eI (cH gz (pv 2) (pv 1))))) kQ)
  (aI (eT (i:=3) t7.nd U (Or.inl U) (cH gz (cH bD (cH j7 (ib hu (pv 0) bP (λ_ _=>rfl)) bg) bg) bg))
  (aI (uC hu (pv 0) bP (cH gz (cH bD (cH j7 (pv 3) bg) bg) bg) U)
  (aI (eT (i:=4) t7.nd U (Or.inl U) (cH gz (cH j7 (ib hu (pv 0) bP (λ_ _=>rfl)) (ib hu (pv 0) bP (λ_ _=>rfl))) bg))
  (bI (eI (cH gz (cH bD (cH j7 (cH gz (cH j7 (pv 3) (pv 3)) bg) bg) (pv 4)) (pv 1)))))))))
theorem pI:ar ["_law_script","_law_base","_law_some","_law_number","_law_one"] ["_law_script","_law_base"] (ag oZ):=fQ
theorem WO:(["_law_one"]:!Str).Nodup:=by decide+kernel
theorem Kh(F:Own K mg ij)(T:Txt K mg):C4 P w K mg base aV ij 1 (cj.wW K):=by
 show F.c λf fd F=>?_;show cj.GW F pI λbp A outer s H E=>?_;exact aI (Hd (ts:=["_law_one"]) (us:=[]) (i:=2) pI.nd U U #[U,U,U,U,U,U] rfl (kB (iV zN (pv 0) (oE (pv 1)) (oE bg))) (λ_ _ _ _=>fP (i:=0) WO U (Or.inl U)) (λ_ _ _ _=>sP)
   (λ_ _ _ _=>cq (A9 U) U T.max PyProof.Rows.boot_max (ax (pv 0) (ax (cH xl bg (pv 0)) aM))))
  (aI (eT (i:=3) pI.nd U (Or.inl U) (cH bD bg (pv 1)))
  (aI (oQ PassesOwn.never U (kB (pv 2)) (fP (i:=4) pI.nd U (Or.inl U)) (bI (eT (i:=3) pI.nd U (Or.inl U) (cH gz (cH bD (cH j7 (pv 3) bg) (cH gz (pv 4) bg)) bg))))
  (bI (eI (y0 (lp bP (pv 3) (lp bP bg (lp bP (wI U U T.list U T.rev
   (ua (ts:=["_law_one"]) (us:=[]) #[U,U,U,U,U,U] rfl (kB (pv 2)) (λ_ _ _ _=>fP (i:=0) WO U (Or.inl U)) (λ_ _ _ _=>Fz (hU yM (pv 0) (cH KP bg bg) (ay _))) (λ_ _ _ _=>pv 0))) yK))) U U (by simp) ())))))
theorem Tz.tx{b:Nat}{z:Str}(h:Tz b z)(hb:b<=6):Tx 6 1820 z:=by
 have h1:=h.g;have h2:=h.c;have:=pq (cd z);rw[aG] at this;exact#[ZH this (by cbv),h.p,by cbv]
def cL:Nat->Nat
 | 0=>6
 | n+1=>2 * cL n+1
def lL:Nat->Nat
 | 0=>1820
 | n+1=>2 * lL n+31
theorem MO{i:Nat}(h:i<=3):(cL i<=55/\1<=cL i)/\lL i<=14777:=by
 have:i=0\/i=1\/i=2\/i=3:=by cbv
 rcases this with rfl | rfl | rfl | rfl<;>decide
theorem KR(lU:∀ d l,C4 P w K mg base aV cg 1 (b5 K (bH d l) (nV d)))(Zf:∀ d l,C4 P w K mg base aV gm 2 (b5 K (bH d l) (Ew d)))(Ss:∀ d l,C4 P w K mg base aV d3 9 (GB K d l λr=>Wa d r 7))(XF:∀ d l,C4 P w K mg base aV fD 4 (b5 K (bH d l) (Vs d)))(Xl:ab0 P w K mg base gj 229 Vz)(GL:C4 P w K mg base aV ij 1 (cj.wW K)){f:AC}{fd:IR}(F:pJ K "law" "law" kP f fd)(T:Txt K mg):br P w K mg base aV 230 f fd ["_law_script"] (z0 K):=by
 let(fL,Ip,GL,FL,mL,bL):=GL;show F.ok mK (λvs H Q E h=>?_) (λbp A outer s H vs Q E hr h=>?_)
 .let(a,ns,rfl,_):=h
  rfl
 .let(a,ns,rfl,hS,hlen,k):=h;have hrL:bF 1 _:=hr.mono ();show#[_,(aI (eT (i:=1) mK.nd U (Or.inl U) (cU GL hrL U mL FL.kp bL .nil lh (ax (pv 0) (ax bg aM)))) (Gi λd l M0 H0=>(af (sS 2 mK.nd (EE hr (Ss d l) (vd 1) (bf hr (Zf d l) (aa (vd 1) (aa ao ae))) (aL (aa ao ae))))
 (af (sS 3 mK.nd (vd 2))
 (af (sF (pF U T.range (aa (bR bD f9 ao (bf hr (lU d l) (aa (vd 1) (aa ao ae)))) ae)) (gN 4 mK.nd)
 (ak (sS 3 mK.nd (bf hr (XF d l) (aa (vd 1) (aa (vd 3) ae))))))
 (ak (aF (a8 (du U) yI U T.all PyProof.Rows.boot_all (aa (DN.de (nC ["_law_one"] [] (nJ (bZ (aa (vd 2) (aa (vd 3) (aa (vd 2) (aa (vd 3) ae)))))) (λ_ _ _ _=>(gM 0 ["_law_one"])) (λ_ _ _ _=>i7)
 (λ_ _ _ _=>(aC hr Xl (aa (vd 0) ae))))) ae))))))))),?_]
  show#[_,U,a,ns,0,U,hS,hlen,by decide,by decide,λd l H1 hd hl D1 s1=>?_];show Jc (n:=3) (nos:=0) D1 U U ?_ k;have hsz:=aK;show#[_,U,_,U,12,U,#[by decide,by decide],λws Dv _ hwn=>?_];right;intro r;show#[ws,6,U,U,#[Dv,hwn,by decide,by decide],λz m' b hz hb _=>?_];have hb6:b<=6:=by
   have:pt 6=5:=rfl;rw[if_pos ()] at hb;cbv
  have hg:=hz.tx hb6;right;show#[#[by decide,by decide],λc c0 c1=>?_];right;have hrl:(fR 0 (1+c).toNat).length<=3:=by
   unfold fR;rw[Zy,List.length_range];cbv
  show#[#[by cbv,by cbv],?_];show lV (λxs s=>∃ (i:Nat) (y:Str) (x4:Sl),i+xs.length<=3/\Tx (cL i) (lL i) y/\s=#[[.no,.dat (.hJ d),.dat (.str z),.dat (.str y),x4],[]]) ?_ ?_ _ _ #[0,z,.no,by cbv,hg,U]
  .rintro s ⟨i,y,x4,hi,hy,rfl⟩;have hL:=MO (i:=i) (by cbv);have hy:=hy.up hL.1.1 hL.2;have hg:=hg.up (c':=55) (L':=14777) () ();right;have ri:∀ {x:Str},Tx 55 14777 x->x.length<=20000/\Gc.strOk x=true/\(cd x).count 40<=55:=λhx=>#[ZH hx.1 (),hx.ok,hx.2.2];show#[ri hg,?_];right;show#[ri hy,?_];right;show#[ri hg,?_];right;show#[ri hy,?_];exact#[[true,true,true,true],U,U]
  .rintro x xs s E0 ⟨i,y,x4,hi,hy,rfl⟩ hN hE;rw[ZJ] at hi;have hL:=MO (i:=i) (by cbv);right;show#[#[hy,by cbv,hL.1.2],λz' hz'=>?_];exact hN _ #[i+1,z',.dat x,by cbv,hz',U]
structure Cl(K:Frag)(C:AC)(up:!AT):Prop where
 mro:∃ cd,PySem.W.clsIn K C=some cd/\cd.mro=.ref C::up
 ty:typeIn K (.ref C)=some (.type "type")
theorem Cl.sub{K:Frag}{C:AC}{up:!AT}(c:Cl K C up)(b:AT):PySem.W.subIn K (.ref C) b=some ((AT.ref C::up).contains b):=by
 let(cd,h1,h2):=c.mro;change PySem.W.mroIn K C b=_;unfold PySem.W.mroIn;rw[h1,Option.bind_some,h2,if_neg (by simp)]
theorem Cl.O4{K:Frag}{C D:AC}{up Md:!AT}(c:Cl K C up)(d:Cl K D Md):PySem.W.kitCls K (.ref C) (.ref D)=some ((AT.ref C::up).contains (.ref D)):=by
 let(cd,h1,h2):=d.mro;change (if ((PySem.W.clsIn K D).isSome&&typeIn K (.ref D) == some (.type "type"))=true then PySem.W.subIn K (.ref C) (.ref D) else none)=_;rw[h1,d.ty,if_pos (by simp),c.sub]
theorem Cl.XB{K:Frag}{C D:AC}{up Md:!AT}(c:Cl K C up)(d:Cl K D Md)(hb:(AT.ref D::Md).contains (.type "BaseException")=true):PySem.W.exmOne K (.ref C) (.ref D)=some ((AT.ref C::up).contains (.ref D)):=by
 unfold PySem.W.exmOne;rw[d.sub,hb,if_pos (by simp),c.O4 d]
theorem Cl.Vy{K:Frag}{C D:AC}{up Md:!AT}(c:Cl K C up)(d:Cl K D Md):kitOne K (.ref C) (.ref D)=some ((AT.ref C::up).contains (.ref D)):=by
 unfold kitOne;by_cases h:(AT.ref C == AT.ref D)=true
 .have e:C=D:=AT.ref.inj (beq_iff_eq.mp h);subst e;rw[if_pos h];simp
 .rw[if_neg h,c.O4 d]
theorem yp:PySem.W.kitMeta "ValueError"=true:=by decide+kernel
theorem Cl.Rr{K:Frag}{C:AC}{up:!AT}(c:Cl K C up)(h:(AT.ref C::up).contains (.type "ValueError")=true):kitOne K (.ref C) (.type "ValueError")=some true:=by
 unfold kitOne;rw[if_neg (by simp)];change (if PySem.W.kitMeta "ValueError"=true then PySem.W.subIn K (.ref C) (.type "ValueError") else none)=_;rw[yp,if_pos U,c.sub,h]
theorem kD{l:!AC}(h:l.Nodup){i j:Nat}{x y:AC}(hi:l[i]?=some x)(hj:l[j]?=some y)(VZ:i≠j):x≠y:=λe=>by
 subst e;let(h1,e1):=ZF.mp hi;let(h2,e2):=ZF.mp hj;exact VZ ((List.getElem_inj h).mp (e1.trans e2.symm))
theorem MH{C S D:AC}(h1:C≠D)(h2:S≠D):(AT.ref C::AT.ref S::jA).contains (.ref D)=false:=by
 simp[jA,Ne.symm h1,Ne.symm h2]
theorem isIn{C S:AC}:(AT.ref C::AT.ref S::jA).contains (.ref C)=true:=by simp
theorem TU{C S:AC}:(AT.ref C::AT.ref S::jA).contains (.ref S)=true:=by simp
theorem RE{C S:AC}:(AT.ref C::AT.ref S::jA).contains (.type "ValueError")=true:=by simp[jA]
theorem UO{C S:AC}:(AT.ref C::AT.ref S::jA).contains (.type "BaseException")=true:=by simp[jA]
theorem HC{K:Frag}{C S:AC}{nm q:Str}{N:AC}{bs:!AT}{sn:!Str}{sub:!AT}{ab:Bool}{col:Option Bool}{dd:Option AC}{k0 k1 k2 k3 k5:Option AT}(l:K.lookup C=some (excClassObj nm q C N bs (.ref S::jA) true sn sub ab col dd k0 k1 k2 k3 k5 "ValueError.__new__"))(t:typeIn K (.ref C)=some (.type "type")):Cl K C (.ref S::jA):=by
 show#[#[{ name:=nm,bases:=bs,mro:=.ref C::.ref S::jA,ns:=N,qualname:=q,hasDict:=true,slotNames:=sn,subclasses:=sub,abstract:=ab,collection:=col,hasDel:=false },?_,U],t]
 .unfold PySem.W.clsIn;rw[l]
theorem LI{S C D:AC}(c:Cl K C (.ref S::jA))(d:Cl K D (.ref S::jA))(h1:C≠D)(h2:S≠D):kitOne K (.ref C) (.ref D)=some false:=(c.Vy d).trans (congrArg some (MH h1 h2))
theorem zE{S C:AC}(c:Cl K C (.ref S::jA)):∀ {ds:!AC},(∀ d∈ds,Cl K d (.ref S::jA)/\C≠d/\S≠d)->kitAny K (.ref C) (ds.map AT.ref)=some false
 | [],_=>rfl
 | d::ds,h=>by
  let(h1,h2,h3):=h d Zx;change (match kitOne K (.ref C) (.ref d) with | some true=>some true | some false=>kitAny K (.ref C) (ds.map AT.ref) | none=>none)=_;rw[LI c h1 h2 h3];exact zE c λx hx=>h x (Zw _ hx)
abbrev i4:Fk:=inClass (top 2) 0
theorem W9:ar ["self","row"] ["self","row"] (ag i4):=fQ
theorem NG{S C f:AC}{fd:IR}(F:pJ K "__init__" "NoText.__init__" i4 f fd)(B:IL K S)(hS:mg "SideError"=some (.ref S))(x:ExC K C)(r:Hu K C "row"):br P w K mg base aV 1 f fd ["self","row"] (K5 C):=by
 show F.ok W9 (λvs H Q E h=>?_) (λbp A outer s H vs Q E hr h=>?_)
 .let(ea,y,rfl,_):=h
  rfl
 .let(ea,y,rfl,e,q):=h;show#[_,aI (ff (Di B U hS (ax (pv 0) (ax (pv 1) aM)))) (bI (Gf (pv 0) (pv 1) U)),?_];show#[_,U,_,U,ea,_,_,_,_,U,e,x,(by change 1<=1000;decide),?_];exact#[_,U,_,U,ea,_,_,U,x,r,.inl #[e,λd h1 h2=>q d h1 h2]]
end
inductive mQ(w:Fa):!SL->!(Str×AT)->Prop
 | nil:mQ w [] []
 | cons {e:SL} {k:Str} {v:AT} {es:!SL} {az:!(Str×AT)}:(∃ t,e.key=.str k t)->e.hash=hashStr w k->e.val=v->mQ w es az->mQ w (e::es) ((k,v)::az)
theorem mQ.dict{P:Fr}{w:Fa}{es:Array SL}{ep:Nat}{az:!(Str×AT)}(h:mQ w es.toList az)(nd:(az.map (·.1)).Nodup):Obj.IsDictOf (strKind P w) #[.type "dict",none,.dict es ep,#v[]] az:=by
 show#[es,ep,#[U,U,U],U,λe he=>?_,?_,nd]
 .have he:e∈es.toList:=abH.mpr he;clear nd
  revert he
  generalize es.toList=l at h
  induction h with
  | nil=>exact λz=>nomatch z
  | cons hk hh hv _ ih =>
   intro he;rcases ZD.mp he with rfl | he
   .let(t,ht):=hk;exact#[_,by rw[ht];exact PySem.strKind_is P w _ t,hh]
   .exact ih he
 .clear nd;generalize es.toList=l at h
  induction h with
  | nil=>exact .nil
  | cons hk hh hv _ ih =>
   let(t,ht):=hk;exact .cons (by rw[ht];exact PySem.strKind_is P w _ t) hv ih
theorem uK{P:!AT->Prop}(h:∀ a b,P [a,b])(us:!AT)(hl:us.length=2):P us:=by
 cases us with
 | nil=>cases hl
 | cons a us =>
  cases us with
  | nil=>cases hl
  | cons b us =>
   cases us with
   | nil=>exact h a b
   | cons c us=>cases hl
theorem all_mk{l:PySem.W.OpenLaw}{w:Fa}{K:Frag}{h:Ev}{mg:Str->Option AT}{fa at_ QY SI S Tj f4 a0 N0 a1 N1 a2 N2 a3 N3 a4 N4 a5 N5 a6 N6 a7 N7 P0 OA Pn PD Qr P4 M8 Bt TR:AC}(X:K.In h)(G:h.Ns IN mg)(Zo:mg "law"=some (.ref fa)){cS cN Ya Ys YX XC VC Ye:AT}{dS dN Xe X1:Option AC}{IJ:ClassData}{QC QJ Xd:Array (Option AT)}{es:Array SL}{ep:Nat}{Tw Us Q7 RP RG Rl UA UL Uj U1 RA UQ SG Tg Qj Mw RI M9 XY Yt:Option AC}{Uy Rh Sn Ry RT UE Ti PV UN Uc X4:Array (Option AT)}{U2 Sg Rp Sw Oa Sv SW R8 TY RM NK Tq UG Sm SQ UH Nf Tp Vf Q1 Ts Uq P8 Sk Rn UJ UR RS Qe S3 Rz Tr UD RN Qq SA Tb RK SD Sd Mx Uu MP My Na OC J8 MK Ul OP OM Qa KY Ms W4:AT}{Ao:Array AT}{nT nP Xv:Nat}{Ww:Array SL}{RJ WU RH:Tok}{Xb q0 UI q1 YU q2 Ve q3 X6 q4 Qy q5 Mq q6 Xh q7:Str}{Yd S7 Y2 Ra Zj Sx XH Q4 Xa Sz Xw Ta XX Sh Y4 R3:!AT}{YC Xo Yh X3 XG Xj YH X5:!Str}{Zd Xi Xt YE YD Xm Zb YG:Bool}{TN Uo Q5 Q9 UT Rq Te Rg:Option Bool}{W6 Xx IB W7 YQ Xz XA W0:Option AC}{XE Ze XU XJ Yz YK Y8 Yr Zk Yq Xy Yy Xq W8 Zn Yo Xk Yb YF XZ Yw Xc X7 Yg Yi X8 Xr YL Xu Zr Y7 Yc YJ W2 YA Yx YV Xs Xn YN:Option AT}(VF:Own K mg pR)(Wz:Own K mg jj)(Wr:Own K mg jv)(WI:Own K mg iT)(WC:Own K mg dO)(V6:Own K mg ef)(VL:Own K mg gQ)(V8:Own K mg eu)(WW:Own K mg c8)(Vp:Own K mg eJ)(VI:Own K mg cJ)(QO:Own K mg fH)(Wc:Own K mg ip)(WX:Own K mg ft)(Vi:Own K mg dC)(V9:Own K mg cT)(Wu:Own K mg gc)(WY:Own K mg gf)(Vm:Own K mg ij)(Vr:Own K mg cg)(Wy:Own K mg gm)(V4:Own K mg d3)(V2:Own K mg cP)(VT:Own K mg cM)(WQ:Own K mg c9)(Wl:Own K mg d9)(VS:Own K mg ee)(V1:Own K mg eh)(Wj:Own K mg cC)(Wb:Own K mg gb)(Vk:Own K mg gp)(VG:Own K mg jF)(Wk:Own K mg dG)(Vo:Own K mg dF)(Wg:Own K mg fD)(Vv:Own K mg jE)(WH:Own K mg fc)(V0:Own K mg gj)(QS:nsIn K IN "op_in"=some (some (.ref P0)))(RO:K.lookup P0=some #[U2,Tw,.func (fnOf "op_in" "op_in" (bW lF) (aq lF) (ag lF) .none Sg Rp Sw Us Oa Sv),Uy])(Th:codeIn K Oa "op_in"=true)(Rk:keepIn K (.ref P0)=true)(QK:nsIn K IN "zero_in"=some (some (.ref OA)))(TV:K.lookup OA=some #[SW,Q7,.func (fnOf "zero_in" "zero_in" (bW gG) (aq gG) (ag gG) .none R8 TY RM RP NK Tq),Rh])(RQ:codeIn K NK "zero_in"=true)(Ud:keepIn K (.ref OA)=true)(QR:nsIn K IN "let_in"=some (some (.ref Pn)))(Ug:K.lookup Pn=some #[UG,RG,.func (fnOf "let_in" "let_in" (bW i6) (aq i6) (ag i6) .none Sm SQ UH Rl Nf Tp),Sn])(Tc:codeIn K Nf "let_in"=true)(Rf:keepIn K (.ref Pn)=true)(QV:nsIn K IN "make_in"=some (some (.ref PD)))(SV:K.lookup PD=some #[Vf,UA,.func (fnOf "make_in" "make_in" (bW gO) (aq gO) (ag gO) .none Q1 Ts Uq UL P8 Sk),Ry])(U4:codeIn K P8 "make_in"=true)(Q6:keepIn K (.ref PD)=true)(QA:nsIn K IN "ask_in"=some (some (.ref Qr)))(R9:K.lookup Qr=some #[Rn,Uj,.func (fnOf "ask_in" "ask_in" (bW jd) (aq jd) (ag jd) .none UJ UR RS U1 Qe S3),RT])(Ua:codeIn K Qe "ask_in"=true)(Um:keepIn K (.ref Qr)=true)(QP:nsIn K IN "case_in"=some (some (.ref P4)))(SU:K.lookup P4=some #[Rz,RA,.func (fnOf "case_in" "case_in" (bW gX) (aq gX) (ag gX) .none Tr UD RN UQ Qq SA),UE])(Si:codeIn K Qq "case_in"=true)(Tn:keepIn K (.ref P4)=true)(QH:nsIn K IN "new_in"=some (some (.ref M8)))(UK:K.lookup M8=some #[Tb,SG,.func (fnOf "new_in" "new_in" (bW iP) (aq iP) (ag iP) .none RK SD Sd Tg Mx Uu),Ti])(Tu:codeIn K Mx "new_in"=true)(S4:keepIn K (.ref M8)=true)(Ro:nsIn K IN "parted"=some (some (.ref Bt)))(UX:K.lookup Bt=some #[MP,Qj,.func (fnOf "parted" "parted" (bW eO) (aq eO) (ag eO) (.ref SI) My Na OC Mw J8 MK),PV])(U9:codeIn K J8 "parted"=true)(Td:keepIn K (.ref Bt)=true)(RW:nsIn K IN "law"=some (some (.ref TR)))(SJ:K.lookup TR=some #[Ul,RI,.func (fnOf "law" "law" (bW kP) (aq kP) (ag kP) .none OP OM Qa M9 KY Ms),UN])(Uk:codeIn K KY "law"=true)(TM:keepIn K (.ref TR)=true)(BC:nsIn K IN "all"=some none)(x9:nsIn K IN "bool"=some none)(BZ:nsIn K IN "int"=some none)(ie:nsIn K IN "isinstance"=some none)(Du:nsIn K IN "len"=some none)(xq:nsIn K IN "list"=some none)(Ct:nsIn K IN "max"=some none)(uk:nsIn K IN "range"=some none)(kq:nsIn K IN "reversed"=some none)(CS:nsIn K IN "str"=some none)(sJ:nsIn K IN "tuple"=some none)(C3:nsIn K IN "zip"=some none)(ix:nsIn K IN "ValueError"=some none)(Tv:nsIn K IN "TAKEN_WORDS"=some (some (.ref at_)))(US:K.lookup at_=some #[.type "tuple",XY,.seq Ao nT,Uc])(UW:nsIn K IN "LONGEST_NAME"=some (some (.int 8 RJ)))(U3:nsIn K IN "MOST_FIGURES"=some (some (.int 6 WU)))(S8:nsIn K IN "BRACKETS"=some (some (.ref QY)))(RY:K.lookup QY=some #[.type "dict",none,.dict Ww Xv,#v[]])(SK:K.lookup SI=some #[W4,Yt,.seq #v[.str "|" RH] nP,X4])(HD:RH≠0)(Vb:(QY == SB)=false)(TZ:mQ w Ww.toList (brk P0 OA Pn PD Qr P4 M8))(QX:Vals (taken.map V.str) Ao.toList)(aS:nsIn K IN "SideError"=some (some (.ref S)))(lS:K.lookup S=some #[cS,dS,.cls IJ,QC])(mS:IJ.mro=.ref S::jA)(eN:IJ.ns=Tj)(lN:K.lookup Tj=some #[cN,dN,.dict es ep,QJ])(sN:Kb es=true)(iN:nsIn K Tj "__init__"=some none)(tS:typeIn K (.ref S)=some (.type "type"))(b1:specialIn K (.ref S) "__getattribute__"=some (some (.builtin "type.__getattribute__")))(b2:PySem.W.readsIn K S (.type "type")=true)(b3:PySem.W.findCls K (.ref S) (.type "type") "__init__"=some (.val (.builtin "ValueError.__init__")))(A0:nsIn K IN "NoText"=some (some (.ref a0)))(L0:K.lookup a0=some (excClassObj Xb q0 a0 N0 Yd (.ref S::jA) true YC S7 Zd TN W6 XE Ze XU XJ Yz "ValueError.__new__"))(T0:typeIn K (.ref a0)=some (.type "type"))(A1:nsIn K IN "NoProgram"=some (some (.ref a1)))(L1:K.lookup a1=some (excClassObj UI q1 a1 N1 Y2 (.ref S::jA) true Xo Ra Xi Uo Xx YK Y8 Yr Zk Yq "ValueError.__new__"))(T1:typeIn K (.ref a1)=some (.type "type"))(A2:nsIn K IN "NoTerm"=some (some (.ref a2)))(L2:K.lookup a2=some (excClassObj YU q2 a2 N2 Zj (.ref S::jA) true Yh Sx Xt Q5 IB Xy Yy Xq W8 Zn "ValueError.__new__"))(T2:typeIn K (.ref a2)=some (.type "type"))(A3:nsIn K IN "NoValue"=some (some (.ref a3)))(L3:K.lookup a3=some (excClassObj Ve q3 a3 N3 XH (.ref S::jA) true X3 Q4 YE Q9 W7 Yo Xk Yb YF XZ "ValueError.__new__"))(T3:typeIn K (.ref a3)=some (.type "type"))(A4:nsIn K IN "NotFlat"=some (some (.ref a4)))(L4:K.lookup a4=some (excClassObj X6 q4 a4 N4 Xa (.ref S::jA) true XG Sz YD UT YQ Yw Xc X7 Yg Yi "ValueError.__new__"))(T4:typeIn K (.ref a4)=some (.type "type"))(A5:nsIn K IN "NoKind"=some (some (.ref a5)))(L5:K.lookup a5=some (excClassObj Qy q5 a5 N5 Xw (.ref S::jA) true Xj Ta Xm Rq Xz X8 Xr YL Xu Zr "ValueError.__new__"))(T5:typeIn K (.ref a5)=some (.type "type"))(A6:nsIn K IN "NoEdit"=some (some (.ref a6)))(L6:K.lookup a6=some (excClassObj Mq q6 a6 N6 XX (.ref S::jA) true YH Sh Zb Te XA Y7 Yc YJ W2 YA "ValueError.__new__"))(T6:typeIn K (.ref a6)=some (.type "type"))(A7:nsIn K IN "NoRow"=some (some (.ref a7)))(L7:K.lookup a7=some (excClassObj Xh q7 a7 N7 Y4 (.ref S::jA) true X5 R3 YG Rg W0 Yx YV Xs Xn YN "ValueError.__new__"))(T7:typeIn K (.ref a7)=some (.type "type"))(Se:findIn K (.ref a0) "__setattr__"=some (some (.builtin "object.__setattr__")))(S6:findIn K (.ref a0) "__getattribute__"=some (some (.builtin "BaseException.__getattribute__")))(SN:findIn K (.ref a0) "__getattr__"=some none)(S9:findIn K (.ref a0) "__class__"=some (some (.builtin "object.__class__")))(in4:findIn K (.ref a0) "__init__"=some (some (.ref f4)))(Uw:typeIn K (.ref f4)=some (.type "function"))(S5:keepIn K (.ref a0)=true)(l4:K.lookup f4=some #[Ya,Xe,.func (fnOf "__init__" "NoText.__init__" (bW i4) (aq i4) (ag i4) .none Ys YX XC X1 VC Ye),Xd])(c4:codeIn K VC "NoText.__init__"=true)(k4:keepIn K (.ref f4)=true)(r4:findIn K (.ref a0) "row"=some none)(nd:([S,a0,a1,a2,a3,a4,a5,a6,a7]:!AC).Nodup) :
  ∃ fd:IR,(∀ (s:Ch) (v:AT),BindsTo s fd #[[v],[]] [("_law_script",v)])/\∀ base:Ev,K.In base->base.Ns IN mg->br l.prog w K mg base aV 230 fa fd ["_law_script"] (z0 K):=by
 have e:=Zo.symm.trans (ZZ X G RW);cases e;subst eN;have iNo:nsFind es "__init__"=none:=by
  unfold nsIn at iN;rw[lN] at iN;dsimp only at iN;split at iN
  .cases iN
  .rename_i he
   unfold nsFind findBy;rw[<- Array.find?_toList,he]
   rfl
 have xc4:ExC K a0:=#[#[_,_,_,S,_,_,_,_,_,_,_,_,_,_,_,_,_,_,_,_,_,_,_,_,L0,lS,lN,sN,iNo],Se,S6,SN];have cS':Cl K S jA:=#[#[IJ,by unfold PySem.W.clsIn;rw[lS],mS],tS];have cl0:=HC L0 T0;have cl1:=HC L1 T1;have cl2:=HC L2 T2;have cl3:=HC L3 T3;have cl4:=HC L4 T4;have cl5:=HC L5 T5;have cl6:=HC L6 T6;have cl7:=HC L7 T7;have nN:=ZZ X G A0;have F4:=sY (st:=i4) l4 c4 k4;have bN:=F4.binds (ps:=["self","row"]) λ_ _ _ _ _ _=>uK λ_ _=>rfl;have MN:Nv K a0 f4:=#[xc4,in4,Uw,S5];have kO:kitAny K (.ref a0) ([a1,a2,a3,a4,a5,a6,a7].map AT.ref)=some false:=by
  show zE cl0 λd hd=>?_;simp only[List.mem_cons,List.not_mem_nil,or_false] at hd;rcases hd with rfl | rfl | rfl | rfl | rfl | rfl | rfl
  .exact#[cl1,kD nd (i:=1) (j:=2) U U (),kD nd (i:=0) (j:=2) U U ()]
  .exact#[cl2,kD nd (i:=1) (j:=3) U U (),kD nd (i:=0) (j:=3) U U ()]
  .exact#[cl3,kD nd (i:=1) (j:=4) U U (),kD nd (i:=0) (j:=4) U U ()]
  .exact#[cl4,kD nd (i:=1) (j:=5) U U (),kD nd (i:=0) (j:=5) U U ()]
  .exact#[cl5,kD nd (i:=1) (j:=6) U U (),kD nd (i:=0) (j:=6) U U ()]
  .exact#[cl6,kD nd (i:=1) (j:=7) U U (),kD nd (i:=0) (j:=7) U U ()]
  .exact#[cl7,kD nd (i:=1) (j:=8) U U (),kD nd (i:=0) (j:=8) U U ()]
 have TE:L8 K mg S a0 a1 a2 a3 a4 a5 a6 a7:=#[aaa X G ix,ZZ X G aS,ZZ X G A0,ZZ X G A1,ZZ X G A2,ZZ X G A3,ZZ X G A4,ZZ X G A5,ZZ X G A6,ZZ X G A7,#[xc4,S9],(cl0.XB cl0 UO).trans (congrArg some isIn),#[r4],kO,(cl0.Vy cS').trans (congrArg some TU),cl0.Rr RE];have hsz:Ao.size<=FB:=by
  have q:=QX.length;have q2:Ao.toList.length=Ao.size:=by simp
  have q3:(taken.map V.str).length=13:=rfl;have q4:(13:Nat)<=FB:=by decide
  cbv
 have T:Txt K mg:=#[aaa X G BC,aaa X G x9,aaa X G BZ,aaa X G ie,aaa X G Du,aaa X G xq,aaa X G Ct,aaa X G uk,aaa X G kq,aaa X G CS,aaa X G sJ,aaa X G C3];have J:RD K mg at_:=#[#[_,ZZ X G UW],#[_,ZZ X G U3],ZZ X G Tv,λH=>.inr #[_,Ao,nT,US,U,U,hsz,QX]];have D:LQ l.prog w K QY (brk P0 OA Pn PD Qr P4 M8):=#[#[_,RY,TZ.dict (by change List.Nodup (["+","-","*","zero","let","make","ask","case","new"]:!Str);decide+kernel)],Vb];have QD:=ZZ X G S8;have IG:vX K "parted" "parted" eO Bt _ "|" RH:=#[#[MP,Qj,My,Na,OC,Mw,J8,MK,PV,SI,_,nP,U,UX,U9,SK,U],Td];have LZ:=IG.binds;have LP:=ZZ X G Ro;have mOP:=ZZ X G QS;have FOP:Own K mg sC:=je X G QS RO Th Rk λ_ _ _ _ _ _=>uK λ_ _=>rfl;have mZE:=ZZ X G QK;have FZE:Own K mg mj:=je X G QK TV RQ Ud λ_ _ _ _ _ _=>uK λ_ _=>rfl;have mLE:=ZZ X G QR;have FLE:Own K mg p0:=je X G QR Ug Tc Rf λ_ _ _ _ _ _=>uK λ_ _=>rfl;have mMA:=ZZ X G QV;have FMA:Own K mg mv:=je X G QV SV U4 Q6 λ_ _ _ _ _ _=>uK λ_ _=>rfl;have mAS:=ZZ X G QA;have FAS:Own K mg pH:=je X G QA R9 Ua Um λ_ _ _ _ _ _=>uK λ_ _=>rfl;have mCA:=ZZ X G QP;have FCA:Own K mg mh:=je X G QP SU Si Tn λ_ _ _ _ _ _=>uK λ_ _=>rfl;have mNW:=ZZ X G QH;have FNW:Own K mg pj:=je X G QH UK Tu S4 λ_ _ _ _ _ _=>uK λ_ _=>rfl;have FLa:=sY (st:=kP) SJ Uk TM;let(fLI,fdLI,FL0,mLI,bLI):=id VF;show#[fnOf "law" "law" (bW kP) (aq kP) (ag kP) .none OP OM Qa M9 KY Ms,λs v=>.of_eq U,λbase _ _=>?_];have GN:=NG (P:=l.prog) (w:=w) (base:=base) F4 #[b1,b2,b3] (ZZ X G aS) xc4 #[r4];have gIN:C4 l.prog w K mg base aV jj 2 (b5 K .no (LY uW)):=Wz.c λ_ _ F=>HF (Gv (P:=l.prog) (w:=w) (base:=base) F T J FL0 mLI bLI);have gNU:C4 l.prog w K mg base aV iT 2 (b5 K .no (LY isNum)):=WI.c λ_ _ F=>HF (AI (P:=l.prog) (w:=w) (base:=base) F T J FL0 mLI bLI);have gNE:=Om (P:=l.prog) (w:=w) (base:=base) nN MN GN bN WC T;have gNI:=NX gNE gIN V6 T;have gIK:=MY gIN Wr T;have gKI:=OB gNE gIK VL T;have gTI:=Mu gNU gNI V8 T;have gTS:=Oo gTI WW T;have gOP:=Qh gNE gTS FOP T;have gZE:=Px gNE gTS FZE T;have gLE:=Qt gNE gNI gTS FLE T;have gMA:=Nz gNE gNI gTS FMA T;have gAS:=Og gNE gNI gTI gTS FAS T;have gIR:=Mm gNE gNI gTI Vp T;have gRS:=PK gIR VI T;have gPD:=O5 (P:=l.prog) (w:=w) (base:=base) IG T;have gNW:=NW gPD HD IG LP LZ gNE gKI gRS FNW T;have gCA:=Ob gPD HD IG LP LZ gNE gTI gKI gRS FCA T;have gBI:=OI gNE (gOP.wX mOP ()) (gZE.wX mZE ()) (gLE.wX mLE ()) (gMA.wX mMA ()) (gAS.wX mAS ()) (gCA.wX mCA ()) (gNW.wX mNW ()) D QD QO T;have gIS:=Qb gNE gBI Wc T;have gRT:=Qi gIS gNE gTI WX T;have gSH:=Nl (Pb (OU (P:=l.prog) (w:=w) (base:=base) V9 T) (Pp (P:=l.prog) (w:=w) (base:=base) Vi T) Wu T) WY T;have gLR:=Iv (P:=l.prog) (w:=w) (base:=base) (Oy WQ T) (OS V2 T) (Qo VT T) Wj Wl VS V1 T 56;have gDU:=Oc (Pg Wb T) gLR Vv T;have gRI:=MD gDU (O9 TE gRT WH T) gRT.calm (Hz Vk T 225) gSH V0 T;have gDr:=λd l'=>(K7 (P:=l.prog) (w:=w) (base:=base) Vr T).imp λ_ _=>Fo (d:=d) (l:=l');have gST:=λd l'=>C4.ra λr=>HA (r:=r) ((gDr d l').imp λ_ _=>GP) V4 T 7;have gSL:=λd l'=>PN (gDr d l') (Nr (gDr d l') VG T) (Qu (gDr d l') (Ot (gDr d l') Wk T) Vo T) Wg T;exact KR gDr (λd l'=>Cf (gDr d l') Wy T) gST gSL gRI (Kh (P:=l.prog) (w:=w) (base:=base) Vm T) FLa T
theorem walk{l:PySem.W.OpenLaw}{q:Fr}{loose:!Str}{XP:(Str->Option AT)->Ev->Prop}{YP:Fa->Ev->Prop}{d:DefRec}{K:Tk->Frag}(hn:l.most=some 63)(Pe:d.params.defaults=[])(hY:∀ (w:Fa) (h:Ev),YP w h->(K w.params).In h)(F:∀ (w:Fa) (mg:Str->Option AT) (fa:AC) (h:Ev),(K w.params).In h->h.Ns IN mg->mg d.name=some (.ref fa) ->
   ∃ fd:IR,(∀ (s:Ch) (u:AT),BindsTo s fd #[[u],[]] [("_law_script",u)])/\∀ base:Ev,(K w.params).In base->base.Ns IN mg->br l.prog w (K w.params) mg base aV 230 fa fd ["_law_script"] (z0 (K w.params))) :
  PySem.W.WalkO q loose XP YP l.row.toRowW d [] (λf vs=>PySem.call f vs) :=
 L2.GY (n:=63) (k:=230) (x:="_law_script") (CX:=λ_=>aV) (sp:=λw=>z0 (K w.params)) hn () Pe #[U,by decide,by decide] hY F (λ_ _ a ns hl _ hS=>#[a,ns,U,hS,hl,λ_=>rfl]) λ_ _ _ _ _ z=>z
end HL
end
end
end
section
local macro_rules
 | `(#check [$n,*])=>do return Lean.mkNullNode (<-n.getElems.mapM fun x=>`(command|theorem $(Lean.mkIdent (.mkSimple s!"tw{x.raw.isNatLit?.get!}")):ident :True:=trivial))
namespace PySem.W.Fast
#check [3674141985168115106,8179993160432877787,7154314805725300982,4364811250509888719,9237801606199918098,16533539183895695390,6919885170874193367,6172202631085586019,10666761071508046976,1158722169025943309,6394319403825549009,15940706245602398028,683109198864647780,11373660352360018794,4749624387196141529,13257947241911525426,17985949962908570678,13890618379969080487,7154331609120549156,1839389179391665946,2807745984143600105,10464011035161896134,8537824043675103780,4922958753801600313,11217189808038349179,952989336545306628,9592187431102208169,6033190090712989032,4624787676973016567,11134595775349280878,2791597935139522205,5124604348955741596,10880390974621969168,11011590596387251876,7974142413829088894,8844202627005860206,8495464749967620675,9409844505337818102,5109273820217355510,6596902033786232386,11374543974163414253,6715630507215730731,15504366998039828463,2073118739356199905,7608959190578720755,3197299034553702048,14631887763382509953,17941636952673336723,8049211317172451241,9033888622012424000,9912489778351480385,17300014061356617330,14929935553815048630,16098833438312107266,14147967143474122420,5098100733007823422,3215350336180366662,17815644144827905798,6099383731177721929,4985643335730926733,12841534265501046695,3037803678579943254,18039268999352949734,6586190740212382002,884146782513180151,7847451817240991214,13424707602284762054,18122295018373454120,10550478002880889794,4031780403117771184,16625544874076880920,6725806401208049964,9043080056477616214,5018719526722736273,4594943868051166019,2493805291624143184,14623923514362716412,5954312387780952123,13143421472171111270,4922124847965216987,1127876764469961296,14653878703942989558,13140670822796207142,1440126263048129661,10657028244603239785,15517674240027782149,7651240833573136001,9137852400740676423,14170699475628000111,4629126316892040086,12695051001998801279,11929171448992645702,5944993380367271910,17418432211585679476,14696616148156938930,9815028184082783960,6551352159246442996,15393541287100243189,9902926846514331237,1589545738129491242,16915991520517835127,10469757283343956567,12041237881235139983,8680003379521981723,14910431944465666239,7030629184646364862,13322524926615710735,16663172223111611404,12733083720935091423,3083722131574500775,16216426778508400001,4572559771449199867,597303973088124594,7430770321924480472,12584920355678942872,8212034254586911643,11849148507392850167,12060934219268215993,18278876555475150049,10581403279426027703,1112347241591067666,9418979685608606510,3149401321404043570,4557353677847406495,7363764157970170266,16461243189663473128,6902389278831841778,4180645642045238879,5123544122572283612,10815085100031385938,12577962633489720911,17528906303461554729,6851919640950802939,3755058434123008843,7073874076002306707,3665581590125326427,15733496716958085302,10358179248327571286,12810469299920402517,8266594030070429075,6167715655922337518,5112008115466140319,17215520035214640922,7627676599252048924,18309349584849955397,4339149032927087873,1818206657907618122,3792816323180333038,17514723041647843463,9964665435022158987,9027963254009714514,2895159188415558079,3939858654721939550,13715742027457581831,162129761912848936,10475131139777819321,3325756757615640664,12534345039934110045,12748987401829920797,1674351899233646184,17239802562677499321,15510685768653615407,1048181344722405349,4793050554186427730,13035767740098854171,9796940794045612062,9082754817684955109,8983985965159831057,14153478790728967524,7031735255752028247,10426658918123840782,5069209089044101439,9773270249936990526,3850037302779164420,14544264952060620400,11896303969436577953,7224803522329552458,4371092171918096002,11812456314324625295,15933045312185131337,11901285004377936016,3876210356705513771,10497762786318591855,7761678339917925254,2701452354331512728,6707890434835316886,6342972010031975747,8706113489136215880,4114065735252749408,4715300912077166541,3529932782688458457,3421071461660985566,12972003729935101448,5938226849273892930,12191040762908005887,14924703598832401756,3016747764757851689,7142524088023489010,7123490044300505960,15820635379062550104,1925397969596045813,6972388655420143883,1951553113699256891,377890127728256168,11989273527657263404,2326611827454981472,13586660864314968754,15849018797267443932,10599394052287189255,18043492114252906078,16010649245725948746,5660961004388885254,2498102189810690110,10563742302033281082,2496782169040323393,10882313464877759486,5056728990545266135,12330926743232553,3587661120666404324,12046479986631025508,16244293745257055165,5482458663903589509,16956026464339957510,8401965235378435043,2729920570382967677,801032342444245163,10720168463423763572,13954764032277631472,17212601252376499181,1089662000846685219,4482407096218462534,13344794757469089123,12483878245464343320,10158647792180638186,2814976417634458573,14096349008820656507,4873420807974491,14114262531938838344,15156581225233749639,6278906769437501360,15383183909348730524,13739553206003993879,18123584922804604431,445569678736222110,9553843350242043239,9186692734678014078,11106365097791663886,8800083208038489003,17603328147992571937,1045660590610958046,13831964558433333979,1809637594338140763,13680202191840967179,5830332122213919251,2760406075030927868,14640527658392252036,12518130077850536005,8042368571696961779,11284990251253224356,9255710307125082221,1841501585167870238,16442805811203581860,5167638613034806244,13851668114193741209,4746562346968851860,6648392213470440919,6561722461186643001,8061112513236094836,15461356634317097266,14290703008163405075,3108034220046510035,4851388016468302226,8145514692313913800,13672541275281670034,18261016081685022759,5990418286141468867,2380238753714266693,3927642063864904752,16772678617726151917,1398397110437340805,5941165879610155412,7105031371963075989,6620556755409909154,3544756426622628255,11535053147904283561,10765537128684479305,7728566833249329109,1505452926823810840,6932524604611540654,14897509805331682557,3470041369208655660,14499732173584916056,14418840709200604315,5171725935504071081,6593053053929579842,1004983770191355146,1082674228858104520,17361581649830392304,8571034691280348272,8730919601123598043,6553321751352930769,15432653751306769849,8078237079921576891,1991312428864531463,9948302675154334987,4783889601526435824,13813381400775517112,12529330753477782460,17022797234885754225,8848709744363205791,8490523328073545792,11379996717527561011,13904035585742581414,7917600819285664321,2243953162690490438,11123967410906374618,14627902412340264004,11483113005762138955,13815268576046524181,12481633964989941266,1642819194553135550,6927295138615114062,6906008933832771094,3001498912353335647,15537814686175097568,3741240369055180062,8549425057502120784,4988093621285688373,3548448213557646668,9134578691020766832,855394204958466534,1362219570351671362,9216463492508869647,3526296298859218881,4402383152883653149,7583352405582589174,17227638960639873824,5940752377808157587,3421317388706834909,3477067274672485601,8299744707522059701,12869601241195671307,1974822855338330023,3099700091661670867,16525408281493261373,9495449580078295192,6495762680570623145,915415831003825777,2180095053458539445,3827826792147301691,10346306812523375603,15485049000255017897,8627375214862373062,6135267233509281766,14759090257180045483,4287704134498276653,7411818108050934629,18354897855241463643,997736811427993229,17401273595423968831,253777764437599399,5397764550418569033,9817520781191791341,8739722285246303910,17290209223207255224,12894756672855269493,788452853744044146,13714362475182239487,8144306302580306691,17058622363270801867,4503479356833460345,15112558596120808906,3093385366059214924,14471640686355503682,398414275120921906,14740831166485774009,966152551121900454,11797587781880917602,11832186260580909732,15064046358562053906,11112722737352130817,11340495662193390918,2060130998648127584,1372400540264505231,9212593340786667261,1147373104886287997,7715799511189745495,15713050441331111019,10422348855992985556,15411112096928754433,11801593547229023263,12930456612548586261,12121268599920765349,5624328096839446749,9555590825959735073,11585998129841373901,14788234861523117828,12139723450172909597,17788340418842755077,7478044052207653295]
end PySem.W.Fast
end
open PySem PySem.W PyProof.Rows
set_option maxRecDepth 100000 in
set_option maxHeartbeats 0 in
theorem PySem.Challenge.cw_sideturn_k07_terms_amiss_holds : PySem.Challenge.rw_sideturn_k07_terms_amiss.Holds := by
 w_on;o_law;k_head;(case hw=>w_witness2)
 k_fill
 refine HL.walk (l:=PySem.Challenge.rw_sideturn_k07_terms_amiss) U U (λw h Y=>PySem.W.kIn_of Y) ?F
 case F =>
  intro w mg fa h KX G hmg
  refine' HL.all_mk KX G hmg ?VF ?Wz ?Wr ?WI ?WC ?V6 ?VL ?V8 ?WW ?Vp ?VI ?QO ?Wc ?WX ?Vi ?V9 ?Wu ?WY ?Vm ?Vr ?Wy ?V4 ?V2 ?VT ?WQ ?Wl ?VS ?V1 ?Wj ?Wb ?Vk ?VG ?Wk ?Vo ?Wg ?Vv ?WH ?V0 ?QS ?RO ?Th ?Rk ?QK ?TV ?RQ ?Ud ?QR ?Ug ?Tc ?Rf ?QV ?SV ?U4 ?Q6 ?QA ?R9 ?Ua ?Um ?QP ?SU ?Si ?Tn ?QH ?UK ?Tu ?S4 ?Ro ?UX ?U9 ?Td ?RW ?SJ ?Uk ?TM ?BC ?x9 ?BZ ?ie ?Du ?xq ?Ct ?uk ?kq ?CS ?sJ ?C3 ?ix ?Tv ?US ?UW ?U3 ?S8 ?RY ?SK ?HD ?Vb ?TZ ?QX ?aS ?lS ?mS ?eN ?lN ?sN ?iN ?tS ?b1 ?b2 ?b3 ?A0 ?L0 ?T0 ?A1 ?L1 ?T1 ?A2 ?L2 ?T2 ?A3 ?L3 ?T3 ?A4 ?L4 ?T4 ?A5 ?L5 ?T5 ?A6 ?L6 ?T6 ?A7 ?L7 ?T7 ?Se ?S6 ?SN ?S9 ?in4 ?Uw ?S5 ?l4 ?c4 ?k4 ?r4 ?nd
  all_goals try (refine' DL.je KX G ?a ?l ?c ?k ?b;(case a=>k_is);(case l=>k_is);(case c=>k_is);(case k=>k_is);(case b=>intro _ _ _ _ _ _ us hl;rcases us with _ | ⟨_,_ | ⟨_,_ | ⟨_,_ | ⟨_,_ | ⟨_,_ | ⟨_,_⟩⟩⟩⟩⟩⟩<;>first | rfl | cases hl))
  (case QS=>k_is)
  (case RO=>k_is)
  (case Th=>k_is)
  (case Rk=>k_is)
  (case QK=>k_is)
  (case TV=>k_is)
  (case RQ=>k_is)
  (case Ud=>k_is)
  (case QR=>k_is)
  (case Ug=>k_is)
  (case Tc=>k_is)
  (case Rf=>k_is)
  (case QV=>k_is)
  (case SV=>k_is)
  (case U4=>k_is)
  (case Q6=>k_is)
  (case QA=>k_is)
  (case R9=>k_is)
  (case Ua=>k_is)
  (case Um=>k_is)
  (case QP=>k_is)
  (case SU=>k_is)
  (case Si=>k_is)
  (case Tn=>k_is)
  (case QH=>k_is)
  (case UK=>k_is)
  (case Tu=>k_is)
  (case S4=>k_is)
  (case Ro=>k_is)
  (case UX=>k_is)
  (case U9=>k_is)
  (case Td=>k_is)
  (case RW=>k_is)
  (case SJ=>k_is)
  (case Uk=>k_is)
  (case TM=>k_is)
  (case BC=>k_is)
  (case x9=>k_is)
  (case BZ=>k_is)
  (case ie=>k_is)
  (case Du=>k_is)
  (case xq=>k_is)
  (case Ct=>k_is)
  (case uk=>k_is)
  (case kq=>k_is)
  (case CS=>k_is)
  (case sJ=>k_is)
  (case C3=>k_is)
  (case ix=>k_is)
  (case Tv=>k_is)
  (case US=>k_is)
  (case UW=>k_is)
  (case U3=>k_is)
  (case S8=>k_is)
  (case RY=>k_is)
  (case SK=>k_is)
  (case HD=>decide)
  (case Vb=>rfl)
  (case TZ=>(repeat (first | exact .nil | refine .cons ⟨_,U⟩ rfl U ?_)))
  (case QX=>(repeat (first | exact .nil | refine .cons ⟨⟨_,by decide⟩,U⟩ ?_)))
  (case aS=>k_is)
  (case lS=>k_is)
  (case mS=>rfl)
  (case eN=>rfl)
  (case lN=>k_is)
  (case sN=>rfl)
  (case iN=>k_is)
  (case tS=>k_is)
  (case b1=>k_is)
  (case b2=>k_is)
  (case b3=>k_is)
  (case A0=>k_is)
  (case L0=>k_is)
  (case T0=>k_is)
  (case A1=>k_is)
  (case L1=>k_is)
  (case T1=>k_is)
  (case A2=>k_is)
  (case L2=>k_is)
  (case T2=>k_is)
  (case A3=>k_is)
  (case L3=>k_is)
  (case T3=>k_is)
  (case A4=>k_is)
  (case L4=>k_is)
  (case T4=>k_is)
  (case A5=>k_is)
  (case L5=>k_is)
  (case T5=>k_is)
  (case A6=>k_is)
  (case L6=>k_is)
  (case T6=>k_is)
  (case A7=>k_is)
  (case L7=>k_is)
  (case T7=>k_is)
  (case Se=>k_is)
  (case S6=>k_is)
  (case SN=>k_is)
  (case S9=>k_is)
  (case in4=>k_is)
  (case Uw=>k_is)
  (case S5=>k_is)
  (case l4=>k_is)
  (case c4=>k_is)
  (case k4=>k_is)
  (case r4=>k_is)
  (case nd=>decide+kernel)
