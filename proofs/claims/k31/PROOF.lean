import PyProof.Rows.All
import Wide.All
import OpenK.AllK
import Wide.FinOn
import Lean
import PyProof.EqAt
import PyProof.EqKinds
import PyProof.TupleCall
import PyProof.ZipIter
import PyProof.NeData
import PyProof.Draws
import PyProof.EnumMake
import PyProof.IsiHeapPairs
import PyProof.IsiNone
import PyProof.ConsumeWalk
import PyProof.TupleOfStr
import PyProof.DictWalks
import KE.KDictSum
import KE.KDictOf
import PyProof.IsiH_list
import PySem.Challenge.RW_sideturn_k31_values_read_by_names
set_option Elab.async false
set_option linter.all false
set_option maxRecDepth 100000
set_option maxHeartbeats 8000000
namespace L2
open PySem PySem.Spec PyProof.Rows
abbrev Key:=Sum Int Str
def iJ:Key→Value→Bool
 | .inl k,v=>Value.isInt k v
 | .inr x,v=>Value.isStrOf x v
def CU (w:World):Key→Int
 | .inl k=>hashInt k
 | .inr x=>hashStr w x
theorem aT:∀ {k:Key} {v:Value},iJ k v=true→(∃ i t,k=Sum.inl i∧v=Value.int i t)∨(∃ x t,k=Sum.inr x∧v=Value.str x t)
 | .inl i,v,h=>by
  obtain ⟨t,e⟩:=Value.isInt_shape (k:=i) (v:=v) h
  exact .inl ⟨i,t,rfl,e⟩
 | .inr x,v,h=>by
  obtain ⟨t,e⟩:=Value.isStrOf_shape (x:=x) (v:=v) h
  exact .inr ⟨x,t,rfl,e⟩
theorem oC (i:Int) (t:Tok):iJ (.inl i) (.int i t)=true:=by simp [iJ,Value.isInt]
theorem oH (x:Str) (t:Tok):iJ (.inr x) (.str x t)=true:=by simp [iJ,Value.isStrOf]
theorem ye (a b:Int):decide ((Sum.inl a:Key)=Sum.inl b)=(a == b):=by
 by_cases e:a=b
 ·subst e;simp
 ·have h:¬ (Sum.inl a:Key)=Sum.inl b:=fun q=>e (Sum.inl.inj q)
  rw [decide_eq_false h]
  exact (beq_eq_false_iff_ne.mpr e).symm
theorem xa (a b:Str):decide ((Sum.inr a:Key)=Sum.inr b)=decide (a=b):=by
 by_cases e:a=b
 ·subst e;simp
 ·have h:¬ (Sum.inr a:Key)=Sum.inr b:=fun q=>e (Sum.inr.inj q)
  rw [decide_eq_false h,decide_eq_false e]
theorem wX (a:Int) (b:Str):decide ((Sum.inl a:Key)=Sum.inr b)=false:=decide_eq_false (fun q=>nomatch q)
theorem xB (a:Str) (b:Int):decide ((Sum.inr a:Key)=Sum.inl b)=false:=decide_eq_false (fun q=>nomatch q)
def ax (prog:Program) (w:World):PySem.KeyKind prog w Key where
 is:=iJ
 hash:=CU w
 inj:=fun v a b ha hb=>by
  rcases aT ha with ⟨i,t,rfl,rfl⟩ | ⟨x,t,rfl,rfl⟩
  ·rcases aT hb with ⟨j,u,rfl,e⟩ | ⟨y,u,rfl,e⟩
   ·injection e with e1 _;rw [e1]
   ·exact nomatch e
  ·rcases aT hb with ⟨j,u,rfl,e⟩ | ⟨y,u,rfl,e⟩
   ·exact nomatch e
   ·injection e with e1 _;rw [e1]
 byValue:=fun k v h=>by
  rcases aT h with ⟨i,t,rfl,rfl⟩ | ⟨x,t,rfl,rfl⟩<;>rfl
 pyHash:=fun hv h=>by
  rcases aT hv with ⟨i,t,rfl,rfl⟩ | ⟨x,t,rfl,rfl⟩
  ·exact wpAny_pyHash_int h
  ·exact wpAny_pyHash_str h
 eqBool:=fun hu hv h=>by
  rcases aT hu with ⟨i,t,rfl,rfl⟩ | ⟨x,t,rfl,rfl⟩
  ·rcases aT hv with ⟨j,u,rfl,rfl⟩ | ⟨y,u,rfl,rfl⟩
   ·rw [ye] at h;exact wpAny_eqBool_int h
   ·rw [wX] at h;exact SeqAt.EqAt.int_str i t y u _ _ _ _ h
  ·rcases aT hv with ⟨j,u,rfl,rfl⟩ | ⟨y,u,rfl,rfl⟩
   ·rw [xB] at h;exact SeqAt.EqAt.str_int x t j u _ _ _ _ h
   ·rw [xa] at h;exact wpAny_eqBool_str h
 «strs»:=fun k x t v h=>by
  rcases aT h with ⟨i,u,rfl,e⟩ | ⟨y,u,rfl,e⟩
  ·exact nomatch e
  ·injection e with e1 _
   subst e1
   cases v<;>rfl
theorem kx (prog:Program) (w:World) (i:Int) (t:Tok):(ax prog w).is (.inl i) (.int i t)=true:=oC i t
theorem lb (prog:Program) (w:World) (x:Str) (t:Tok):(ax prog w).is (.inr x) (.str x t)=true:=oH x t
end L2
namespace L2
open PySem PySem.Spec PyProof.Rows
inductive V where
 | aS | bl (b:Bool) | int (i:Int) | str (x:Str) | qv (b:Array UInt8) | Br (b:UInt64) | ref (a:Addr) | ty (n:String)
 deriving DecidableEq
def RelV:V→Value→Prop
 | .aS,u=>u=Value.none
 | .bl b,u=>u=Value.bool b
 | .int i,u=>∃ t,u=Value.int i t
 | .str x,u=>∃ t,u=Value.str x t
 | .qv b,u=>∃ t,u=Value.bytes b t
 | .Br b,u=>∃ t,u=Value.float b t
 | .ref a,u=>u=Value.ref a
 | .ty n,u=>u=Value.type n
abbrev Vals:List V→List Value→Prop:=Paired RelV
theorem Vals.length {xs:List V} {us:List Value} (r:Vals xs us):xs.length=us.length:=Paired.length r
theorem Vals.get:∀ {xs:List V} {us:List Value} {i:Nat} {x:V},Vals xs us→xs[i]?=some x→∃ u,us[i]?=some u∧RelV x u
 | _,_,_,_,.nil,e=>by simp at e
 | _,_,0,_,.cons r _,e=>by simp at e;subst e;exact ⟨_,rfl,r⟩
 | _,_,i+1,x,.cons _ t,e=>by
  obtain ⟨u,h1,h2⟩:=Vals.get (i:=i) (x:=x) t (by simpa using e)
  exact ⟨u,by simpa using h1,h2⟩
theorem Vals.set {x:V} {u:Value} (r:RelV x u):∀ {xs:List V} {us:List Value} (i:Nat),Vals xs us→Vals (xs.set i x) (us.set i u)
 | _,_,_,.nil=>.nil
 | _,_,0,.cons _ t=>.cons r t
 | _,_,i+1,.cons q t=>.cons q (Vals.set r i t)
theorem Vals.append:∀ {xs ys:List V} {us ws:List Value},Vals xs us→Vals ys ws→Vals (xs++ys) (us++ws)
 | _,_,_,_,.nil,s=>s
 | _,_,_,_,.cons r t,s=>.cons r (Vals.append t s)
theorem Vals.take:∀ {xs:List V} {us:List Value} (n:Nat),Vals xs us→Vals (xs.take n) (us.take n)
 | _,_,0,_=>.nil
 | _,_,_+1,.nil=>.nil
 | _,_,n+1,.cons r t=>.cons r (Vals.take n t)
theorem Vals.drop:∀ {xs:List V} {us:List Value} (n:Nat),Vals xs us→Vals (xs.drop n) (us.drop n)
 | _,_,0,r=>r
 | _,_,_+1,.nil=>.nil
 | _,_,n+1,.cons _ t=>Vals.drop n t
def fM:Option V→Option Value→Prop
 | some v,some u=>RelV v u
 | none,none=>True
 | _,_=>False
def KV {κ:Type}:List (κ×V)→List (κ×Value)→Prop:=Paired fun (p:κ×V) (q:κ×Value)=>p.1=q.1∧RelV p.2 q.2
def kV:Key→V
 | .inl i=>.int i
 | .inr x=>.str x
inductive HO where
  | lst (xs:List V)
  | tup (xs:List V)
  | dK (kvs:List (Key×V)) | dT (kvs:List (List Key×V))
  | set (S:Int→Bool) (n:Nat)
  | ins (C dx:Addr) (fs:List (Str×V))
  | own (x:Addr)
  | xd (fs:List (Str×V))
  | met (f x:Addr)
  | FX (lo hi:Int)
  | j4 (o:Obj) (u:HO)
  | jf (ps:Array Value)
  | ext (φ:Heap→Prop)
abbrev Hp:=Addr→Option HO
def upd (H:Hp) (a:Addr) (o:HO):Hp:=fun b=>if b=a then some o else H b
theorem ah {H:Hp} {a:Addr} {o:HO}:upd H a o a=some o:=by unfold upd;rw [if_pos rfl]
theorem ag {H:Hp} {a b:Addr} {o:HO} (h:b≠a):upd H a o b=H b:=by unfold upd;rw [if_neg h]
theorem uh {H:Hp} {a:Addr} {o u:HO}:upd (upd H a o) a u=upd H a u:=by
 funext b;unfold upd;split<;>rfl
theorem qh {H:Hp} {a b:Addr} {o u:HO} (h:H a=some o) (h':H b=some u) (d:o≠u):a≠b:=by
 intro e;subst e;rw [h] at h';exact d (Option.some.inj h')
theorem ak {H:Hp} {a b:Addr} {o:HO} (h:H a=some o) (h':H b=none):a≠b:=by
 intro e;subst e;rw [h] at h';cases h'
section
variable (P:Program) (w:World)
def aV (H:Hp) (h:Heap) (a:Addr):HO→Prop
 | .lst xs=>xs.length≤sizeLine∧∃ (its:List Value) (n:Nat),Vals xs its∧h.get? a=some { cls:=.type "list",data:=.seq its.toArray n }
 | .tup xs=>xs.length≤sizeLine∧∃ its:List Value,Vals xs its∧IsTup h a its.toArray
 | .dK kvs=>kvs.length≤sizeLine∧(a == sysModules)=false∧∃ vs,KV kvs vs∧h.DictOf (ax P w) a vs
 | .dT kvs=>kvs.length≤sizeLine∧(a == sysModules)=false∧∃ xs:List (List Key×Addr×Value),
   Paired (fun (p:List Key×V) (q:List Key×Addr×Value)=>p.1=q.1∧H q.2.1=some (.tup (p.1.map kV))∧RelV p.2 q.2.2) kvs xs ∧
   ∃ o es ep,h.get? a=some o∧o.ExactDict∧o.data=.dict es ep∧es.toList=xs.map (entryOfKey (tupleKind (ax P w)))∧(xs.map (·.1)).Nodup
 | .set S n=>h.SetOf (intKind P w) a S n
 | .ins C dx fs=>H dx=some (.own a)∧fs.length≤1000∧dx≠a∧h.get? a=some (PySem.W.instObj C dx) ∧
   ∃ mA,h.Ns1 dx mA∧(∀ f,fM (fs.lookup f) (mA f))∧PySem.Within mA (fs.map (·.1))
 | .own _=>∃ o,h.get? a=some o
 | .xd fs=>∃ mA,h.Ns1 a mA∧∀ f,fM (fs.lookup f) (mA f)
 | .FX lo hi=>∃ t u v,h.get? a=some { cls:=.type "range",data:=.fields #[.int lo t,.int hi u,.int 1 v] }
 | .j4 o u=>h.get? a=some o∧aV H h a u
 | .jf ps=>h.get? a=some { cls:=.none,data:=.fields ps }
 | .met f x=>h.get? a=some (PySem.W.methodObj (.ref f) (.ref x))
 | .ext φ=>φ h∧(∃ o,h.get? a=some o)∧∀ h1 h2:Heap,φ h1→(∀ o,h1.get? a=some o→h2.get? a=some o)→φ h2
def eU (H:Hp) (h:Heap):Prop:=∀ a o,H a=some o→aV P w H h a o
end
section
variable {P:Program} {w:World} {H H':Hp} {h h':Heap} {a:Addr} {o:HO}
theorem aV.lt (x:aV P w H h a o):a < h.objs.size:=by
 cases o with
 | lst xs=>obtain ⟨_,_,_,_,e⟩:=x;exact Heap.lt_size e
 | tup xs=>obtain ⟨_,_,_,p⟩:=x;exact p.lt
 | dK kvs=>obtain ⟨_,_,_,_,o,_,_,e,_⟩:=x;exact Heap.lt_size e
 | dT kvs=>obtain ⟨_,_,_,_,o,_,_,e,_⟩:=x;exact Heap.lt_size e
 | set S n=>obtain ⟨o,_,_,_,e,_⟩:=x;exact Heap.lt_size e
 | ins C dx fs=>obtain ⟨_,_,_,e,_⟩:=x;exact Heap.lt_size e
 | own y=>obtain ⟨_,e⟩:=x;exact Heap.lt_size e
 | xd fs=>obtain ⟨_,⟨_,_,_,e,_⟩,_⟩:=x;exact Heap.lt_size e
 | FX lo hi=>obtain ⟨_,_,_,e⟩:=x;exact Heap.lt_size e
 | j4 ob u=>obtain ⟨e,_⟩:=x;exact Heap.lt_size e
 | jf ps=>exact Heap.lt_size (show h.get? a=some _ from x)
 | met f y=>exact Heap.lt_size (show h.get? a=some _ from x)
 | ext φ=>obtain ⟨_,⟨_,e⟩,_⟩:=x;exact Heap.lt_size e
theorem Paired.qg {α β:Type} {F G:α→β→Prop}:∀ {l₁:List α} {l₂:List β},Paired F l₁ l₂→(∀ a b,F a b→G a b)→Paired G l₁ l₂
 | _,_,.nil,_=>.nil
 | _,_,.cons r t,f=>.cons (f _ _ r) (Paired.qg t f)
theorem aV.jI (x:aV P w H h a o) (k:∀ b u,(b=a∨H b=some (.own a))→h.get? b=some u→h'.get? b=some u)
  (ho:∀ b,H b=some (.own a)→H' b=some (.own a)) (ht:∀ b xs,H b=some (.tup xs)→H' b=some (.tup xs)):aV P w H' h' a o:=by
 induction o with
 | lst xs=>obtain ⟨z,its,n,r,e⟩:=x;exact ⟨z,its,n,r,k _ _ (.inl rfl) e⟩
 | tup xs=>obtain ⟨z,its,r,ob,e,c⟩:=x;exact ⟨z,its,r,ob,k _ _ (.inl rfl) e,c⟩
 | dK kvs=>obtain ⟨z,y,vs,r,ob,es,ep,e,c⟩:=x;exact ⟨z,y,vs,r,ob,es,ep,k _ _ (.inl rfl) e,c⟩
 | dT kvs =>
  obtain ⟨z,y,xs,r,ob,es,ep,e,c⟩:=x
  exact ⟨z,y,xs,Paired.qg r fun p q z=>⟨z.1,ht _ _ z.2.1,z.2.2⟩,ob,es,ep,k _ _ (.inl rfl) e,c⟩
 | set S n=>obtain ⟨ob,es,ep,t,e,c⟩:=x;exact ⟨ob,es,ep,t,k _ _ (.inl rfl) e,c⟩
 | ins C dx fs =>
  obtain ⟨d,z,ne,e,mA,⟨od,es,ep,e2,c⟩,r⟩:=x
  exact ⟨ho _ d,z,ne,k _ _ (.inl rfl) e,mA,⟨od,es,ep,k _ _ (.inr d) e2,c⟩,r⟩
 | own y=>obtain ⟨ob,e⟩:=x;exact ⟨ob,k _ _ (.inl rfl) e⟩
 | xd fs=>obtain ⟨mA,⟨od,es,ep,e,c⟩,r⟩:=x;exact ⟨mA,⟨od,es,ep,k _ _ (.inl rfl) e,c⟩,r⟩
 | FX lo hi=>obtain ⟨t,u,v,e⟩:=x;exact ⟨t,u,v,k _ _ (.inl rfl) e⟩
 | j4 ob u ih=>obtain ⟨e,q⟩:=x;exact ⟨k _ _ (.inl rfl) e,ih q⟩
 | jf ps =>
  have e:h.get? a=some { cls:=.none,data:=.fields ps }:=x
  show h'.get? a=some { cls:=.none,data:=.fields ps }
  exact k a _ (.inl rfl) e
 | met f y =>
  have e:h.get? a=some (PySem.W.methodObj (.ref f) (.ref y)):=x
  show h'.get? a=some (PySem.W.methodObj (.ref f) (.ref y))
  exact k a _ (.inl rfl) e
 | ext φ=>obtain ⟨p,⟨o,e⟩,st⟩:=x;exact ⟨st _ _ p fun o q=>k _ _ (.inl rfl) q,⟨o,k _ _ (.inl rfl) e⟩,st⟩
theorem eU.lt (x:eU P w H h) (e:H a=some o):a < h.objs.size:=(x a o e).lt
theorem eU.fresh (x:eU P w H h) (e:h.objs.size≤a):H a=none:=by
 cases q:H a with
 | none=>rfl
 | some u=>exact absurd (Nat.lt_of_lt_of_le (x.lt q) e) (Nat.lt_irrefl _)
theorem eU.kept (x:eU P w H h) (k:∀ b u,h.get? b=some u→h'.get? b=some u):eU P w H h':=fun a o e =>
 (x a o e).jI (fun b u _ q=>k b u q) (fun _ q=>q) fun _ _ q=>q
theorem eU.laid (x:eU P w H h) (k:∀ b u,h.get? b=some u→h'.get? b=some u) (hp:h.objs.size≤a) (new:aV P w (upd H a o) h' a o):eU P w (upd H a o) h':=fun b u e=>by
 have hn:=x.fresh hp
 by_cases hb:b=a
 ·subst hb;rw [ah] at e;cases e;exact new
 ·rw [ag hb] at e
  exact (x b u e).jI (fun c v _ q=>k c v q) (fun c q=>by rw [ag (ak q hn)];exact q) fun c xs q=>by rw [ag (ak q hn)];exact q
end
def Rd (H:Hp) (a:Addr) (u:HO):Prop:=H a=some u∨∃ o,H a=some (.j4 o u)
theorem Rd.ok {P:Program} {w:World} {H:Hp} {h:Heap} {a:Addr} {u:HO} (r:Rd H a u) (x:eU P w H h):aV P w H h a u:=by
 rcases r with r | ⟨o,r⟩
 ·exact x a u r
 ·obtain ⟨_,q⟩:=x a _ r
  exact q
def An:Option HO→Prop
 | some (.lst _)=>True
 | some (.dK _)=>True
 | some (.dT _)=>True
 | some (.set _ _)=>True
 | some (.ins _ _ _)=>True
 | some (.ext _)=>True
 | _=>False
section
variable {P:Program} {w:World} {H:Hp} {h h':Heap} {x e:Addr} {o':HO}
theorem eU.write (ok:eU P w H h) (mu:An (H x)) (he:e=x∨H e=some (.own x)) (k:∀ b u,b≠e→h.get? b=some u→h'.get? b=some u) (yp:∃ u,h'.get? e=some u)
  (new:aV P w (upd H x o') h' x o'):eU P w (upd H x o') h':=fun b u q=>by
 have nown:∀ c y,H c=some (.own y)→c≠x:=fun c y r z=>by subst z;rw [r] at mu;exact mu
 have xm:∀ c xs,H c=some (.tup xs)→c≠x:=fun c xs r z=>by subst z;rw [r] at mu;exact mu
 by_cases hb:b=x
 ·subst hb;rw [ah] at q;cases q;exact new
 ·rw [ag hb] at q
  by_cases hbe:b=e
  ·have q':H b=some (.own x):=by
    rcases he with z | z
    ·exact absurd (hbe.trans z) hb
    ·rw [hbe];exact z
   rw [q] at q';cases q'
   obtain ⟨v,hv⟩:=yp
   exact ⟨v,by rw [hbe];exact hv⟩
  ·refine (ok b u q).jI (fun c v hc r=>k c v ?_ r) (fun c r=>by rw [ag (nown c b r)];exact r) fun c xs r=>by rw [ag (xm c xs r)];exact r
   rcases hc with rfl | hc
   ·exact hbe
   ·rintro rfl
    rcases he with z | z
    ·exact nown c b hc z
    ·rw [hc] at z;cases z;exact hb rfl
end
structure Un (fs ex:List Addr) (H H':Hp) (h h':Heap):Prop where
 keep:∀ b o,h.get? b=some o→H b=none→b∉fs→b∉ex→h'.get? b=some o
 slot:∀ b o,h.get? b=some o→H b=none→b∈fs→b∉ex→∃ sl,h'.get? b=some { o with slots:=sl }
 free:∀ b o,h.get? b=some o→H b=none→b∉ex→H' b=none
 there:∀ b o,h.get? b=some o→b∉ex→∃ o',h'.get? b=some o'
 jS:∀ b xs,H b=some (.tup xs)→H' b=some (.tup xs)
 ia:∀ b o u,H b=some (.j4 o u)→H' b=some (.j4 o u)
 hX:∀ b ps,H b=some (.jf ps)→∃ more,H' b=some (.jf (ps++more))
section
variable {fs GZ ex Hs:List Addr} {H H1 H2:Hp} {h h1 h2 h':Heap} {a x e:Addr} {o:HO}
theorem Un.any (u:Un fs ex H H1 h h1) {b:Addr} {ob:Obj} (q:h.get? b=some ob) (n:H b=none) (hx:b∉ex):∃ sl,h1.get? b=some { ob with slots:=sl }:=by
 by_cases hb:b∈fs
 ·exact u.slot b ob q n hb hx
 ·exact ⟨ob.slots,u.keep b ob q n hb hx⟩
theorem Un.kept (k:∀ b u,h.get? b=some u→h'.get? b=some u):Un fs ex H H h h' :=
 ⟨fun b ob q _ _ _=>k b ob q,fun b ob q _ _ _=>⟨ob.slots,k b ob q⟩,fun _ _ _ n _=>n,fun b ob q _=>⟨ob,k b ob q⟩,fun _ _ q=>q,fun _ _ _ q=>q,fun _ ps q=>⟨#[],by rw [q];simp⟩⟩
theorem Un.refl:Un fs ex H H h h:=Un.kept fun _ _ q=>q
theorem Un.laid (k:∀ b u,h.get? b=some u→h'.get? b=some u) (hp:h.objs.size≤a) (hn:H a=none):Un fs ex H (upd H a o) h h' where
 keep:=fun b u q _ _ _=>k b u q
 slot:=fun b u q _ _ _=>⟨u.slots,k b u q⟩
 free:=fun b u q n _=>by rw [ag (Nat.ne_of_lt (Nat.lt_of_lt_of_le (Heap.lt_size q) hp))];exact n
 there:=fun b u q _=>⟨u,k b u q⟩
 jS:=fun b xs q=>by rw [ag (ak q hn)];exact q
 ia:=fun b u xs q=>by rw [ag (ak q hn)];exact q
 hX:=fun b ps q=>⟨#[],by rw [ag (ak q hn),q];simp⟩
theorem Un.write (mu:An (H x)) (he:e=x∨H e=some (.own x)) (k:∀ b u,b≠e→h.get? b=some u→h'.get? b=some u) (yp:∃ u,h'.get? e=some u):Un fs ex H (upd H x o) h h':=by
 have hx:∀ b,H b=none→b≠x:=fun b n z=>by subst z;rw [n] at mu;exact mu
 have hb:∀ b,H b=none→b≠e:=fun b n z=>by
  subst z
  rcases he with r | r
  ·exact hx b n r
  ·rw [n] at r;cases r
 have hm:∀ b u,H b=some u→¬ An (some u)→b≠x:=fun b u q nm z=>by subst z;rw [q] at mu;exact nm mu
 refine ⟨fun b u q n _ _=>k b u (hb b n) q,fun b u q n _ _=>⟨u.slots,k b u (hb b n) q⟩,fun b u q n _=>by rw [ag (hx b n)];exact n,fun b u q _=>?_,
  fun b xs q=>by rw [ag (hm b _ q fun z=>z)];exact q,fun b u xs q=>by rw [ag (hm b _ q fun z=>z)];exact q,fun b ps q=>⟨#[],by rw [ag (hm b _ q fun z=>z),q];simp⟩⟩
 by_cases hbe:b=e
 ·subst hbe;exact yp
 ·exact ⟨u,k b u hbe q⟩
end
def AY (h:Heap) (H:Hp):List Addr:=(List.range h.objs.size).filter fun a=>(H a).isSome
def eP (h:Heap) (H:Hp):Heap:=PySem.W.hideAll h (AY h H)
theorem ip (h:Heap) (H:Hp):(eP h H).objs.size=h.objs.size:=PySem.W.hideAll_size _ _
theorem la {h:Heap} {H:Hp} {b:Addr} {o:Obj} (e:h.get? b=some o) (n:H b=none):(eP h H).get? b=some o :=
 PySem.W.hideAll_get _ e fun hm=>by
  have q:(H b).isSome=true:=(List.mem_filter.mp hm).2
  rw [n] at q;simp at q
theorem nk {h:Heap} {H:Hp} {b:Addr} {o:Obj} (e:(eP h H).get? b=some o):h.get? b=some o∧H b=none:=by
 have e':h.get? b=some o:=PySem.W.of_hideAll (AY h H) e
 refine ⟨e',?_⟩
 cases q:H b with
 | none=>rfl
 | some x =>
  have hm:b∈AY h H:=List.mem_filter.mpr ⟨List.mem_range.mpr (Heap.lt_size e'),by simp [q]⟩
  have z:(eP h H).get? b=none:=PySem.W.hideAll_none (AY h H) hm
  rw [z] at e;cases e
end L2
namespace L2
open PySem PySem.Spec PyProof.Rows
structure Mod (K:PySem.W.Frag) (mg:Str→Option Value) (base:Heap):Prop where
 rZ:K.In base
 glob:base.Ns mainGlobals mg
 blt:∃ mb,base.Ns builtinsNs mb∧∀ x:Str,x≠"__name__"→mb x=bootBuiltins x
 nolimit:base.NoLimit
structure Cx where
 prog:Program
 w:World
 K:PySem.W.Frag
 mg:Str→Option Value
 base:Heap
 A:Around
 N:List Str
 s₀:Shared
 H₀:Hp
 env:Env
 outer:List Env
 stack:List Env
 ex:List Addr
 fn:Str→Bool
 calm:Bool
 pn:List (Addr×Obj)
 xe:Value→Shared→Prop
def hW (l:List Env):List Addr:=l.filterMap (·.frame)
abbrev Cx.fs (X:Cx):List Addr:=hW X.outer
def A3 (sc:Scope) (x:Str):Prop:=sc.names.lookup x=some .local∨sc.names.lookup x=some .cell∨sc.names.lookup x=some .free
def Loc (sc:Scope) (x:Str):Prop:=sc.names.lookup x=some .local∨sc.names.lookup x=some .cell
def Look (env:Env) (h:Heap) (m:Str→Option Value) (x:Str) (u:Value):Prop :=
 (env.kindOf x=some .local∧m x=some u)∨((env.kindOf x=some .cell∨env.kindOf x=some .free)∧∃ c,env.cells.lookup x=some c∧h.IsCell c (some u))
structure Cx.Ok (X:Cx):Prop where
 mod:Mod X.K X.mg X.base
 kind:X.env.scope.kind=.function
 glob:X.env.globals=mainGlobals
 blt:X.env.builtins=builtinsNs
 above:X.s₀.heap.objs.size≤X.env.locals
 inj:∀ x y c,X.env.cells.lookup x=some c→X.env.cells.lookup y=some c→x=y
 has:∀ x,(X.env.kindOf x=some .cell∨X.env.kindOf x=some .free)→∃ c,X.env.cells.lookup x=some c
 wc:∀ x c,X.fn x=true→X.env.cells.lookup x=some c→X.s₀.heap.objs.size≤c
 hd:X.calm=true→X.A.handled=none
 frames:X.A.frames=some X.stack
 A8:X.stack=X.outer∨(X.stack=X.env::X.outer∧X.env.frame=some X.env.locals)
 Bi:∀ b∈X.ex,b≠X.env.locals∧∀ x c,X.env.cells.lookup x=some c→c≠b
 bs:∀ b o,X.base.get? b=some o→X.s₀.heap.get? b=some o∧X.H₀ b=none
 rH:X.base.objs.size≤X.s₀.heap.objs.size
 p8:∀ b o,X.base.get? b=some o→b∉X.ex
 rN:∀ b∈X.ex,b∉X.fs
 fj:X.s₀.heap.FunFrames X.base X.outer
 xK:∀ b∈X.fs,X.H₀ b=none
structure Inv (X:Cx) (pins:List (Addr×Obj)) (σ:List (Option V)) (H:Hp) (s:Shared):Prop where
 ok:X.Ok
 os:s.os=X.s₀.os
 bare:AllBare s.gens
 base:Un X.fs X.ex X.H₀ H X.s₀.heap s.heap
 loc:∃ m,s.heap.Ns X.env.locals m∧∀ (i:Nat) (x:Str) (v:V),X.N[i]?=some x→σ[i]?=some (some v)→A3 X.env.scope x→∃ u,RelV v u∧Look X.env s.heap m x u
 cell:∀ x c,X.env.cells.lookup x=some c→∃ v,s.heap.IsCell c v
 free:H X.env.locals=none
 cQ:∀ x c,X.env.cells.lookup x=some c→H c=none
 pin:∀ p∈X.pn++pins,s.heap.get? p.1=some p.2∧H p.1=none∧p.1≠X.env.locals∧p.1∉X.fs∧∀ v,p.2.data≠.cell v
 aH:eU X.prog X.w H s.heap
 len:σ.length=X.N.length
section
variable {X:Cx} {pins:List (Addr×Obj)} {σ:List (Option V)} {H H':Hp} {s:Shared} {h':Heap}
theorem Cx.Ok.Ax (ok:X.Ok) {b:Addr} {o:Obj} (e:X.base.get? b=some o):b∉X.fs:=fun hb=>by
 have:=(ok.fj.mem hb).1
 rw [e] at this;cases this
theorem Inv.bs (I:Inv X pins σ H s):∀ b o,X.base.get? b=some o→s.heap.get? b=some o∧H b=none:=fun b o e =>
 ⟨I.base.keep b o (I.ok.bs b o e).1 (I.ok.bs b o e).2 (I.ok.Ax e) (I.ok.p8 b o e),I.base.free b o (I.ok.bs b o e).1 (I.ok.bs b o e).2 (I.ok.p8 b o e)⟩
theorem Inv.bk (I:Inv X pins σ H s):∀ b o,X.base.get? b=some o→s.heap.get? b=some o:=fun b o e=>(I.bs b o e).1
theorem Inv.mod (I:Inv X pins σ H s):Mod X.K X.mg X.base:=I.ok.mod
theorem Inv.u9 (I:Inv X pins σ H s):X.K.In s.heap:=I.ok.mod.rZ.keeps I.bk
theorem Inv.lt (I:Inv X pins σ H s):X.env.locals < s.heap.objs.size:=let ⟨_,hn,_⟩:=I.loc;hn.lt
theorem Inv.sz (I:Inv X pins σ H s):X.s₀.heap.objs.size≤s.heap.objs.size:=Nat.le_trans I.ok.above (Nat.le_of_lt I.lt)
theorem Inv.Ep (I:Inv X pins σ H s) {a:Addr} (h:s.heap.objs.size≤a):a∉X.fs:=fun hb=>by
 obtain ⟨_,o,ho,_⟩:=I.ok.fj.mem hb
 exact absurd (Nat.lt_of_lt_of_le (Heap.lt_size ho) (Nat.le_trans I.sz h)) (Nat.lt_irrefl _)
theorem Inv.uX (I:Inv X pins σ H s):∀ x c,X.env.cells.lookup x=some c→c≠X.env.locals:=fun x c e z=>by
 obtain ⟨v,o,ho,hd⟩:=I.cell x c e
 obtain ⟨m,⟨o',es,ep,ho',uE,_⟩,_⟩:=I.loc
 rw [z,ho'] at ho;cases ho;rw [uE] at hd;cases hd
theorem Inv.fj (I:Inv X pins σ H s):s.heap.FunFrames X.base X.outer:=by
 have all:∀ (l:List Env),(∀ b∈hW l,b∈X.fs)→X.s₀.heap.FunFrames X.base l→s.heap.FunFrames X.base l:=by
  intro l
  induction l with
  | nil=>intro _ _;trivial
  | cons env r ih =>
   intro hs hl
   obtain ⟨hk,⟨L,o,hf,hn,ho,hd⟩,hr⟩:=hl
   have hL:L∈X.fs:=hs L (by unfold hW;rw [List.filterMap_cons,hf];exact List.mem_cons_self)
   obtain ⟨sl,e⟩:=I.base.slot L o ho (I.ok.xK L hL) hL fun z=>I.ok.rN L z hL
   exact ⟨hk,⟨L,_,hf,hn,e,hd⟩,ih (fun b hb=>hs b (by unfold hW;rw [List.filterMap_cons,hf];exact List.mem_cons_of_mem _ hb)) hr⟩
 exact all X.outer (fun _ hb=>hb) I.ok.fj
theorem Inv.stack (I:Inv X pins σ H s):s.heap.FunFrames X.base X.stack:=by
 rcases I.ok.A8 with e | ⟨e,hf⟩
 ·rw [e];exact I.fj
 ·rw [e]
  obtain ⟨m,hn,_⟩:=I.loc
  refine .cons (by rw [I.ok.kind];decide) hf hn ?_ I.fj
  exact Heap.get?_none_of_le (Nat.le_trans I.ok.rH I.ok.above)
theorem Inv.gy (I:Inv X pins σ H s):∀ b∈hW X.stack,b∈X.env.locals::X.fs:=fun b hb=>by
 rcases I.ok.A8 with e | ⟨e,hf⟩
 ·rw [e] at hb;exact List.mem_cons_of_mem _ hb
 ·rw [e] at hb
  unfold hW at hb
  rw [List.filterMap_cons,hf] at hb
  exact hb
theorem Inv.f7 (I:Inv X pins σ H s):∀ b∈hW X.stack,H b=none:=fun b hb=>by
 rcases List.mem_cons.mp (I.gy b hb) with e | hb
 ·rw [e];exact I.free
 ·obtain ⟨_,o,ho,_⟩:=I.ok.fj.mem hb
  exact I.base.free b o ho (I.ok.xK b hb) fun z=>I.ok.rN b z hb
theorem Inv.step {g':Array GenState} {t':Nat} {d':Drawn} {ch:List Addr} (I:Inv X pins σ H s)
  (mQ:∀ b∈ch,(b∈X.ex∨X.s₀.heap.objs.size≤b)∧b≠X.env.locals∧(∀ x c,X.env.cells.lookup x=some c→c≠b)∧∀ p∈X.pn++pins,p.1≠b)
  (keep:∀ b o,b≠X.env.locals→b∉X.fs→b∉ch→s.heap.get? b=some o→H b=none→h'.get? b=some o)
  (slot:∀ b o,b≠X.env.locals→b∈X.fs→b∉ch→s.heap.get? b=some o→H b=none→∃ sl,h'.get? b=some { o with slots:=sl }) (free:∀ b o,b∉ch→s.heap.get? b=some o→H b=none→H' b=none)
  (there:∀ b o,b∉ch→s.heap.get? b=some o→∃ o',h'.get? b=some o')
  (jS:∀ b xs,H b=some (.tup xs)→H' b=some (.tup xs)) (ia:∀ b o u,H b=some (.j4 o u)→H' b=some (.j4 o u)) (hX:∀ b ps,H b=some (.jf ps)→∃ more,H' b=some (.jf (ps++more)))
  (ns:∀ m,s.heap.Ns X.env.locals m→h'.Ns X.env.locals m) (aH:eU X.prog X.w H' h') (hg:AllBare g') :
  Inv X pins σ H' { s with heap:=h',gens:=g',drawn:=d',toks:=t' }:=by
 have neL:∀ b o,X.s₀.heap.get? b=some o→b≠X.env.locals:=fun b o e=>Nat.ne_of_lt (Nat.lt_of_lt_of_le (Heap.lt_size e) I.ok.above)
 have neC:∀ b o,X.s₀.heap.get? b=some o→b∉X.ex→b∉ch:=fun b o e hx hb=>by
  rcases (mQ b hb).1 with z | z
  ·exact hx z
  ·exact absurd (Nat.lt_of_lt_of_le (Heap.lt_size e) z) (Nat.lt_irrefl _)
 have cellK:∀ x c,X.env.cells.lookup x=some c→∀ v,s.heap.IsCell c v→h'.IsCell c v:=fun x c e v ⟨o,ho,hd⟩=>by
  have nch:c∉ch:=fun z=>(mQ c z).2.2.1 x c e rfl
  by_cases hc:c∈X.fs
  ·obtain ⟨sl,q⟩:=slot c o (I.uX x c e) hc nch ho (I.cQ x c e)
   exact ⟨_,q,hd⟩
  ·exact ⟨o,keep c o (I.uX x c e) hc nch ho (I.cQ x c e),hd⟩
 refine ⟨I.ok,I.os,hg,⟨fun b o e n hb hx=>?_,fun b o e n hb hx=>?_,fun b o e n hx=>?_,fun b o e hx=>?_,fun b xs e=>jS b xs (I.base.jS b xs e),fun b o xs e=>ia b o xs (I.base.ia b o xs e),fun b ps e=>?_⟩,?_,fun x c e=>?_,?_,fun x c e=>?_,fun p hp=>?_,aH,I.len⟩
 ·exact keep b o (neL b o e) hb (neC b o e hx) (I.base.keep b o e n hb hx) (I.base.free b o e n hx)
 ·obtain ⟨sl,e1⟩:=I.base.slot b o e n hb hx
  obtain ⟨sl',e2⟩:=slot b _ (neL b o e) hb (neC b o e hx) e1 (I.base.free b o e n hx)
  exact ⟨sl',e2⟩
 ·obtain ⟨o',e1⟩:=I.base.there b o e hx
  exact free b o' (neC b o e hx) e1 (I.base.free b o e n hx)
 ·obtain ⟨o',e1⟩:=I.base.there b o e hx
  exact there b o' (neC b o e hx) e1
 ·obtain ⟨m1,e1⟩:=I.base.hX b ps e
  obtain ⟨m2,e2⟩:=hX b _ e1
  exact ⟨m1++m2,by rw [e2,Array.append_assoc]⟩
 ·obtain ⟨m,hn,hl⟩:=I.loc
  refine ⟨m,ns m hn,fun i x v e1 e2 e3=>?_⟩
  obtain ⟨u,r,l⟩:=hl i x v e1 e2 e3
  refine ⟨u,r,?_⟩
  rcases l with l | ⟨k,c,e,z⟩
  ·exact .inl l
  ·exact .inr ⟨k,c,e,cellK x c e _ z⟩
 ·obtain ⟨v,z⟩:=I.cell x c e
  exact ⟨v,cellK x c e v z⟩
 ·obtain ⟨m,⟨o,_,_,ho,_⟩,_⟩:=I.loc
  exact free _ o (fun z=>(mQ _ z).2.1 rfl) ho I.free
 ·obtain ⟨v,o,ho,hd⟩:=I.cell x c e
  exact free c o (fun z=>(mQ c z).2.2.1 x c e rfl) ho (I.cQ x c e)
 ·obtain ⟨e,n,ne,nf,d⟩:=I.pin p hp
  have nch:p.1∉ch:=fun z=>(mQ p.1 z).2.2.2 p hp rfl
  exact ⟨keep p.1 p.2 ne nf nch e n,free p.1 p.2 nch e n,ne,nf,d⟩
theorem Inv.un {t':Nat} (I:Inv X pins σ H s) (u:Un X.fs [] H H' s.heap h') (aH:eU X.prog X.w H' h'):Inv X pins σ H' { s with heap:=h',toks:=t' }:=by
 obtain ⟨m,⟨o,es,ep,ho,r⟩,_⟩:=id I.loc
 obtain ⟨sl,hL⟩:=u.any ho I.free (by simp)
 exact I.step (g':=s.gens) (d':=s.drawn) (ch:=[]) (fun _ z=>nomatch z) (fun b o _ hb _ e n=>u.keep b o e n hb (by simp)) (fun b o _ hb _ e n=>u.slot b o e n hb (by simp)) (fun b o _ e n=>u.free b o e n (by simp)) (fun b o _ e=>u.there b o e (by simp)) u.jS u.ia u.hX (fun m' hm=>by
  obtain ⟨o',es',ep',ho',r'⟩:=hm
  rw [ho] at ho';cases ho'
  exact ⟨_,es',ep',hL,r'⟩) aH I.bare
theorem Inv.call {g':Array GenState} {t':Nat} {d':Drawn} {ch:List Addr} (I:Inv X pins σ H s) (u:Un (hW X.stack) ch H H' s.heap h') (aH:eU X.prog X.w H' h') (hg:AllBare g')
  (mQ:∀ b∈ch,(b∈X.ex∨X.s₀.heap.objs.size≤b)∧b≠X.env.locals∧(∀ x c,X.env.cells.lookup x=some c→c≠b)∧∀ p∈X.pn++pins,p.1≠b) :
  Inv X pins σ H' { s with heap:=h',gens:=g',drawn:=d',toks:=t' }:=by
 obtain ⟨m,⟨o,es,ep,ho,r⟩,_⟩:=id I.loc
 obtain ⟨sl,hL⟩:=u.any ho I.free fun z=>(mQ _ z).2.1 rfl
 exact I.step (ch:=ch) mQ (fun b o hL hb hc e n=>u.keep b o e n (fun z=>(List.mem_cons.mp (I.gy b z)).elim hL hb) hc) (fun b o _ _ hc e n=>u.any e n hc) (fun b o hc e n=>u.free b o e n hc) (fun b o hc e=>u.there b o e hc) u.jS u.ia u.hX (fun m' hm=>by
  obtain ⟨o',es',ep',ho',r'⟩:=hm
  rw [ho] at ho';cases ho'
  exact ⟨_,es',ep',hL,r'⟩) aH hg
theorem Inv.turned {t':Nat} {it:Addr} (I:Inv X pins σ H s) (k:∀ b o,b≠it→s.heap.get? b=some o→h'.get? b=some o) (hn:H it=none) (hL:it≠X.env.locals)
  (h1:it∈X.ex∨X.s₀.heap.objs.size≤it) (h2:∀ x c,X.env.cells.lookup x=some c→c≠it) (h3:∀ p∈X.pn++pins,p.1≠it):Inv X pins σ H { s with heap:=h',toks:=t' }:=by
 have nit:∀ b u,H b=some u→b≠it:=fun b u e z=>by rw [z,hn] at e;cases e
 refine I.step (g':=s.gens) (d':=s.drawn) (ch:=[it]) (fun b hb=>?_) (fun b o _ _ hc e _=>k b o (fun z=>hc (by simp [z])) e) (fun b o _ _ hc e _=>⟨o.slots,k b o (fun z=>hc (by simp [z])) e⟩) (fun _ _ _ _ n=>n)
  (fun b o hc e=>⟨o,k b o (fun z=>hc (by simp [z])) e⟩) (fun _ _ e=>e) (fun _ _ _ e=>e) (fun b ps e=>⟨#[],by rw [e];simp⟩) (fun m hm=>?_) (fun b u e=>?_) I.bare
 ·have e:b=it:=by simpa using hb
  subst e
  exact ⟨h1,hL,h2,h3⟩
 ·obtain ⟨o,es,ep,ho,r⟩:=hm
  exact ⟨o,es,ep,k _ o (Ne.symm hL) ho,r⟩
 ·refine (I.aH b u e).jI (fun c v hc q=>k c v ?_ q) (fun _ q=>q) fun _ _ q=>q
  rcases hc with z | z
  ·rw [z];exact nit b u e
  ·exact nit c _ z
theorem Inv.tok (I:Inv X pins σ H s) (t:Nat):Inv X pins σ H { s with toks:=t }:=I.un (h':=s.heap) (t':=t) Un.refl I.aH
theorem Inv.kept {t':Nat} (I:Inv X pins σ H s) (k:∀ b u,s.heap.get? b=some u→h'.get? b=some u):Inv X pins σ H { s with heap:=h',toks:=t' }:=I.un (Un.kept k) (I.aH.kept k)
theorem Inv.laid {a:Addr} {o:HO} {t':Nat} (I:Inv X pins σ H s) (k:∀ b u,s.heap.get? b=some u→h'.get? b=some u) (hp:s.heap.objs.size≤a) (new:aV X.prog X.w (upd H a o) h' a o) :
  Inv X pins σ (upd H a o) { s with heap:=h',toks:=t' }:=I.un (Un.laid k hp (I.aH.fresh hp)) (I.aH.laid k hp new)
theorem Inv.write {x e:Addr} {o:HO} {t':Nat} (I:Inv X pins σ H s) (mu:An (H x)) (he:e=x∨H e=some (.own x)) (k:∀ b u,b≠e→s.heap.get? b=some u→h'.get? b=some u) (yp:∃ u,h'.get? e=some u)
  (new:aV X.prog X.w (upd H x o) h' x o):Inv X pins σ (upd H x o) { s with heap:=h',toks:=t' }:=I.un (Un.write mu he k yp) (I.aH.write mu he k yp new)
theorem Inv.weak {σ':List (Option V)} (I:Inv X pins σ H s) (hl:σ'.length=σ.length) (w:∀ (i:Nat) v,σ'[i]?=some (some v)→σ[i]?=some (some v)):Inv X pins σ' H s :=
 ⟨I.ok,I.os,I.bare,I.base,let ⟨m,hn,hl'⟩:=I.loc;⟨m,hn,fun i x v e1 e2 e3=>hl' i x v e1 (w i v e2) e3⟩,I.cell,I.free,I.cQ,I.pin,I.aH,hl.trans I.len⟩
theorem Inv.nj {vy:List (Addr×Obj)} (I:Inv X pins σ H s) (h:∀ p∈vy,s.heap.get? p.1=some p.2∧H p.1=none∧p.1≠X.env.locals∧p.1∉X.fs∧∀ v,p.2.data≠.cell v):Inv X vy σ H s :=
 ⟨I.ok,I.os,I.bare,I.base,I.loc,I.cell,I.free,I.cQ,fun p hp=>(List.mem_append.mp hp).elim (fun z=>I.pin p (List.mem_append_left _ z)) (h p),I.aH,I.len⟩
theorem kY {N:List Str} (hN:N.Nodup) {i j:Nat} {x:Str} (a:N[i]?=some x) (b:N[j]?=some x):i=j:=by
 obtain ⟨h1,e1⟩:=List.getElem?_eq_some_iff.mp a
 obtain ⟨h2,e2⟩:=List.getElem?_eq_some_iff.mp b
 exact (List.getElem_inj hN).mp (e1.trans e2.symm)
theorem fz {M:Model} {A:Around} {E:Value→Shared→Prop} {i:Nat} {x:Str} {v:V} {u:Value} {Q:Unit→Shared→Prop} (I:Inv X pins σ H s) (hN:X.N.Nodup) (hi:X.N[i]?=some x) (hx:Loc X.env.scope x) (r:RelV v u)
  (h:∀ s',Inv X pins (σ.set i (some v)) H s'→(∃ a,Heap.SameBut a s.heap s'.heap∧(a=X.env.locals∨X.env.cells.lookup x=some a))→Q () s') (hf:X.fn x=true∨X.env.scope.names.lookup x=some .local:=by first | exact .inl rfl | exact .inr rfl | assumption):wpAny M A (storeName X.env x u) Q E s:=by
 obtain ⟨m,hn,hl⟩:=id I.loc
 have hcls:(X.env.scope.kind == .class||(X.env.scope.kind == .module&&X.env.locals != X.env.globals))=false:=by rw [I.ok.kind];rfl
 have hiσ:i < σ.length:=by rw [I.len];exact (List.getElem?_eq_some_iff.mp hi).1
 have uX:=I.uX
 have tracked:∀ {a:Addr} {h':Heap},(∃ o,s.heap.get? a=some o∧H a=none)→Heap.SameBut a s.heap h'→eU X.prog X.w H h':=fun {a h'} ha hs b ob e=>by
  obtain ⟨_,_,hfree⟩:=ha
  refine (I.aH b ob e).jI (fun c w' hc q=>(hs.2 c ?_).trans q) (fun _ q=>q) fun _ _ q=>q
  rintro rfl
  rcases hc with rfl | hc
  ·rw [hfree] at e;cases e
  ·rw [hfree] at hc;cases hc
 rcases hx with hk | hk
 ·refine wpAny_storeName_local hk hn (fun h' hn' hs=>?_) hcls
  obtain ⟨oL,_,_,hoL,_⟩:=id hn
  refine h _ ⟨I.ok,I.os,I.bare,⟨fun b o e n hb hx=>?_,fun b o e n hb hx=>?_,I.base.free,fun b o e hx=>?_,I.base.jS,I.base.ia,I.base.hX⟩,⟨_,hn',fun j y v' e1 e2 e3=>?_⟩,fun y c e=>?_,I.free,I.cQ,fun p hp=>?_,tracked ⟨oL,hoL,I.free⟩ hs,by simpa using I.len⟩ ⟨_,hs,.inl rfl⟩
  ·exact (hs.2 b (Nat.ne_of_lt (Nat.lt_of_lt_of_le (Heap.lt_size e) I.ok.above))).trans (I.base.keep b o e n hb hx)
  ·obtain ⟨sl,e1⟩:=I.base.slot b o e n hb hx
   exact ⟨sl,(hs.2 b (Nat.ne_of_lt (Nat.lt_of_lt_of_le (Heap.lt_size e) I.ok.above))).trans e1⟩
  ·obtain ⟨o',e1⟩:=I.base.there b o e hx
   exact ⟨o',(hs.2 b (Nat.ne_of_lt (Nat.lt_of_lt_of_le (Heap.lt_size e) I.ok.above))).trans e1⟩
  ·by_cases hj:j=i
   ·subst hj
    rw [hi] at e1;cases e1
    rw [List.getElem?_set_self hiσ] at e2
    cases e2
    exact ⟨u,r,.inl ⟨hk,by simp⟩⟩
   ·rw [List.getElem?_set_ne (Ne.symm hj)] at e2
    obtain ⟨u',r',q⟩:=hl j y v' e1 e2 e3
    refine ⟨u',r',?_⟩
    rcases q with ⟨k,e⟩ | ⟨k,c,e,z⟩
    ·refine .inl ⟨k,?_⟩
     have:y≠x:=fun e=>hj (kY hN e1 (e▸hi))
     simp [this,e]
    ·exact .inr ⟨k,c,e,z.sameBut hs (uX y c e)⟩
  ·obtain ⟨w',z⟩:=I.cell y c e
   exact ⟨w',z.sameBut hs (uX y c e)⟩
  ·obtain ⟨e,n,ne,nf,d⟩:=I.pin p hp
   exact ⟨(hs.2 p.1 ne).trans e,n,ne,nf,d⟩
 ·have yg:X.fn x=true:=by
   rcases hf with z | z
   ·exact z
   ·rw [z] at hk;cases hk
  obtain ⟨c,hc⟩:=I.ok.has x (.inl hk)
  obtain ⟨w',z⟩:=I.cell x c hc
  refine wpAny_storeName_cell I.ok.kind hk hc z (fun h' hc' hs=>?_)
  obtain ⟨oc,hoc,hocd⟩:=id z
  refine h { s with heap:=h' } ⟨I.ok,I.os,I.bare,⟨fun b o e n hb hx=>?_,fun b o e n hb hx=>?_,I.base.free,fun b o e hx=>?_,I.base.jS,I.base.ia,I.base.hX⟩,⟨m,hn.sameBut hs (Ne.symm (uX x c hc)),fun j y v' e1 e2 e3=>?_⟩,fun y c' e=>?_,I.free,I.cQ,fun p hp=>?_,tracked ⟨oc,hoc,I.cQ x c hc⟩ hs,by simpa using I.len⟩ ⟨c,hs,.inr hc⟩
  ·exact (hs.2 b (Nat.ne_of_lt (Nat.lt_of_lt_of_le (Heap.lt_size e) (I.ok.wc x c yg hc)))).trans (I.base.keep b o e n hb hx)
  ·obtain ⟨sl,e1⟩:=I.base.slot b o e n hb hx
   exact ⟨sl,(hs.2 b (Nat.ne_of_lt (Nat.lt_of_lt_of_le (Heap.lt_size e) (I.ok.wc x c yg hc)))).trans e1⟩
  ·obtain ⟨o',e1⟩:=I.base.there b o e hx
   exact ⟨o',(hs.2 b (Nat.ne_of_lt (Nat.lt_of_lt_of_le (Heap.lt_size e) (I.ok.wc x c yg hc)))).trans e1⟩
  ·by_cases hj:j=i
   ·subst hj
    rw [hi] at e1;cases e1
    rw [List.getElem?_set_self hiσ] at e2
    cases e2
    exact ⟨u,r,.inr ⟨.inl hk,c,hc,hc'⟩⟩
   ·rw [List.getElem?_set_ne (Ne.symm hj)] at e2
    obtain ⟨u',r',q⟩:=hl j y v' e1 e2 e3
    refine ⟨u',r',?_⟩
    rcases q with q | ⟨k,c',e,z'⟩
    ·exact .inl q
    ·refine .inr ⟨k,c',e,z'.sameBut hs ?_⟩
     rintro rfl
     exact hj (kY hN e1 (I.ok.inj _ _ _ e hc▸hi))
  ·by_cases hcc:c'=c
   ·subst hcc;exact ⟨_,hc'⟩
   ·obtain ⟨w2,z2⟩:=I.cell y c' e
    exact ⟨w2,z2.sameBut hs hcc⟩
  ·obtain ⟨e,n,ne,nf,d⟩:=I.pin p hp
   refine ⟨(hs.2 p.1 ?_).trans e,n,ne,nf,d⟩
   intro q
   rw [q,hoc] at e
   have q':oc=p.2:=Option.some.inj e
   exact d w' (by rw [← q'];exact hocd)
theorem eW {M:Model} {A:Around} {E:Value→Shared→Prop} {i:Nat} {x:Str} {v:V} {u:Value} {Q:Unit→Shared→Prop} (I:Inv X pins σ H s) (hN:X.N.Nodup) (hi:X.N[i]?=some x) (hx:Loc X.env.scope x) (r:RelV v u)
  (h:∀ s',Inv X pins (σ.set i (some v)) H s'→Q () s') (hf:X.fn x=true∨X.env.scope.names.lookup x=some .local:=by first | exact .inl rfl | exact .inr rfl | assumption):wpAny M A (storeName X.env x u) Q E s :=
 fz I hN hi hx r (fun s' I' _=>h s' I') hf
theorem Inv.zd {s':Shared} {ch:List Addr} (I:Inv X pins σ H s) (ho:s'.os=s.os) (u:Un (hW X.stack) ch H H' s.heap s'.heap) (aH:eU X.prog X.w H' s'.heap) (hg:AllBare s'.gens)
  (mQ:∀ b∈ch,(b∈X.ex∨X.s₀.heap.objs.size≤b)∧b≠X.env.locals∧(∀ x c,X.env.cells.lookup x=some c→c≠b)∧∀ p∈X.pn++pins,p.1≠b):Inv X pins σ H' s':=by
 obtain ⟨h',g',d',t',o'⟩:=s'
 have e:o'=s.os:=ho
 subst e
 exact I.call (g':=g') (t':=t') (d':=d') u aH hg mQ
end
abbrev XK:=Value→Option Addr→Hp→Prop
abbrev St:=List (Option V)
abbrev VK:=V→Hp→Prop
abbrev TE:=St→Hp→VK→Prop
abbrev TT:=St→Hp→(Bool→Hp→Prop)→Prop
abbrev TA:=St→Hp→(List V→Hp→Prop)→Prop
structure Ends where
 nx:St→Hp→Prop
 rt:VK
 bk:St→Hp→Prop:=fun _ _=>False
 ct:St→Hp→Prop:=fun _ _=>False
abbrev TS:=Ends→St→Hp→Prop
def EP (X:Cx) (pins:List (Addr×Obj)) (σ:St) (Q:VK) (u:Value) (s':Shared):Prop:=∃ v H',Inv X pins σ H' s'∧RelV v u∧Q v H'
def TP (X:Cx) (pins:List (Addr×Obj)) (σ:St) (Q:Bool→Hp→Prop) (b:Bool) (s':Shared):Prop:=∃ H',Inv X pins σ H' s'∧Q b H'
def AP (X:Cx) (pins:List (Addr×Obj)) (σ:St) (Q:List V→Hp→Prop) (us:List Value) (s':Shared):Prop:=∃ vs H',Inv X pins σ H' s'∧Vals vs us∧Q vs H'
def SP (X:Cx) (pins:List (Addr×Obj)) (D:Ends) (f:Flow) (s':Shared):Prop :=
 match f with
 | .next=>∃ σ' H',Inv X pins σ' H' s'∧D.nx σ' H'
 | .brk=>∃ σ' H',Inv X pins σ' H' s'∧D.bk σ' H'
 | .cont=>∃ σ' H',Inv X pins σ' H' s'∧D.ct σ' H'
 | .ret u=>∃ v σ' H',Inv X pins σ' H' s'∧RelV v u∧D.rt v H'
def PE (X:Cx) (e:Expr) (t:TE):Prop :=
 ∀ (pins:List (Addr×Obj)) (s:Shared) (σ:St) (H:Hp) (Q:VK),Inv X pins σ H s→t σ H Q→wpAny (model X.prog X.w) X.A (eval e X.env) (EP X pins σ Q) X.xe s
def PT (X:Cx) (e:Expr) (t:TT):Prop :=
 ∀ (pins:List (Addr×Obj)) (s:Shared) (σ:St) (H:Hp) (Q:Bool→Hp→Prop),Inv X pins σ H s→t σ H Q→wpAny (model X.prog X.w) X.A (isTrue e X.env (eval e X.env)) (TP X pins σ Q) X.xe s
def PW (X:Cx) (e:Expr) (t:TT):Prop :=
 ∀ (whole:Sem Value) (pins:List (Addr×Obj)) (s:Shared) (σ:St) (H:Hp) (Q:Bool→Hp→Prop),Inv X pins σ H s→t σ H Q→wpAny (model X.prog X.w) X.A (isTrue e X.env whole) (TP X pins σ Q) X.xe s
theorem PW.pt {X:Cx} {e:Expr} {t:TT} (h:PW X e t):PT X e t:=h _
def PA (X:Cx) (es:List Expr) (t:TA):Prop :=
 ∀ (pos:Pos) (pins:List (Addr×Obj)) (s:Shared) (σ:St) (H:Hp) (Q:List V→Hp→Prop),Inv X pins σ H s→t σ H Q→wpAny (model X.prog X.w) X.A (spliced (backTo pos (starEach es X.env))) (AP X pins σ Q) X.xe s
def PS (X:Cx) (st:Stmt) (t:TS):Prop :=
 ∀ (pins:List (Addr×Obj)) (s:Shared) (σ:St) (H:Hp) (D:Ends),Inv X pins σ H s→t D σ H→wpAny (model X.prog X.w) X.A (exec st X.env) (SP X pins D) X.xe s
def ic (X:Cx) (st:List Stmt) (t:TS):Prop :=
 ∀ (pins:List (Addr×Obj)) (s:Shared) (σ:St) (H:Hp) (D:Ends),Inv X pins σ H s→t D σ H→wpAny (model X.prog X.w) X.A (execs st X.env) (SP X pins D) X.xe s
theorem ba {α:Type} {t:Sem α} {Q Q':α→Shared→Prop} {M:Model} {A:Around} {E:Value→Shared→Prop} {s:Shared} (h:wpAny M A t Q E s) (hQ:∀ a s,Q a s→Q' a s):wpAny M A t Q' E s:=wpAny_mono h hQ fun _ _ x=>x
end L2
namespace L2
open PySem PySem.Spec PyProof.Rows
section
variable {X:Cx}
def aM (i:Nat):TE:=fun σ H Q=>∃ v,σ[i]?=some (some v)∧Q v H
def tC (v:V):TE:=fun _ H Q=>Q v H
theorem wQ {i:Nat} {x:Str} {pos:Pos} (hN:X.N[i]?=some x) (hv:A3 X.env.scope x) (hd:(x == ("__debug__":Str))=false:=by decide) (fZ:(x == ("__classdict__":Str))=false:=by decide):PE X (.Name x pos) (aM i):=by
 intro pins s σ H Q I h
 obtain ⟨v,e,h⟩:=h
 obtain ⟨m,hn,hl⟩:=I.loc
 obtain ⟨u,r,l⟩:=hl i x v hN e hv
 have fin:EP X pins σ Q u s:=⟨v,H,I,r,h⟩
 rcases l with ⟨hk,hm⟩ | ⟨hk,c,hc,hcell⟩
 ·exact wpAny_Name (wpAny_loadName_local I.ok.kind hk hn hm fin) hd
 ·rcases hk with hk | hk
  ·exact wpAny_Name (wpAny_loadName_cell I.ok.kind hk hc hcell fin) hd
  ·exact wpAny_Name (wpAny_loadName_free I.ok.kind hk hc hcell fin fZ) hd
theorem aJ {i j pos}:PE X (.Constant (.int i) j pos) (tC (.int i)):=fun _ _ _ H _ I h=>wpAny_Constant_int ⟨.int i,H,I.tok _,⟨_,rfl⟩,h⟩
theorem Ad {b j pos}:PE X (.Constant (.bool b) j pos) (tC (.bl b)):=fun _ _ _ H _ I h=>Constant_bool ⟨.bl b,H,I,rfl,h⟩
theorem xl {j pos}:PE X (.Constant .none j pos) (tC .aS):=fun _ _ _ H _ I h=>Constant_none ⟨.aS,H,I,rfl,h⟩
theorem bN {x j pos}:PE X (.Constant (.str x) j pos) (tC (.str x)):=fun _ _ _ H _ I h=>Calls.Constant_str ⟨.str x,H,I.tok _,⟨_,rfl⟩,h⟩
def Gl (X:Cx) (x:Str):Prop:=X.env.kindOf x=some .globalImplicit
theorem jR {E:Value→Shared→Prop} {pins:List (Addr×Obj)} {s:Shared} {σ:St} {H:Hp} {x:Str} {u:Value} {pos:Pos} {Q:Value→Shared→Prop} (I:Inv X pins σ H s) (hg:Gl X x) (hm:X.mg x=some u) (h:Q u s)
  (hd:(x == ("__debug__":Str))=false:=by decide):wpAny (model X.prog X.w) X.A (eval (.Name x pos) X.env) Q E s :=
 Calls.Name_function_global I.ok.kind hg (Calls.loadGlobal_global (by rw [I.ok.glob];exact I.mod.glob.keeps I.bk) hm h) hd
theorem eC {E:Value→Shared→Prop} {pins:List (Addr×Obj)} {s:Shared} {σ:St} {H:Hp} {x:Str} {u:Value} {pos:Pos} {Q:Value→Shared→Prop} (I:Inv X pins σ H s) (hg:Gl X x) (hm:X.mg x=none) (hv:bootBuiltins x=some u) (h:Q u s)
  (hn:x≠"__name__":=by decide) (hd:(x == ("__debug__":Str))=false:=by decide):wpAny (model X.prog X.w) X.A (eval (.Name x pos) X.env) Q E s:=by
 obtain ⟨mb,h1,h2⟩:=I.mod.blt
 exact Calls.Name_function_global I.ok.kind hg (Calls.loadGlobal_builtin (by rw [I.ok.glob];exact I.mod.glob.keeps I.bk) hm (by rw [I.ok.blt];exact h1.keeps I.bk) ((h2 x hn).trans hv) h) hd
theorem sC {x:Str} {v:V} {u:Value} {pos:Pos} (hg:Gl X x) (hm:X.mg x=some u) (r:RelV v u) (hd:(x == ("__debug__":Str))=false:=by decide):PE X (.Name x pos) (tC v) :=
 fun _ _ _ H _ I h=>jR I hg hm ⟨v,H,I,r,h⟩ hd
theorem jj {x:Str} {v:V} {u:Value} {pos:Pos} (hg:Gl X x) (hm:X.mg x=none) (hv:bootBuiltins x=some u) (r:RelV v u) (hn:x≠"__name__":=by decide) (hd:(x == ("__debug__":Str))=false:=by decide):PE X (.Name x pos) (tC v) :=
 fun _ _ _ H _ I h=>eC I hg hm hv ⟨v,H,I,r,h⟩ hn hd
variable {a b:Expr} {ta tb:TE} {pos:Pos}
def tB (t:TE):TT:=fun σ H Q=>t σ H fun x H1=>∃ c,x=.bl c∧Q c H1
theorem xE {e:Expr} {t:TE} (h:PE X e t) (he:∀ whole,isTrue e X.env whole=(do let v ← whole;standAt e.pos;holding [v] (truthy v)):=by intro _;rfl):PT X e (tB t):=by
 intro pins s σ H Q I hw
 refine isTrue_plain (ba (h pins s σ H _ I hw) fun v s1 ⟨x,H1,I1,r1,q1⟩=>?_) (he _)
 obtain ⟨d,rfl,q⟩:=q1
 cases r1
 exact wpAny_truthy_bool ⟨H1,I1,q⟩
variable {tA Bh:TT} {rest:List Expr}
def zQ (t u:TT):TT:=fun σ H Q=>t σ H fun c H1=>if c=true then u σ H1 Q else Q false H1
def GF (t u:TT):TT:=fun σ H Q=>t σ H fun c H1=>if c=true then Q true H1 else u σ H1 Q
theorem pw_and1 (ha:PT X a tA):PW X (.BoolOp .And [a] pos) tA:=by
 intro wh pins s σ H Q I h
 refine isTrue_and (ba (ha pins s σ H Q I h) fun c s1 e=>?_)
 cases c with
 | true=>exact isTrue_and_nil e
 | false=>exact e
theorem pw_or1 (ha:PT X a tA):PW X (.BoolOp .Or [a] pos) tA:=by
 intro wh pins s σ H Q I h
 refine isTrue_or (ba (ha pins s σ H Q I h) fun c s1 e=>?_)
 cases c with
 | false=>exact isTrue_or_nil e
 | true=>exact e
theorem pw_and (ha:PT X a tA) (hb:PW X (.BoolOp .And (b::rest) pos) Bh):PW X (.BoolOp .And (a::b::rest) pos) (zQ tA Bh):=by
 intro wh pins s σ H Q I h
 refine isTrue_and (ba (ha pins s σ H _ I h) fun c s1 ⟨H1,I1,q1⟩=>?_)
 cases c with
 | true=>exact hb wh pins s1 σ H1 Q I1 q1
 | false=>exact ⟨H1,I1,q1⟩
theorem pw_or (ha:PT X a tA) (hb:PW X (.BoolOp .Or (b::rest) pos) Bh):PW X (.BoolOp .Or (a::b::rest) pos) (GF tA Bh):=by
 intro wh pins s σ H Q I h
 refine isTrue_or (ba (ha pins s σ H _ I h) fun c s1 ⟨H1,I1,q1⟩=>?_)
 cases c with
 | true=>exact ⟨H1,I1,q1⟩
 | false=>exact hb wh pins s1 σ H1 Q I1 q1
end
end L2
namespace L2
open PySem PySem.Spec PyProof.Rows
def bS (K:PySem.W.Frag) (H:Hp) (a:Addr) (xs:List V):Prop :=
 Rd H a (.lst xs) ∨
  ∃ (o:Obj) (its:Array Value) (n:Nat),K.lookup a=some o∧o.cls=.type "list"∧o.dict=none∧o.data=.seq its n∧its.size≤sizeLine∧Vals xs its.toList
def dw (K:PySem.W.Frag) (H:Hp) (a:Addr) (xs:List V):Prop :=
 Rd H a (.tup xs) ∨
  ∃ (o:Obj) (its:Array Value) (n:Nat),K.lookup a=some o∧o.cls=.type "tuple"∧o.data=.seq its n∧its.size≤sizeLine∧Vals xs its.toList
def C4:Value→Option V
 | .none=>some .aS
 | .bool b=>some (.bl b)
 | .int i _=>some (.int i)
 | .str x _=>some (.str x)
 | .bytes b _=>some (.qv b)
 | .float b _=>some (.Br b)
 | .ref a=>some (.ref a)
 | .type n=>some (.ty n)
 | _=>none
theorem RelV.abs {x:V} {u:Value} (r:RelV x u):C4 u=some x:=by
 cases x with
 | aS=>cases r;rfl
 | bl _=>cases r;rfl
 | int _=>obtain ⟨t,rfl⟩:=r;rfl
 | str _=>obtain ⟨t,rfl⟩:=r;rfl
 | qv _=>obtain ⟨t,rfl⟩:=r;rfl
 | Br _=>obtain ⟨t,rfl⟩:=r;rfl
 | ref _=>cases r;rfl
 | ty _=>cases r;rfl
theorem RelV.inj {x y:V} {u:Value} (r:RelV x u) (q:RelV y u):x=y:=Option.some.inj (r.abs.symm.trans q.abs)
theorem Vals.inj:∀ {xs ys:List V} {us:List Value},Vals xs us→Vals ys us→xs=ys
 | _,_,_,.nil,.nil=>rfl
 | _,_,_,.cons r t,.cons r' t'=>by rw [r.inj r',Vals.inj t t']
section
variable {X:Cx} {pins:List (Addr×Obj)} {σ:St} {H:Hp} {s:Shared} {a:Addr} {xs ys:List V}
theorem bS.of {K:PySem.W.Frag} (h:H a=some (.lst xs)):bS K H a xs:=.inl (.inl h)
theorem dw.of {K:PySem.W.Frag} (h:H a=some (.tup xs)):dw K H a xs:=.inl (.inl h)
theorem Inv.list (I:Inv X pins σ H s) (h:bS X.K H a xs):∃ its:List Value,Vals xs its∧PlainL s.heap a its.toArray∧xs.length≤sizeLine:=by
 rcases h with h | ⟨o,its,n,hk,hc,hd,hs,hz,r⟩
 ·obtain ⟨z,its,n,r,e⟩:=h.ok I.aH
  exact ⟨its,r,⟨_,n,e,rfl,rfl,rfl⟩,z⟩
 ·refine ⟨its.toList,r,⟨o,n,I.u9 a o hk,hc,hd,by simpa using hs⟩,?_⟩
  have e:=r.length
  simp only [Array.length_toList] at e
  omega
theorem Inv.tuple (I:Inv X pins σ H s) (h:dw X.K H a xs):∃ its:List Value,Vals xs its∧IsTup s.heap a its.toArray∧xs.length≤sizeLine:=by
 rcases h with h | ⟨o,its,n,hk,hc,hs,hz,r⟩
 ·obtain ⟨z,its,r,p⟩:=h.ok I.aH
  exact ⟨its,r,p,z⟩
 ·refine ⟨its.toList,r,⟨o,I.u9 a o hk,hc,n,by simpa using hs⟩,?_⟩
  have e:=r.length
  simp only [Array.length_toList] at e
  omega
theorem Inv.kg (I:Inv X pins σ H s) (h:bS X.K H a xs) (h':bS X.K H a ys):xs=ys:=by
 obtain ⟨its,r,⟨o,n,e,_,_,d⟩,_⟩:=I.list h
 obtain ⟨its',r',⟨o',n',e',_,_,d'⟩,_⟩:=I.list h'
 rw [e] at e';cases e'
 rw [d] at d'
 injection d' with d1 _
 have:its=its':=by simpa using congrArg Array.toList d1
 subst this
 exact r.inj r'
theorem Inv.iy (I:Inv X pins σ H s) (h:dw X.K H a xs) (h':dw X.K H a ys):xs=ys:=by
 obtain ⟨its,r,⟨o,e,_,n,d⟩,_⟩:=I.tuple h
 obtain ⟨its',r',⟨o',e',_,n',d'⟩,_⟩:=I.tuple h'
 rw [e] at e';cases e'
 rw [d] at d'
 injection d' with d1 _
 have:its=its':=by simpa using congrArg Array.toList d1
 subst this
 exact r.inj r'
end
abbrev Cx.h7 (X:Cx) (E:Value→Shared→Prop):Cx:={ X with xe:=E }
abbrev Cx.uP (X:Cx):Cx:=X.h7 fun _ _=>False
theorem Cx.Ok.h7 {X:Cx} (ok:X.Ok) (E:Value→Shared→Prop):(X.h7 E).Ok :=
 ⟨ok.mod,ok.kind,ok.glob,ok.blt,ok.above,ok.inj,ok.has,ok.wc,ok.hd,ok.frames,ok.A8,ok.Bi,ok.bs,ok.rH,ok.p8,ok.rN,ok.fj,ok.xK⟩
theorem Cx.Ok.dG {X:Cx} {E:Value→Shared→Prop} (ok:(X.h7 E).Ok):X.Ok :=
 ⟨ok.mod,ok.kind,ok.glob,ok.blt,ok.above,ok.inj,ok.has,ok.wc,ok.hd,ok.frames,ok.A8,ok.Bi,ok.bs,ok.rH,ok.p8,ok.rN,ok.fj,ok.xK⟩
section
variable {X:Cx} {pins:List (Addr×Obj)} {σ:St} {H:Hp} {s:Shared} {E:Value→Shared→Prop}
theorem Inv.h7 (I:Inv X pins σ H s) (E:Value→Shared→Prop):Inv (X.h7 E) pins σ H s:=⟨I.ok.h7 E,I.os,I.bare,I.base,I.loc,I.cell,I.free,I.cQ,I.pin,I.aH,I.len⟩
theorem Inv.dG (I:Inv (X.h7 E) pins σ H s):Inv X pins σ H s:=⟨I.ok.dG,I.os,I.bare,I.base,I.loc,I.cell,I.free,I.cQ,I.pin,I.aH,I.len⟩
theorem SP.dG {D:Ends} {f:Flow} {s':Shared} (h:SP (X.h7 E) pins D f s'):SP X pins D f s':=by
 cases f with
 | next=>obtain ⟨σ',H',I,q⟩:=h;exact ⟨σ',H',I.dG,q⟩
 | brk=>obtain ⟨σ',H',I,q⟩:=h;exact ⟨σ',H',I.dG,q⟩
 | cont=>obtain ⟨σ',H',I,q⟩:=h;exact ⟨σ',H',I.dG,q⟩
 | ret u=>obtain ⟨v,σ',H',I,r,q⟩:=h;exact ⟨v,σ',H',I.dG,r,q⟩
theorem ic.uP {st:List Stmt} {t:TS} (h:ic X.uP st t):ic X st t:=fun pins s σ H D I hw =>
 wpAny_mono (h pins s σ H D (I.h7 _) hw) (fun _ _ q=>q.dG) fun _ _ z=>False.elim z
end
section
variable {X:Cx} {st:Stmt} {rest:List Stmt} {t u:TS} {e:Expr} {te:TE} {pos:Pos}
def vk:TS:=fun D σ H=>D.nx σ H
def gK (t u:TS):TS:=fun D σ H=>t { D with nx:=u D } σ H
theorem nC:ic X [] vk:=fun _ _ σ H _ I h=>wpAny_execs_nil ⟨σ,H,I,h⟩
theorem aZ (h1:PS X st t) (h2:ic X rest u):ic X (st::rest) (gK t u):=by
 intro pins s σ H D I h
 refine wpAny_execs_cons (ba (h1 pins s σ H { D with nx:=u D } I h) fun f s1 q=>?_)
 cases f with
 | next =>
  obtain ⟨σ',H',I',q⟩:=q
  exact h2 pins s1 σ' H' D I' q
 | ret v=>exact q
 | brk=>exact q
 | cont=>exact q
theorem dg (h1:PS X st t):ic X [st] t:=by
 intro pins s σ H D I h
 refine wpAny_execs_cons (ba (h1 pins s σ H D I h) fun f s1 q=>?_)
 cases f with
 | next=>exact wpAny_execs_nil q
 | ret v=>exact q
 | brk=>exact q
 | cont=>exact q
theorem Inv.quiet {pins:List (Addr×Obj)} {σ:St} {H:Hp} {s:Shared} (I:Inv X pins σ H s):interactive X.env=false:=by simp [interactive,I.ok.kind]
def zY (te:TE):TS:=fun D σ H=>te σ H fun _ H1=>D.nx σ H1
theorem sA (he:PE X e te) (hs:swapsWith e none pos.line X.env=pure false:=by rfl):PS X (.Expr e pos) (zY te):=by
 intro pins s σ H D I h
 exact wpAny_Expr_any (ba (he pins s σ H _ I h) fun v s1 ⟨x,H1,I1,r1,q1⟩=>⟨σ,H1,I1,q1⟩) I.quiet hs
def ue (te:TE):TS:=fun D σ H=>te σ H D.rt
theorem gp (he:PE X e te):PS X (.Return (some e) pos) (ue te):=by
 intro pins s σ H D I h
 exact wpAny_Return_some (ba (he pins s σ H _ I h) fun v s1 ⟨x,H1,I1,r1,q1⟩=>⟨x,σ,H1,I1,r1,q1⟩)
def zB (c:TT) (t u:TS):TS:=fun D σ H=>c σ H fun b H1=>if b=true then t D σ H1 else u D σ H1
theorem vz {c:Expr} {a b:List Stmt} {tc:TT} (hc:PT X c tc) (ha:ic X a t) (hb:ic X b u):PS X (.If c a b pos) (zB tc t u):=by
 intro pins s σ H D I h
 refine wpAny_If (ba (hc pins s σ H _ I h) fun d s1 ⟨H1,I1,q1⟩=>?_)
 cases d with
 | true=>exact ha pins s1 σ H1 D I1 q1
 | false=>exact hb pins s1 σ H1 D I1 q1
end
abbrev TG:=V→St→Hp→(St→Hp→Prop)→Prop
abbrev tq:=List V→St→Hp→(St→Hp→Prop)→Prop
def PG (X:Cx) (target:Expr) (t:TG):Prop :=
 ∀ (pins:List (Addr×Obj)) (s:Shared) (σ:St) (H:Hp) (v:V) (u:Value) (Q:St→Hp→Prop),Inv X pins σ H s→RelV v u→t v σ H Q →
  wpAny (model X.prog X.w) X.A (assign target X.env u) (fun _ s'=>∃ σ' H',Inv X pins σ' H' s'∧Q σ' H') X.xe s
def vh (X:Cx) (ts:List Expr) (t:tq):Prop :=
 ∀ (pins:List (Addr×Obj)) (s:Shared) (σ:St) (H:Hp) (vs:List V) (us:List Value) (Q:St→Hp→Prop),Inv X pins σ H s→Vals vs us→t vs σ H Q →
  wpAny (model X.prog X.w) X.A (assignInOrder ((assignEach ts X.env).map (·.2)) us) (fun _ s'=>∃ σ' H',Inv X pins σ' H' s'∧Q σ' H') X.xe s
abbrev vW:=V→V→V→Hp→(Hp→Prop)→Prop
def zw (X:Cx) (t:vW):Prop :=
 ∀ (pins:List (Addr×Obj)) (s:Shared) (σ:St) (H:Hp) (o i v:V) (ov iv u:Value) (Q:Hp→Prop),Inv X pins σ H s→RelV o ov→RelV i iv→RelV v u→t o i v H Q →
  wpAny (model X.prog X.w) X.A (setItem ov iv u) (fun _ s'=>∃ H',Inv X pins σ H' s'∧Q H') X.xe s
section
variable {X:Cx} {pos:Pos}
def ck (i:Nat):TG:=fun v σ H Q=>Q (σ.set i (some v)) H
theorem aK {i:Nat} {x:Str} (hN:X.N.Nodup) (hi:X.N[i]?=some x) (hx:Loc X.env.scope x) (hf:X.fn x=true∨X.env.scope.names.lookup x=some .local:=by first | exact .inl rfl | exact .inr rfl | assumption):PG X (.Name x pos) (ck i):=by
 intro pins s σ H v u Q I r h
 exact wpAny_assign_Name (eW I hN hi hx r (fun s' I'=>⟨_,H,I',h⟩) hf)
def Ew:tq:=fun vs σ H Q=>vs=[]∧Q σ H
def yR (t:TG) (u:tq):tq:=fun vs σ H Q=>∃ v r,vs=v::r∧t v σ H fun σ' H'=>u r σ' H' Q
theorem sa:vh X [] Ew:=by
 intro pins s σ H vs us Q I r h
 obtain ⟨e,h⟩:=h
 subst e
 cases r
 exact assignInOrder_nil ⟨σ,H,I,h⟩
theorem pS {e:Expr} {es:List Expr} {t:TG} {u:tq} (h1:PG X e t) (h2:vh X es u)
  (hs:(assignEach (e::es) X.env).map (·.2)=assign e X.env::(assignEach es X.env).map (·.2):=by rfl):vh X (e::es) (yR t u):=by
 intro pins s σ H vs us Q I r h
 obtain ⟨v,vr,e1,h⟩:=h
 subst e1
 cases r with
 | cons r rr =>
  rw [hs]
  refine assignInOrder_cons (ba (h1 pins s σ H _ _ _ I r h) fun _ s1 ⟨σ1,H1,I1,q1⟩=>?_)
  exact h2 pins s1 σ1 H1 _ _ Q I1 rr q1
def Ft (K:PySem.W.Frag) (n:Nat) (t:tq):TG:=fun v σ H Q=>∃ a xs,v=.ref a∧dw K H a xs∧xs.length=n∧t xs σ H Q
theorem vQ {es:List Expr} {k:Nat} {t:tq} {n:Nat} (hc:X.calm=true) (h:vh X es t)
  (hn:(assignEach es X.env).length=n:=by rfl) (f9:(assignEach es X.env).findIdx? (·.1)=none:=by rfl):PG X (.Tuple es k pos) (Ft X.K n t):=by
 intro pins s σ H v u Q I r hw
 obtain ⟨a,xs,e1,hq,hl,hw⟩:=hw
 subst e1
 cases r
 obtain ⟨its,rv,ht,hz⟩:=I.tuple hq
 refine assign_Tuple_tuple (I.ok.hd hc) ht (by simp [hn,← hl,rv.length]) f9 fun h' hx=>?_
 have I1:Inv X pins σ H { s with heap:=h' }:=I.kept (t':=s.toks) fun b o e=>hx b o (Nat.ne_of_lt (Heap.lt_size e)) e
 exact h pins _ σ H xs _ Q I1 (by simpa using rv) hw
def zG (to ti:TE) (t:vW):TG:=fun v σ H Q=>to σ H fun o H1=>ti σ H1 fun i H2=>t o i v H2 fun H3=>Q σ H3
theorem wz {o i:Expr} {to ti:TE} {t:vW} (ho:PE X o to) (hi:PE X i ti) (hs:zw X t)
  (ha:∀ v,assign (.Subscript o i pos) X.env v=(do
   let ov ← holding [v] (eval o X.env)
   let iv ← holding [v,ov] (eval i X.env)
   standAt pos
   holding [v,ov,iv] (setItem ov iv v)
   release [v,ov,iv] []):=by intro _;rfl):PG X (.Subscript o i pos) (zG to ti t):=by
 intro pins s σ H v u Q I r h
 rw [ha]
 refine wpAny_bind (wpAny_holding (ba (ho pins s σ H _ I h) fun ov s1 ⟨x,H1,I1,r1,q1⟩=>?_))
 refine wpAny_bind (wpAny_holding (ba (hi pins s1 σ H1 _ I1 q1) fun iv s2 ⟨y,H2,I2,r2,q2⟩=>?_))
 refine wpAny_bind (wpAny_standAt (wpAny_bind (wpAny_holding (ba (hs pins s2 σ H2 x y v ov iv u _ I2 r1 r2 r q2) fun _ s3 ⟨H3,I3,q3⟩=>?_))))
 exact wpAny_release ⟨σ,H3,I3,q3⟩
def fA (te:TE) (g:TG):TS:=fun D σ H=>te σ H fun x H1=>g x σ H1 D.nx
theorem pY {tg e:Expr} {te:TE} {g:TG} (he:PE X e te) (hg:PG X tg g) (hs:swapsWithSole [tg] e pos.line X.env=pure false:=by rfl) (hw:swappedStores [tg] e X.env=pure none:=by rfl)
  (h1:(assignEach [tg] X.env).map (·.2)=[assign tg X.env]:=by rfl):PS X (.Assign [tg] e pos) (fA te g):=by
 intro pins s σ H D I h
 refine wpAny_Assign_stores (ba (he pins s σ H _ I h) fun v s1 ⟨x,H1,I1,r1,q1⟩=>?_) hs hw
 rw [h1]
 exact ba (hg pins s1 σ H1 x v _ I1 r1 q1) fun _ s2 q=>q
theorem aB {i:Nat} {x:Str} {e:Expr} {te:TE} {pos':Pos} (hN:X.N.Nodup) (hi:X.N[i]?=some x) (hx:Loc X.env.scope x) (he:PE X e te) (hs:swapsWith e (some (.Name x pos')) pos.line X.env=pure false:=by rfl) (hf:X.fn x=true∨X.env.scope.names.lookup x=some .local:=by first | exact .inl rfl | exact .inr rfl | assumption) :
  PS X (.Assign [.Name x pos'] e pos) (fA te (ck i)):=by
 intro pins s σ H D I h
 refine wpAny_Assign_Name (ba (he pins s σ H _ I h) fun v s1 ⟨y,H1,I1,r1,q1⟩=>?_) hs
 exact eW I1 hN hi hx r1 (fun s2 I2=>⟨_,H1,I2,q1⟩) hf
def AD (i j:Nat) (ta:TA):TS:=fun D σ H=>ta σ H fun vs H1=>∃ v w,vs=[v,w]∧D.nx ((σ.set i (some v)).set j (some w)) H1
theorem rD {i j:Nat} {x y:Str} {a b:Expr} {ta:TA} {px py pt:Pos} {kt k2 pt2} (hc:X.calm=true) (hN:X.N.Nodup) (hi:X.N[i]?=some x) (hj:X.N[j]?=some y) (Gi:i≠j)
  (hx:X.env.scope.names.lookup x=some .local) (hy:X.env.scope.names.lookup y=some .local) (ha:PA X [a,b] ta)
  (hw:swappedStores [.Tuple [.Name x px,.Name y py] kt pt] (.Tuple [a,b] k2 pt2) X.env=pure (some [x,y]))
  (hs:swapsWithSole [.Tuple [.Name x px,.Name y py] kt pt] (.Tuple [a,b] k2 pt2) pos.line X.env=pure false:=by rfl) :
  PS X (.Assign [.Tuple [.Name x px,.Name y py] kt pt] (.Tuple [a,b] k2 pt2) pos) (AD i j ta):=by
 intro pins s σ H D I h
 rw [exec_Assign_arm]
 refine wpAny_bind (wpAny_standAt ?_)
 rw [hs]
 refine wpAny_bind (wpAny_pure ?_)
 rw [if_neg (by decide)]
 refine wpAny_bind (Tuple_ (ba (ha _ pins s σ H _ I h) fun us s1 ⟨vs,H1,I1,r1,q1⟩=>?_))
 obtain ⟨v,w,e1,q1⟩:=q1
 subst e1
 obtain ⟨u1,u2,rfl,rv,rw'⟩:∃ u1 u2,us=[u1,u2]∧RelV v u1∧RelV w u2:=by
  cases r1 with
  | cons p q =>
   cases q with
   | cons p' q' =>
    cases q'
    exact ⟨_,_,rfl,p,p'⟩
 refine wpAny_newObj_type ?_ (by show 2≤sizeLine;decide)
 have I2:Inv X pins σ H1 { s1 with heap:=s1.heap.push { cls:=.type "tuple",data:=.seq [u1,u2].toArray } }:=I1.kept (t':=s1.toks) fun b o e=>Heap.get?_push_of_some _ e
 rw [hw]
 refine wpAny_bind (wpAny_pure ?_)
 show wpAny (model X.prog X.w) X.A (do rule "assign.swapped-stores";let items ← unpackItems (.ref s1.heap.objs.size) 2 none;assignInOrder [fun v=>bindName X.env y v,fun v=>bindName X.env x v] items.reverse;pure Flow.next) _ _ _
 refine wpAny_bind (wpAny_rule (wpAny_bind (unpackItems_tuple (items:=#[u1,u2]) (I.ok.hd hc) (IsTup.new s1.heap _) fun h' hx'=>?_)))
 have I3:=I2.kept (h':=h') (t':=s1.toks) fun b o e=>hx' b o (Nat.ne_of_lt (Heap.lt_size e)) e
 show wpAny _ _ (assignInOrder [fun v=>bindName X.env y v,fun v=>bindName X.env x v] [u2,u1] >>= fun _=>pure Flow.next) _ _ _
 refine wpAny_bind (assignInOrder_cons (wpAny_bindName (eW I3 hN hj (.inl hy) rw' (fun s2 I4=>?_) (.inr hy))))
 refine assignInOrder_cons (wpAny_bindName (eW I4 hN hi (.inl hx) rv (fun s3 I5=>assignInOrder_nil (wpAny_pure ?_)) (.inr hx)))
 rw [List.set_comm _ _ (Ne.symm Gi)] at I5
 exact ⟨_,H1,I5,q1⟩
end
section
variable {X:Cx} {pos:Pos}
def pd (c:TT) (tb:TS):TS:=fun D σ H=>∃ W:Nat→St→Hp→Prop,(∃ m,W m σ H)∧∀ m σ H,W m σ H →
 c σ H fun b H1=>if b=true then ∃ N:St→Hp→Prop,(∀ σ' H',N σ' H'→∃ m',m' < m∧W m' σ' H')∧tb { D with nx:=N,ct:=N,bk:=D.nx } σ H1 else D.nx σ H1
theorem k7 {c:Expr} {body:List Stmt} {tc:TT} {tb:TS} (hp:PassesOwn (model X.prog X.w) X.A X.env X.xe) (hc:PT X c tc) (hb:ic X body tb):PS X (.While c body [] pos) (pd tc tb):=by
 intro pins s σ H D I h
 obtain ⟨W,⟨m0,w0⟩,turn⟩:=h
 refine wpAny_While (codeAny_whileLoop (fun n s'=>∃ σ' H',Inv X pins σ' H' s'∧W n σ' H') ?_ m0 ⟨σ,H,I,w0⟩)
 rintro n s1 ⟨σ1,H1,I1,w1⟩
 refine wpAny_passesOwn hp (ba (hc pins s1 σ1 H1 _ I1 (turn n σ1 H1 w1)) fun b s2 ⟨H2,I2,q2⟩=>?_)
 cases b with
 | true =>
  obtain ⟨N,hN,q2⟩:=q2
  rw [if_pos rfl]
  refine wpAny_passesOwn hp (ba (hb pins s2 σ1 H2 _ I2 q2) fun f s3 q3=>?_)
  cases f with
  | next =>
   obtain ⟨σ3,H3,I3,n3⟩:=q3
   obtain ⟨m',hm,w3⟩:=hN σ3 H3 n3
   exact ⟨m',hm,σ3,H3,I3,w3⟩
  | cont =>
   obtain ⟨σ3,H3,I3,n3⟩:=q3
   obtain ⟨m',hm,w3⟩:=hN σ3 H3 n3
   exact ⟨m',hm,σ3,H3,I3,w3⟩
  | brk=>exact q3
  | ret v=>exact q3
 | false =>
  rw [if_neg Bool.false_ne_true]
  exact wpAny_execs_nil ⟨σ1,H2,I2,q2⟩
end
structure It where
 go:Nat→Hp→Prop
 yk:Nat→Hp→V→Hp→Prop
 stop:Nat→Hp→Prop
def dO (X:Cx) (pins:List (Addr×Obj)) (H:Hp) (b:Addr):Prop :=
 H b=none∧b≠X.env.locals∧b∉X.fs∧(b∈X.ex∨X.s₀.heap.objs.size≤b)∧(∀ x c,X.env.cells.lookup x=some c→c≠b)∧∀ p∈X.pn++pins,p.1≠b
theorem Inv.lW {X:Cx} {pins:List (Addr×Obj)} {σ:St} {H H':Hp} {s:Shared} {b:Addr} (I:Inv X pins σ H s) (hb:s.heap.objs.size≤b) (hn:H' b=none):dO X pins H' b:=by
 refine ⟨hn,Nat.ne_of_gt (Nat.lt_of_lt_of_le I.lt hb),I.Ep hb,.inr (Nat.le_trans I.sz hb),fun x c e z=>?_,fun p hp z=>?_⟩
 ·obtain ⟨v,q⟩:=I.cell x c e
  exact absurd (Nat.lt_of_lt_of_le q.lt (by rw [z];exact hb)) (Nat.lt_irrefl _)
 ·exact absurd (Nat.lt_of_lt_of_le (Heap.lt_size (I.pin p hp).1) (by rw [z];exact hb)) (Nat.lt_irrefl _)
structure Turn (P:Program) (w:World) (K:PySem.W.Frag) (tg:Expr) (J:It) (fp:List Addr) (it:Addr) (tn:Nat→Heap→Prop):Prop where
 mem:it∈fp
 obj:∀ i h,tn i h→∀ b∈fp,∃ o,h.get? b=some o∧∀ v,o.data≠.cell v
 keep:∀ i h h',tn i h→(∀ b∈fp,∀ o,h.get? b=some o→h'.get? b=some o)→tn i h'
 item:∀ (X:Cx),X.prog=P→X.w=w→X.K=K→X.calm=true→∀ (i:Nat) (pins:List (Addr×Obj)) (s:Shared) (σ:St) (H:Hp) (E:Value→Shared→Prop),Inv X pins σ H s→(∀ b∈fp,dO X pins H b)→tn i s.heap→J.go i H →
  wpAny (model P w) X.A (pyNext (.ref it)) (fun r s1=>∃ u,r=some u ∧
   wpAny (model P w) X.A (letOwnedTupleGo tg (.ref it) u) (fun _ s2=>∃ x H',Inv X pins σ H' s2∧RelV x u∧J.yk i H x H'∧tn (i+1) s2.heap∧∀ b∈fp,H' b=none) E s1) E s
 done:∀ (X:Cx),X.prog=P→X.w=w→X.K=K→X.calm=true→∀ (i:Nat) (pins:List (Addr×Obj)) (s:Shared) (σ:St) (H:Hp) (E:Value→Shared→Prop),Inv X pins σ H s→(∀ b∈fp,dO X pins H b)→tn i s.heap→J.stop i H →
  wpAny (model P w) X.A (pyNext (.ref it)) (fun r s1=>r=none∧Inv X pins σ H s1) E s
 self:∀ (A:Around) (i:Nat) (s:Shared) (Q:Value→Shared→Prop) (E:Value→Shared→Prop),tn i s.heap→Q (.ref it) s→wpAny (model P w) A (pyIter (.ref it)) Q E s
abbrev TI:=St→Hp→(It→Hp→Prop)→Prop
def Gx (X:Cx) (pins:List (Addr×Obj)) (σ:St) (tg:Expr) (R:It→Hp→Prop) (AZ:Value) (s2:Shared):Prop :=
 ∃ (it:Addr) (fp:List Addr) (tn:Nat→Heap→Prop) (J:It) (H':Hp),AZ=.ref it∧Inv X pins σ H' s2∧Turn X.prog X.w X.K tg J fp it tn∧tn 0 s2.heap∧(∀ b∈fp,dO X pins H' b)∧R J H'
def PI (X:Cx) (tg iter:Expr) (wi:TI):Prop :=
 ∀ (pins:List (Addr×Obj)) (s:Shared) (σ:St) (H:Hp) (R:It→Hp→Prop),Inv X pins σ H s→wi σ H R →
  wpAny (model X.prog X.w) X.A (eval iter X.env) (fun v s1=>wpAny (model X.prog X.w) X.A (pyIter v) (Gx X pins σ tg R) X.xe s1) X.xe s
theorem pM {M:Model} {A:Around} {E:Value→Shared→Prop} {s:Shared} {tg:Expr} {it:Addr} {u:Value} {o:Obj} {n:String} {vs:Array Value} {Q:Unit→Shared→Prop} (ho:s.heap.get? it=some o) (hc:o.cls=.type n) (hd:o.data=.fields vs)
  (hn:["enumerate","zip","dict_itemiterator","dict_reverseitemiterator","odict_iterator","itertools.zip_longest","itertools.pairwise"].contains n=false) (hQ:Q () s):wpAny M A (letOwnedTupleGo tg (.ref it) u) Q E s:=by
 unfold letOwnedTupleGo
 cases tg<;>first
  | exact wpAny_pure hQ
  | (cases u<;>first
    | exact wpAny_pure hQ
    | (refine wpAny_bind (wpAny_load ho ?_)
       rw [hc,hd]
       show wpAny M A (if (["enumerate","zip","dict_itemiterator","dict_reverseitemiterator","odict_iterator","itertools.zip_longest","itertools.pairwise"].contains n&&vs[0]? == some (rawInt _))=true then _ else _) Q E s
       rw [if_neg (by intro h;rw [hn,Bool.false_and] at h;cases h)]
       exact wpAny_pure hQ))
def we (K:PySem.W.Frag) (a:Addr):It :=
 ⟨fun i H=>∃ xs x,bS K H a xs∧xs[i]?=some x,fun i H x H'=>H'=H∧∀ xs,bS K H a xs→xs[i]?=some x,fun i H=>∃ xs,bS K H a xs∧xs.length≤i⟩
def Gr (K:PySem.W.Frag) (a:Addr):It :=
 ⟨fun i H=>∃ xs x,dw K H a xs∧xs[i]?=some x,fun i H x H'=>H'=H∧∀ xs,dw K H a xs→xs[i]?=some x,fun i H=>∃ xs,dw K H a xs∧xs.length≤i⟩
def AV (lo:Int) (n:Nat):It:=⟨fun i _=>i < n,fun i H x H'=>H'=H∧x=.int (lo+i),fun i _=>n≤i⟩
theorem jb {P:Program} {w:World} {K:PySem.W.Frag} {tg:Expr} (a it:Addr):Turn P w K tg (we K a) [it] it (fun i h=>h.IsListIter it a i) where
 mem:=by simp
 obj:=fun i h st b hb=>by
  have e:b=it:=by simpa using hb
  subst e
  obtain ⟨o,e,c,d⟩:=st
  exact ⟨o,e,fun v z=>by rw [d] at z;cases z⟩
 keep:=fun i h h' st k=>st.at fun o e=>k it (by simp) o e
 item:=by
  intro X hP hw hK hc i pins s σ H E I hf st hg
  subst hP hw hK
  obtain ⟨xs,x,hq,hx⟩:=hg
  obtain ⟨its,rv,p,hz⟩:=I.list hq
  obtain ⟨u,hu,ru⟩:=rv.get hx
  obtain ⟨f0,f1,f2,f3,f4,f5⟩:=hf it (by simp)
  refine wpAny_pyNext_list_item st p.isList (x:=u) (by simpa using hu) fun h' st' sb=>?_
  have I1:Inv X pins σ H { s with heap:=h' }:=I.turned (t':=s.toks) (fun b o hb e=>(sb.2 b hb).trans e) f0 f1 f3 f4 f5
  obtain ⟨o,e,c,d⟩:=id st'
  exact ⟨u,rfl,pM (s:={ s with heap:=h' }) e c d (by decide) ⟨x,H,I1,ru,⟨rfl,fun ys hy=>by rw [I.kg hy hq];exact hx⟩,st',fun b hb=>(hf b hb).1⟩⟩
 done:=by
  intro X hP hw hK hc i pins s σ H E I hf st hg
  subst hP hw hK
  obtain ⟨xs,hq,hx⟩:=hg
  obtain ⟨its,rv,p,hz⟩:=I.list hq
  obtain ⟨f0,f1,f2,f3,f4,f5⟩:=hf it (by simp)
  have hl:=rv.length
  exact wpAny_pyNext_list_end (I.ok.hd hc) st p.isList (by simp;omega) fun h' eb=>⟨rfl,I.turned (t':=s.toks) (fun b o hb e=>eb b o hb e) f0 f1 f3 f4 f5⟩
 self:=fun _ _ _ _ _ st h=>wpAny_pyIter_listiter st h
theorem l3 {P:Program} {w:World} {K:PySem.W.Frag} {tg:Expr} (a it:Addr):Turn P w K tg (Gr K a) [it] it (fun i h=>h.IsTupleIter it a i) where
 mem:=by simp
 obj:=fun i h st b hb=>by
  have e:b=it:=by simpa using hb
  subst e
  obtain ⟨o,e,c,d⟩:=st
  exact ⟨o,e,fun v z=>by rw [d] at z;cases z⟩
 keep:=fun i h h' st k=>st.at fun o e=>k it (by simp) o e
 item:=by
  intro X hP hw hK hc i pins s σ H E I hf st hg
  subst hP hw hK
  obtain ⟨xs,x,hq,hx⟩:=hg
  obtain ⟨its,rv,p,hz⟩:=I.tuple hq
  obtain ⟨u,hu,ru⟩:=rv.get hx
  obtain ⟨f0,f1,f2,f3,f4,f5⟩:=hf it (by simp)
  refine wpAny_pyNext_tuple_item st (show s.heap.IsTuple a its.toArray from p) (x:=u) (by simpa using hu) fun h' st' sb=>?_
  have I1:Inv X pins σ H { s with heap:=h' }:=I.turned (t':=s.toks) (fun b o hb e=>(sb.2 b hb).trans e) f0 f1 f3 f4 f5
  obtain ⟨o,e,c,d⟩:=id st'
  exact ⟨u,rfl,pM (s:={ s with heap:=h' }) e c d (by decide) ⟨x,H,I1,ru,⟨rfl,fun ys hy=>by rw [I.iy hy hq];exact hx⟩,st',fun b hb=>(hf b hb).1⟩⟩
 done:=by
  intro X hP hw hK hc i pins s σ H E I hf st hg
  subst hP hw hK
  obtain ⟨xs,hq,hx⟩:=hg
  obtain ⟨its,rv,p,hz⟩:=I.tuple hq
  obtain ⟨f0,f1,f2,f3,f4,f5⟩:=hf it (by simp)
  have hl:=rv.length
  exact wpAny_pyNext_tuple_end (I.ok.hd hc) st (show s.heap.IsTuple a its.toArray from p) (by simp;omega) fun h' eb=>⟨rfl,I.turned (t':=s.toks) (fun b o hb e=>eb b o hb e) f0 f1 f3 f4 f5⟩
 self:=fun _ _ _ _ _ st h=>wpAny_pyIter_tupleiter st h
theorem lJ {P:Program} {w:World} {K:PySem.W.Frag} {tg:Expr} (it:Addr) (lo:Int) (n:Nat):Turn P w K tg (AV lo n) [it] it (fun i h=>IsRangeIter h it (lo+(i:Nat) * 1) ((n:Int) - (i:Nat)) 1) where
 mem:=by simp
 obj:=fun i h st b hb=>by
  have e:b=it:=by simpa using hb
  subst e
  exact ⟨_,st,fun v z=>by
   have z':Data.fields _=Data.cell v:=z
   cases z'⟩
 keep:=fun i h h' st k=>k it (by simp) _ st
 item:=by
  intro X hP hw hK hc i pins s σ H E I hf st hg
  subst hP hw hK
  obtain ⟨f0,f1,f2,f3,f4,f5⟩:=hf it (by simp)
  have W:=Walks.range (prog:=X.prog) (w:=X.w) (I.ok.hd hc) it lo 1 n
  refine W.item i s _ _ hg st fun v h' tk hv st' kk=>?_
  obtain ⟨t,rfl⟩:=hv
  have I1:Inv X pins σ H { s with heap:=h',toks:=tk }:=I.turned (fun b o hb e=>kk b o (by simpa using hb) e) f0 f1 f3 f4 f5
  refine ⟨_,rfl,pM (s:={ s with heap:=h',toks:=tk }) (n:="range_iterator") st' rfl rfl (by decide) ⟨.int (lo+i),H,I1,⟨t,?_⟩,⟨rfl,rfl⟩,st',fun b hb=>(hf b hb).1⟩⟩
  rw [Int.mul_one]
 done:=by
  intro X hP hw hK hc i pins s σ H E I hf st hg
  subst hP hw hK
  obtain ⟨f0,f1,f2,f3,f4,f5⟩:=hf it (by simp)
  exact wpAny_pyNext_range_end (I.ok.hd hc) st (by have:n≤i:=hg;omega) fun h' eb=>⟨rfl,I.turned (t':=s.toks) (fun b o hb e=>eb b o hb e) f0 f1 f3 f4 f5⟩
 self:=fun _ _ _ _ _ st h=>wpAny_pyIter_rangeiter st h
end L2
namespace L2
open PySem PySem.Spec PyProof.Rows
section
variable {X:Cx} {tg:Expr}
def nQ (K:PySem.W.Frag) (tl:TE):TI:=fun σ H R=>tl σ H fun x H1=>∃ a,x=.ref a∧(∃ xs,bS K H1 a xs)∧R (we K a) H1
theorem jM {l:Expr} {tl:TE} (hl:PE X l tl):PI X tg l (nQ X.K tl):=by
 intro pins s σ H R I h
 refine ba (hl pins s σ H _ I h) fun v s1 ⟨x,H1,I1,r1,q1⟩=>?_
 obtain ⟨a,e,⟨xs,hq⟩,q⟩:=q1
 subst e
 cases r1
 obtain ⟨its,rv,p,hz⟩:=I1.list hq
 refine wpAny_pyIter_list p.isList ?_
 refine ⟨s1.heap.objs.size,[s1.heap.objs.size],_,_,H1,rfl,I1.kept (t':=s1.toks) fun b o e=>Heap.get?_push_of_some _ e,jb a _,⟨_,Heap.get?_push_size _ rfl,rfl,rfl⟩,fun b hb=>?_,q⟩
 have e:b=s1.heap.objs.size:=by simpa using hb
 subst e
 exact I1.lW (Nat.le_refl _) (I1.aH.fresh (Nat.le_refl _))
theorem qC {pins:List (Addr×Obj)} {σ:St} {H:Hp} {s:Shared} {R:It→Hp→Prop} {E:Value→Shared→Prop} {lo hi:Int} {t u v:Tok} {tk:Nat} (I:Inv X pins σ H s) (h1:-(2 ^ 62)≤lo) (h2:lo < 2 ^ 62) (h3:-(2 ^ 62)≤hi) (h4:hi < 2 ^ 62)
  (q:R (AV lo (hi - lo).toNat) H):wpAny (model X.prog X.w) X.A (pyIter (.ref s.heap.objs.size)) (Gx X pins σ tg R) E { s with heap:=s.heap.push { cls:=.type "range",data:=.fields #[.int lo t,.int hi u,.int 1 v] },toks:=tk }:=by
 refine wpAny_pyIter_range (IsRange.new ..) (small_one h1 h2 h3 h4) ?_
 have I1:Inv X pins σ H { s with heap:=s.heap.push { cls:=.type "range",data:=.fields #[.int lo t,.int hi u,.int 1 v] },toks:=tk }:=I.kept fun b o e=>Heap.get?_push_of_some _ e
 refine ⟨(s.heap.push { cls:=.type "range",data:=.fields #[.int lo t,.int hi u,.int 1 v] }).objs.size,[(s.heap.push { cls:=.type "range",data:=.fields #[.int lo t,.int hi u,.int 1 v] }).objs.size],_,_,H,rfl,
  I1.kept (t':=tk) fun b o e=>Heap.get?_push_of_some _ e,lJ _ lo (hi - lo).toNat,?_,fun b hb=>?_,q⟩
 ·have e1:lo+((0:Nat):Int) * 1=lo:=by simp
  have e2:(((hi - lo).toNat:Nat):Int) - ((0:Nat):Int)=Builtin.Range.rangeSize lo hi 1:=by rw [rangeSize_one];split<;>omega
  show IsRangeIter _ _ (lo+((0:Nat):Int) * 1) ((((hi - lo).toNat:Nat):Int) - ((0:Nat):Int)) 1
  rw [e1,e2]
  exact Heap.get?_push_size _ rfl
 ·have e:b=(s.heap.push { cls:=.type "range",data:=.fields #[.int lo t,.int hi u,.int 1 v] }).objs.size:=by simpa using hb
  subst e
  exact I1.lW (Nat.le_refl _) (I1.aH.fresh (Nat.le_refl _))
def yP (ta:TA):TI:=fun σ H R=>ta σ H fun vs H1=>∃ j:Int,vs=[.int j]∧-(2 ^ 62)≤j∧j < 2 ^ 62∧R (AV 0 j.toNat) H1
theorem oA {a:Expr} {ta:TA} {p pos:Pos} (hg:Gl X "range") (hm:X.mg "range"=none) (ha:PA X [a] ta) (hs:starEach [a] X.env=[(false,eval a X.env)]:=by rfl):PI X tg (.Call (.Name "range" p) [a] [] pos) (yP ta):=by
 intro pins s σ H R I h
 refine Call_ (eC I hg hm boot_range (PyProof.Rows.callWith_type1 (ba (ha pos pins s σ H _ I h) fun us s1 ⟨vs,H1,I1,r1,q1⟩=>?_) hs rfl))
 obtain ⟨j,e,q1,q2,q⟩:=q1
 subst e
 cases r1 with
 | cons r rr =>
  cases rr
  obtain ⟨t,rfl⟩:=r
  exact call_range_1 (qC I1 (by omega) (by omega) q1 q2 (by simpa using q))
def z7 (wi:TI) (g:TG) (tb:TS):TS:=fun D σ H=>wi σ H fun J H1=>∃ W:Nat→Nat→St→Hp→Prop,(∃ m,W 0 m σ H1)∧∀ i m σ H,W i m σ H →
 (J.stop i H∧D.nx σ H)∨(J.go i H∧∃ N:St→Hp→Prop,(∀ σ' H',N σ' H'→∃ m',m' < m∧W (i+1) m' σ' H')∧∀ x H',J.yk i H x H'→g x σ H' fun σ2 H2=>tb { D with nx:=N,ct:=N,bk:=D.nx } σ2 H2)
def gZ (fp:List Addr) (h:Heap):List (Addr×Obj):=fp.filterMap fun b=>(h.get? b).map fun o=>(b,o)
theorem c6 {fp:List Addr} {h:Heap} {b:Addr} {o:Obj} (hb:b∈fp) (e:h.get? b=some o):(b,o)∈gZ fp h:=List.mem_filterMap.mpr ⟨b,hb,by rw [e];rfl⟩
theorem nY {fp:List Addr} {h:Heap} {p:Addr×Obj} (hp:p∈gZ fp h):p.1∈fp∧h.get? p.1=some p.2:=by
 obtain ⟨b,hb,e⟩:=List.mem_filterMap.mp hp
 cases q:h.get? b with
 | none=>rw [q] at e;cases e
 | some o =>
  rw [q] at e
  have e':(b,o)=p:=Option.some.inj e
  subst e'
  exact ⟨hb,q⟩
theorem Inv.pinned {pins:List (Addr×Obj)} {σ:St} {H:Hp} {s:Shared} {fp:List Addr} (I:Inv X pins σ H s) (hf:∀ b∈fp,dO X pins H b) (ho:∀ b∈fp,∃ o,s.heap.get? b=some o∧∀ v,o.data≠.cell v):Inv X (pins++gZ fp s.heap) σ H s :=
 I.nj fun p hp=>(List.mem_append.mp hp).elim (fun z=>I.pin p (List.mem_append_right _ z)) fun z=>by
  obtain ⟨hb,e⟩:=nY z
  obtain ⟨f0,f1,f2,_⟩:=hf p.1 hb
  obtain ⟨o,e',d⟩:=ho p.1 hb
  rw [e] at e';cases e'
  exact ⟨e,f0,f1,f2,d⟩
theorem Inv.eR {pins pl:List (Addr×Obj)} {σ:St} {H:Hp} {s:Shared} (I:Inv X (pins++pl) σ H s):Inv X pins σ H s:=I.nj fun p hp=>I.pin p (List.mem_append_right _ (List.mem_append_left _ hp))
theorem rP {iter:Expr} {body:List Stmt} {wi:TI} {g:TG} {tb:TS} {pos:Pos} (hp:PassesOwn (model X.prog X.w) X.A X.env X.xe) (hc:X.calm=true) (hi:PI X tg iter wi) (hg:PG X tg g) (hb:ic X body tb)
  (hs:∀ x,foldedSetIterable iter X.env x=pure x:=by intro _;rfl):PS X (.For tg iter body [] pos) (z7 wi g tb):=by
 intro pins s σ H D I h
 refine wpAny_For (ba (hi pins s σ H _ I h) fun v s1 h1=>ba h1 fun AZ s2 h2=>?_) hs
 obtain ⟨it,fp,tn,J,H2,e,I2,T,zE,f2,W,⟨m0,w0⟩,turn⟩:=h2
 subst e
 -- what stays true of the iterator's objects through the loop
 have stat:∀ {H':Hp},(∀ b∈fp,H' b=none)→∀ b∈fp,dO X pins H' b:=fun hn b hb=>⟨hn b hb,(f2 b hb).2⟩
 refine codeAny_forLoop_any (fun n s'=>∃ i σ' H',Inv X pins σ' H' s'∧tn i s'.heap∧(∀ b∈fp,H' b=none)∧W i n σ' H') ?_ m0 ⟨0,σ,H2,I2,zE,fun b hb=>(f2 b hb).1,w0⟩
 rintro n s3 ⟨i,σ3,H3,I3,st3,fr3,w3⟩
 rcases turn i n σ3 H3 w3 with ⟨stop,qn⟩ | ⟨go,N,hN,step⟩
 ·refine wpAny_passesOwn hp (ba (T.done X rfl rfl rfl hc i pins s3 σ3 H3 X.xe I3 (stat fr3) st3 stop) fun r s4 ⟨hr,I4⟩=>?_)
  subst hr
  exact wpAny_execs_nil ⟨σ3,H3,I4,qn⟩
 ·refine wpAny_passesOwn hp (ba (T.item X rfl rfl rfl hc i pins s3 σ3 H3 X.xe I3 (stat fr3) st3 go) fun r s4 ⟨u,hr,h4⟩=>?_)
  subst hr
  refine wpAny_passesOwn hp (ba h4 fun _ s5 ⟨x,H5,I5,r5,y5,st5,fr5⟩=>?_)
  have I5':=I5.pinned (stat fr5) (T.obj _ _ st5)
  refine wpAny_passesOwn hp (ba (hg _ s5 σ3 H5 x u _ I5' r5 (step x H5 y5)) fun _ s6 ⟨σ6,H6,I6,q6⟩=>?_)
  refine wpAny_passesOwn hp (ba (hb _ s6 σ6 H6 _ I6 q6) fun f s7 q7=>?_)
  have again:∀ {σ7:St} {H7:Hp},Inv X (pins++gZ fp s5.heap) σ7 H7 s7→N σ7 H7→∃ m,m < n∧∃ i σ' H',Inv X pins σ' H' s7∧tn i s7.heap∧(∀ b∈fp,H' b=none)∧W i m σ' H':=fun {σ7 H7} I7 n7=>by
   obtain ⟨m',hm,w7⟩:=hN σ7 H7 n7
   refine ⟨m',hm,i+1,σ7,H7,I7.eR,T.keep _ _ _ st5 fun b hb o e=>(I7.pin (b,o) (List.mem_append_right _ (List.mem_append_right _ (c6 hb e)))).1,fun b hb=>?_,w7⟩
   obtain ⟨o,e,d⟩:=T.obj _ _ st5 b hb
   exact (I7.pin (b,o) (List.mem_append_right _ (List.mem_append_right _ (c6 hb e)))).2.1
  cases f with
  | next=>obtain ⟨σ7,H7,I7,n7⟩:=q7;exact again I7 n7
  | cont=>obtain ⟨σ7,H7,I7,n7⟩:=q7;exact again I7 n7
  | brk=>obtain ⟨σ7,H7,I7,q7⟩:=q7;exact ⟨σ7,H7,I7.eR,q7⟩
  | ret v=>obtain ⟨x7,σ7,H7,I7,r7,q7⟩:=q7;exact ⟨x7,σ7,H7,I7.eR,r7,q7⟩
end
theorem qp {K:PySem.W.Frag} {a:Addr} {xs:List V} {g:TG} {tb:TS} {D:Ends} {σ:St} {H:Hp} (Pv:Nat→St→Hp→Prop) (h0:Pv 0 σ H) (hl:∀ i σ H,i≤xs.length→Pv i σ H→bS K H a xs)
  (hs:∀ i x σ H,xs[i]?=some x→Pv i σ H→g x σ H fun σ2 H2=>tb { D with nx:=Pv (i+1),ct:=Pv (i+1),bk:=D.nx } σ2 H2) (hd:∀ σ H,Pv xs.length σ H→D.nx σ H) :
  ∃ W:Nat→Nat→St→Hp→Prop,(∃ m,W 0 m σ H)∧∀ i m σ H,W i m σ H →
   ((we K a).stop i H∧D.nx σ H)∨((we K a).go i H∧∃ N:St→Hp→Prop,(∀ σ' H',N σ' H'→∃ m',m' < m∧W (i+1) m' σ' H')∧∀ x H',(we K a).yk i H x H'→g x σ H' fun σ2 H2=>tb { D with nx:=N,ct:=N,bk:=D.nx } σ2 H2):=by
 refine ⟨fun i m σ H=>m=xs.length - i∧i≤xs.length∧Pv i σ H,⟨xs.length,by simp,Nat.zero_le _,h0⟩,?_⟩
 rintro i m σ H ⟨rfl,hi,p⟩
 have q:=hl i σ H hi p
 by_cases eu:i < xs.length
 ·refine .inr ⟨⟨xs,xs[i],q,by simp [eu]⟩,Pv (i+1),fun σ' H' p'=>⟨xs.length - (i+1),by omega,rfl,eu,p'⟩,fun x H' y=>?_⟩
  obtain ⟨e,y⟩:=y
  subst e
  exact hs i x σ _ (y xs q) p
 ·have e:i=xs.length:=by omega
  subst e
  exact .inl ⟨⟨xs,q,Nat.le_refl _⟩,hd σ H p⟩
end L2
namespace L2
open PySem PySem.Spec PyProof.Rows
abbrev R2:=V→V→Hp→VK→Prop
def fe (X:Cx) (f:Value→Value→Sem Value) (r:R2):Prop :=
 ∀ (pins:List (Addr×Obj)) (s:Shared) (σ:St) (H:Hp) (x y:V) (v u:Value) (Q:VK),Inv X pins σ H s→RelV x v→RelV y u→r x y H Q →
  wpAny (model X.prog X.w) X.A (f v u) (EP X pins σ Q) X.xe s
def CW (X:Cx) (f:Value→Sem Value) (r:V→Hp→VK→Prop):Prop :=
 ∀ (pins:List (Addr×Obj)) (s:Shared) (σ:St) (H:Hp) (x:V) (v:Value) (Q:VK),Inv X pins σ H s→RelV x v→r x H Q →
  wpAny (model X.prog X.w) X.A (f v) (EP X pins σ Q) X.xe s
def cu (X:Cx) (f:Value) (r:List V→Hp→VK→Prop):Prop :=
 ∀ (pins:List (Addr×Obj)) (s:Shared) (σ:St) (H:Hp) (xs:List V) (us:List Value) (Q:VK),Inv X pins σ H s→Vals xs us→r xs H Q →
  wpAny (model X.prog X.w) X.A (call f us) (EP X pins σ Q) X.xe s
def CI (X:Cx) (r:V→Hp→(Bool→Hp→Prop)→Prop):Prop :=
 ∀ (pins:List (Addr×Obj)) (s:Shared) (σ:St) (H:Hp) (x:V) (v:Value) (Q:Bool→Hp→Prop),Inv X pins σ H s→RelV x v→r x H Q →
  wpAny (model X.prog X.w) X.A (truthy v) (TP X pins σ Q) X.xe s
def ef (r:R2) (ta tb:TE):TE:=fun σ H Q=>ta σ H fun x H1=>tb σ H1 fun y H2=>r x y H2 Q
def Ha (r:V→Hp→VK→Prop) (ta:TE):TE:=fun σ H Q=>ta σ H fun x H1=>r x H1 Q
def rI (C:Int→Int→Prop) (g:Int→Int→V):R2:=fun x y H Q=>∃ i j,x=.int i∧y=.int j∧C i j∧Q (g i j) H
def jW (g:Int→Int→V):R2:=fun x y H Q=>∃ i j,x=.int i∧y=.int j∧Q (g i j) H
def rU (g:Int→V):V→Hp→VK→Prop:=fun x H Q=>∃ i,x=.int i∧Q (g i) H
section
variable {X:Cx} {a b c:Expr} {ta tb tc:TE} {pos:Pos}
theorem vO (ha:PE X a ta) (hb:PE X b tb) {pins:List (Addr×Obj)} {s:Shared} {σ:St} {H:Hp} {R:V→V→Hp→Prop} (I:Inv X pins σ H s)
  (h:ta σ H fun x H1=>tb σ H1 fun y H2=>R x y H2) {Q:Value→Shared→Prop} {f:Value→Value→Sem Value}
  (hf:∀ v u s2 x y H2,Inv X pins σ H2 s2→RelV x v→RelV y u→R x y H2→wpAny (model X.prog X.w) X.A (f v u) Q X.xe s2) :
  wpAny (model X.prog X.w) X.A (eval a X.env) (fun v s₁=>wpAny (model X.prog X.w) X.A (eval b X.env) (fun u s₂=>wpAny (model X.prog X.w) X.A (f v u) Q X.xe s₂) X.xe s₁) X.xe s:=by
 refine ba (ha pins s σ H _ I h) fun v s1 ⟨x,H1,I1,r1,q1⟩=>?_
 refine ba (hb pins s1 σ H1 _ I1 q1) fun u s2 ⟨y,H2,I2,r2,q2⟩=>?_
 exact hf v u s2 x y H2 I2 r1 r2 q2
theorem bo {op:Operator} {r:R2} (ho:fe X (binaryOp op) r) (ha:PE X a ta) (hb:PE X b tb):PE X (.BinOp a op b pos) (ef r ta tb):=by
 intro pins s σ H Q I h
 exact wpAny_BinOp (vO ha hb I h fun v u s2 x y H2 I2 rx ry q=>ho pins s2 σ H2 x y v u Q I2 rx ry q)
theorem zF {op:UnaryOp} {r:V→Hp→VK→Prop} (ho:CW X (unaryOp op) r) (ha:PE X a ta):PE X (.UnaryOp op a pos) (Ha r ta):=by
 intro pins s σ H Q I h
 exact UnaryOp_ (ba (ha pins s σ H _ I h) fun v s1 ⟨x,H1,I1,r1,q1⟩=>ho pins s1 σ H1 x v Q I1 r1 q1)
theorem Bd {f:Value→Value→Sem Value} {C:Int→Int→Prop} {g:Int→Int→Int}
  (rule:∀ (i j:Int) (t u:Tok) (s:Shared) (Q:Value→Shared→Prop) (E:Value→Shared→Prop),C i j→Q (.int (g i j) s.toks) { s with toks:=s.toks+1 }→wpAny (model X.prog X.w) X.A (f (.int i t) (.int j u)) Q E s) :
  fe X f (rI C fun i j=>.int (g i j)):=by
 intro pins s σ H x y v u Q I rx ry h
 obtain ⟨i,j,rfl,rfl,hc,q⟩:=h
 obtain ⟨t,rfl⟩:=rx
 obtain ⟨t',rfl⟩:=ry
 exact rule i j t t' s _ _ hc ⟨.int (g i j),H,I.tok _,⟨_,rfl⟩,q⟩
theorem yO {f:Value→Value→Sem Value} {g:Int→Int→Int}
  (rule:∀ (i j:Int) (t u:Tok) (s:Shared) (Q:Value→Shared→Prop) (E:Value→Shared→Prop),Q (.int (g i j) s.toks) { s with toks:=s.toks+1 }→wpAny (model X.prog X.w) X.A (f (.int i t) (.int j u)) Q E s) :
  fe X f (jW fun i j=>.int (g i j)):=by
 intro pins s σ H x y v u Q I rx ry h
 obtain ⟨i,j,rfl,rfl,q⟩:=h
 obtain ⟨t,rfl⟩:=rx
 obtain ⟨t',rfl⟩:=ry
 exact rule i j t t' s _ _ ⟨.int (g i j),H,I.tok _,⟨_,rfl⟩,q⟩
theorem vY {f:Value→Value→Sem Value} {g:Int→Int→Bool}
  (rule:∀ (i j:Int) (t u:Tok) (s:Shared) (Q:Value→Shared→Prop) (E:Value→Shared→Prop),Q (.bool (g i j)) s→wpAny (model X.prog X.w) X.A (f (.int i t) (.int j u)) Q E s) :
  fe X f (jW fun i j=>.bl (g i j)):=by
 intro pins s σ H x y v u Q I rx ry h
 obtain ⟨i,j,rfl,rfl,q⟩:=h
 obtain ⟨t,rfl⟩:=rx
 obtain ⟨t',rfl⟩:=ry
 exact rule i j t t' s _ _ ⟨.bl (g i j),H,I,rfl,q⟩
def AO (i j:Int):Prop:=0≤j∧j≤1000000∧i.natAbs < 2 ^ 64
def js (i j:Int):Prop:=(-(2 ^ 64) < i∧i < 2 ^ 64)∨(-(2 ^ 64) < j∧j < 2 ^ 64)
theorem js.ok {i j:Int} (h:js i j):IntMulOk i j:=by
 rcases h with ⟨h1,h2⟩ | ⟨h1,h2⟩
 ·exact .of_left (intBits_le_64 h1 h2)
 ·exact .of_right (intBits_le_64 h1 h2)
theorem c8:fe X (binaryOp .Add) (jW fun i j=>.int (i+j)):=yO fun _ _ _ _ _ _ _ q=>add_int q
theorem o5:fe X (binaryOp .Sub) (jW fun i j=>.int (i - j)):=yO fun _ _ _ _ _ _ _ q=>sub_int q
theorem eJ:fe X (binaryOp .Mult) (rI js fun i j=>.int (i * j)):=Bd fun _ _ _ _ _ _ _ hc q=>mul_int q hc.ok
theorem cS:fe X (binaryOp .Mod) (rI (fun _ j=>0 < j) fun i j=>.int (i % j)):=Bd fun i j _ _ _ _ _ hc q=>by
 have h1:(0:Int) < j:=hc
 exact mod_int' (by omega) (by rw [Int.fmod_eq_emod_of_nonneg i (by omega)];exact q)
theorem xX:fe X (binaryOp .Pow) (rI AO fun i j=>.int (i ^ j.toNat)):=Bd fun _ _ _ _ _ _ _ hc q=>pow_int_small hc.1 hc.2.1 hc.2.2 q
theorem GD {f:Value→Sem Value} {g:Int→Int}
  (rule:∀ (i:Int) (t:Tok) (s:Shared) (Q:Value→Shared→Prop) (E:Value→Shared→Prop),Q (.int (g i) s.toks) { s with toks:=s.toks+1 }→wpAny (model X.prog X.w) X.A (f (.int i t)) Q E s) :
  CW X f (rU fun i=>.int (g i)):=by
 intro pins s σ H x v Q I rx h
 obtain ⟨i,rfl,q⟩:=h
 obtain ⟨t,rfl⟩:=rx
 exact rule i t s _ _ ⟨.int (g i),H,I.tok _,⟨_,rfl⟩,q⟩
theorem xg:CW X (unaryOp .USub) (rU fun i=>.int (-i)):=GD fun _ _ _ _ _ q=>neg_int q
end
def zZ:V→V→Bool
 | .aS,.aS=>true | .aS,.int _=>true | .int _,.aS=>true | .aS,.bl _=>true | .bl _,.aS=>true | .aS,.str _=>true | .str _,.aS=>true
 | .int _,.int _=>true | .bl _,.bl _=>true | .str _,.str _=>true | .qv _,.qv _=>true
 | .int _,.str _=>true | .str _,.int _=>true | .bl _,.str _=>true | .str _,.bl _=>true
 | _,_=>false
def Fu:R2:=fun x y H Q=>zZ x y=true∧Q (.bl (decide (x=y))) H
theorem tV {i j:Int}:decide (V.int i=V.int j)=(i == j):=by
 rw [Bool.eq_iff_iff]
 simp
theorem xh {i j:Bool}:decide (V.bl i=V.bl j)=(i == j):=by
 rw [Bool.eq_iff_iff]
 simp
theorem uy {i j:Str}:decide (V.str i=V.str j)=(i == j):=by
 rw [Bool.eq_iff_iff]
 simp
theorem sV {i j:Array UInt8}:decide (V.qv i=V.qv j)=(i.toList == j.toList):=by
 rw [Bool.eq_iff_iff]
 cases i
 cases j
 simp
section
variable {X:Cx} {a b c:Expr} {ta tb tc:TE} {pos:Pos}
theorem bA {pins:List (Addr×Obj)} {σ:St} {H:Hp} {s:Shared} {Q:VK} {k k':Bool} (I:Inv X pins σ H s) (q:Q (.bl k) H) (e:k=k'):EP X pins σ Q (.bool k') s:=by
 subst e
 exact ⟨.bl k,H,I,rfl,q⟩
theorem d5:fe X (compareOp .Eq) Fu:=by
 intro pins s σ H x y v u Q I rx ry h
 obtain ⟨hs,q⟩:=h
 cases x with
 | aS =>
  cases rx
  cases y with
  | aS=>cases ry;exact PySem.EqNone.eq_none_none (bA I q (by simp))
  | bl j=>cases ry;exact PySem.EqNone.eq_none_bool (bA I q (by simp))
  | int j=>obtain ⟨t',rfl⟩:=ry;exact PySem.EqNone.eq_none_int (bA I q (by simp))
  | str j=>obtain ⟨t',rfl⟩:=ry;exact PySem.EqNone.eq_none_str (bA I q (by simp))
  | _=>exact absurd (show false=true from hs) Bool.false_ne_true
 | bl i =>
  cases rx
  cases y with
  | aS=>cases ry;exact PySem.EqNone.eq_bool_none (bA I q (by simp))
  | bl j=>cases ry;exact eq_bool (bA I q xh)
  | str j=>obtain ⟨t',rfl⟩:=ry;exact PySem.EqMixed.eq_bool_str (bA I q (by simp))
  | _=>exact absurd (show false=true from hs) Bool.false_ne_true
 | int i =>
  obtain ⟨t,rfl⟩:=rx
  cases y with
  | aS=>cases ry;exact PySem.EqNone.eq_int_none (bA I q (by simp))
  | int j=>obtain ⟨t',rfl⟩:=ry;exact eq_int (bA I q tV)
  | str j=>obtain ⟨t',rfl⟩:=ry;exact PySem.EqMixed.eq_int_str (bA I q (by simp))
  | _=>exact absurd (show false=true from hs) Bool.false_ne_true
 | str i =>
  obtain ⟨t,rfl⟩:=rx
  cases y with
  | aS=>cases ry;exact PySem.EqNone.eq_str_none (bA I q (by simp))
  | bl j=>cases ry;exact PySem.EqMixed.eq_str_bool (bA I q (by simp))
  | int j=>obtain ⟨t',rfl⟩:=ry;exact PySem.EqMixed.eq_str_int (bA I q (by simp))
  | str j=>obtain ⟨t',rfl⟩:=ry;exact eq_str (bA I q uy)
  | _=>exact absurd (show false=true from hs) Bool.false_ne_true
 | qv i =>
  obtain ⟨t,rfl⟩:=rx
  cases y with
  | qv j=>obtain ⟨t',rfl⟩:=ry;exact PySem.W.eq_bytes (bA I q sV)
  | _=>exact absurd (show false=true from hs) Bool.false_ne_true
 | _=>cases y<;>exact absurd (show false=true from hs) Bool.false_ne_true
theorem y3:fe X (compareOp .Lt) (jW fun i j=>.bl (decide (i < j))):=vY fun _ _ _ _ _ _ _ q=>lt_int q
theorem o8:fe X (compareOp .Gt) (jW fun i j=>.bl (decide (j < i))):=vY fun _ _ _ _ _ _ _ q=>gt_int q
theorem yV:fe X (compareOp .GtE) (jW fun i j=>.bl (decide (j≤i))):=vY fun _ _ _ _ _ _ _ q=>ge_int q
theorem pJ:fe X (compareOp .Is) (fun x y H Q=>y=.aS∧Q (.bl (decide (x=.aS))) H):=by
 intro pins s σ H x y v u Q I rx ry h
 obtain ⟨rfl,q⟩:=h
 cases ry
 refine is_none_gen (bA I q ?_)
 cases x<;>first
  | (cases rx;rfl)
  | (obtain ⟨t,rfl⟩:=rx;rfl)
theorem bf (b:Expr) {op:CmpOp} (h:op≠.In:=by decide) (h2:op≠.NotIn:=by decide):behindInMarks op b=false:=by
 have e1:(op == CmpOp.In)=false:=by cases op<;>first | rfl | exact absurd rfl h
 have e2:(op == CmpOp.NotIn)=false:=by cases op<;>first | rfl | exact absurd rfl h2
 cases b<;>simp [behindInMarks,e1,e2]
theorem sJ {op:CmpOp} {r:R2} (ho:fe X (compareOp op) r) (ha:PE X a ta) (hb:PE X b tb) (hm:behindInMarks op b=false):PE X (.Compare a [op] [b] pos) (ef r ta tb):=by
 intro pins s σ H Q I h
 exact wpAny_Compare1 (vO ha hb I h fun v u s2 x y H2 I2 rx ry q=>ho pins s2 σ H2 x y v u Q I2 rx ry q) hm
def iH (t:TE):TT:=fun σ H Q=>t σ H fun x H'=>∃ k,x=.bl k∧Q k H'
theorem dU {op:CmpOp} {r:R2} (ho:fe X (compareOp op) r) (ha:PE X a ta) (hb:PE X b tb) (hm:behindInMarks op b=false):PT X (.Compare a [op] [b] pos) (iH (ef r ta tb)):=by
 intro pins s σ H Q I h
 refine wpAny_isTrue_Compare1 (ba (ha pins s σ H _ I h) fun v s1 ⟨x,H1,I1,r1,q1⟩=>ba (hb pins s1 σ H1 _ I1 q1) fun u s2 ⟨y,H2,I2,r2,q2⟩ =>
  ba (ho pins s2 σ H2 x y v u _ I2 r1 r2 q2) fun c s3 ⟨z,H3,I3,r3,k,e,q3⟩=>?_) hm
 subst e
 cases r3
 exact wpAny_truthy_bool ⟨H3,I3,q3⟩
def zX (K:PySem.W.Frag) (x:V) (H:Hp) (k:Bool):Prop :=
 match x with
 | .aS=>k=false
 | .bl b=>k=b
 | .int i=>k=(i != 0)
 | .str y=>y.length≤sizeLine∧k=((y.length:Int) != 0)
 | .qv y=>y.size≤sizeLine∧k=((y.size:Int) != 0)
 | .ref p=>(∃ xs,bS K H p xs∧k=!xs.isEmpty)∨(∃ xs,dw K H p xs∧k=!xs.isEmpty)∨∃ kvs,H p=some (.dK kvs)∧k=!kvs.isEmpty
 | _=>False
theorem lE {κ:Type} {kvs:List (κ×V)} {vs:List (κ×Value)} (r:KV kvs vs):(!vs.isEmpty)=!kvs.isEmpty:=by
 cases r<;>rfl
theorem gI {xs:List V} {its:List Value} (r:Vals xs its):(!its.toArray.isEmpty)=!xs.isEmpty:=by
 cases r<;>simp
theorem eA:(sizeLine:Nat) < 2 ^ 63:=by rw [sizeLine_eq];decide
theorem xf:CI X (fun x H Q=>∃ k,zX X.K x H k∧Q k H):=by
 intro pins s σ H x v Q I rx h
 obtain ⟨k,e,q⟩:=h
 have hl:=eA
 have hs:sizeLine=16777216:=sizeLine_eq
 cases x with
 | aS =>
  cases rx
  have e':k=false:=e
  subst e'
  exact truthy_none ⟨H,I,q⟩
 | bl b =>
  cases rx
  have e':k=b:=e
  subst e'
  exact wpAny_truthy_bool ⟨H,I,q⟩
 | int i =>
  obtain ⟨t,rfl⟩:=rx
  have e':k=(i != 0):=e
  subst e'
  exact PySem.P.truthy_int ⟨H,I,q⟩
 | str y =>
  obtain ⟨t,rfl⟩:=rx
  obtain ⟨hy,e'⟩:y.length≤sizeLine∧k=((y.length:Int) != 0):=e
  subst e'
  exact PySem.P.truthy_str (by omega) ⟨H,I.tok _,q⟩
 | qv y =>
  obtain ⟨t,rfl⟩:=rx
  obtain ⟨hy,e'⟩:y.size≤sizeLine∧k=((y.size:Int) != 0):=e
  subst e'
  exact PySem.W.truthy_bytes (by omega) ⟨H,I.tok _,q⟩
 | ref p =>
  cases rx
  have e':(∃ xs,bS X.K H p xs∧k=!xs.isEmpty)∨(∃ xs,dw X.K H p xs∧k=!xs.isEmpty)∨∃ kvs,H p=some (.dK kvs)∧k=!kvs.isEmpty:=e
  rcases e' with ⟨xs,hx,e'⟩ | ⟨xs,hx,e'⟩ | ⟨kvs,hx,e'⟩
  ·subst e'
   obtain ⟨its,r,pl,hz⟩:=I.list hx
   have hlen:=r.length
   exact wpAny_truthy_list pl.isList (by simp only [List.size_toArray];omega) ⟨H,I.tok _,by rw [gI r];exact q⟩
  ·subst e'
   obtain ⟨its,r,pl,hz⟩:=I.tuple hx
   have hlen:=r.length
   exact truthy_tuple pl (by simp only [List.size_toArray];omega) ⟨H,I.tok _,by rw [gI r];exact q⟩
  ·subst e'
   obtain ⟨hz,hS,vs,r,m⟩:kvs.length≤sizeLine∧(p == sysModules)=false∧∃ vs,KV kvs vs∧s.heap.DictOf (ax X.prog X.w) p vs:=I.aH p _ hx
   have hlen:kvs.length=vs.length:=Paired.length r
   exact wpAny_truthy_dict hS m (by omega) ⟨H,I.tok _,by rw [lE r];exact q⟩
 | _=>exact (show False from e).elim
theorem pB (ha:PE X a ta) (he:∀ whole,isTrue a X.env whole=(do let v ← whole;standAt a.pos;holding [v] (truthy v))) :
  PT X a (fun σ H Q=>ta σ H fun x H'=>∃ k,zX X.K x H' k∧Q k H'):=by
 intro pins s σ H Q I h
 exact isTrue_plain (ba (ha pins s σ H _ I h) fun v s1 ⟨x,H1,I1,r1,q1⟩=>xf pins s1 σ H1 x v Q I1 r1 q1) (he _)
theorem bx:fe X (binaryOp .Add) (fun x y H Q=>∃ i j,x=.str i∧y=.str j∧i.length+j.length≤sizeLine∧Q (.str (i++j)) H):=by
 intro pins s σ H x y v u Q I rx ry h
 obtain ⟨i,j,rfl,rfl,hz,q⟩:=h
 obtain ⟨t,rfl⟩:=rx
 obtain ⟨t',rfl⟩:=ry
 exact add_str (fun t' tk=>⟨.str (i++j),H,I.tok _,⟨_,rfl⟩,q⟩) hz
theorem vals1 {x:V} {us:List Value} (r:Vals [x] us):∃ u,us=[u]∧RelV x u:=by
 cases r with
 | cons r1 r2=>cases r2;exact ⟨_,rfl,r1⟩
theorem vals2 {x y:V} {us:List Value} (r:Vals [x,y] us):∃ u w',us=[u,w']∧RelV x u∧RelV y w':=by
 cases r with
 | cons r1 r2 =>
  cases r2 with
  | cons r3 r4=>cases r4;exact ⟨_,_,rfl,r1,r3⟩
theorem iZ (hc:X.calm=true):cu X (.builtin "max") (fun xs H Q=>∃ i j,xs=[.int i,.int j]∧Q (.int (if j > i then j else i)) H):=by
 intro pins s σ H xs us Q I r h
 obtain ⟨i,j,rfl,q⟩:=h
 obtain ⟨u,w',rfl,⟨t,rfl⟩,⟨t',rfl⟩⟩:=vals2 r
 refine max_two_ints (I.ok.hd hc) fun h' tk k=>⟨_,H,I.kept k,?_,q⟩
 by_cases hj:j > i
 ·rw [if_pos hj,if_pos hj];exact ⟨_,rfl⟩
 ·rw [if_neg hj,if_neg hj];exact ⟨_,rfl⟩
theorem oq:cu X (.type "int") (fun xs H Q=>(∃ i,xs=[.int i]∧Q (.int i) H)∨∃ k,xs=[.bl k]∧Q (.int (if k then 1 else 0)) H):=by
 intro pins s σ H xs us Q I r h
 rcases h with ⟨i,rfl,q⟩ | ⟨k,rfl,q⟩
 ·obtain ⟨u,rfl,t,rfl⟩:=vals1 r
  exact call_int_int ⟨.int i,H,I,⟨_,rfl⟩,q⟩
 ·obtain ⟨u,rfl,r1⟩:=vals1 r
  cases r1
  exact call_int_bool ⟨.int (if k then 1 else 0),H,I.tok _,⟨_,rfl⟩,q⟩
end
end L2
namespace L2
open PySem PySem.Spec PyProof.Rows
section
variable {prog:Program} {w:World} {A:Around} {E:Value→Shared→Prop} {s:Shared} {K:PySem.W.Frag} {x dx C f:Addr} {mA:Str→Option Value} {name:Str} {v:Value}
end
theorem fM.some_of {v:V} {o:Option Value} (r:fM (some v) o):∃ u,o=some u∧RelV v u:=by
 cases o with
 | none=>exact (show False from r).elim
 | some u=>exact ⟨u,rfl,r⟩
section
variable {P:Program} {w:World} {H H':Hp} {h h':Heap} {a C dx:Addr} {fs GZ:List (Str×V)}
end
section
variable {X:Cx} {pins:List (Addr×Obj)} {σ:St} {H:Hp} {s:Shared} {a C dx:Addr} {fs:List (Str×V)} {f:Str} {v:V} {A:Around} {E:Value→Shared→Prop}
end
section
variable {X:Cx} {o e value:Expr} {f:Str} {pos pos' kl:Pos} {ta tv:TE}
end
section
variable {X:Cx} {pins:List (Addr×Obj)} {σ:St} {H:Hp} {s:Shared} {A:Around} {E:Value→Shared→Prop} {Q:Value→Shared→Prop} {c:Value} {b:Bool}
end
end L2
namespace L2
open PySem PySem.Spec PyProof.Rows
structure bH (k:Nat) (A:Around):Prop where
 hd:A.handled=none
 dp:A.depth+3 * k+5 < recursionLimit
 un:A.units+16 * k+200 < cLine
theorem bH.mono {j k:Nat} {A:Around} (r:bH k A) (h:j≤k):bH j A:=⟨r.hd,by have:=r.dp;omega,by have:=r.un;omega⟩
theorem bH.deeper {k:Nat} {A:Around} (r:bH (k+1) A) (env:Env):bH k (A.deeper env) :=
 ⟨r.hd,by have:=r.dp;show A.depth+1+3 * k+5 < _;omega,by have:=r.un;show A.units+3+16 * k+200 < _;omega⟩
theorem bH.depth {k:Nat} {A:Around} (r:bH k A):A.depth < recursionLimit:=by have:=r.dp;omega
theorem bH.units {k:Nat} {A:Around} (r:bH k A):A.units+64 < cLine:=by have:=r.un;omega
def qQ:TA:=fun _ H Q=>Q [] H
def jc (ta:TE) (tr:TA):TA:=fun σ H Q=>ta σ H fun x H1=>tr σ H1 fun xs H2=>Q (x::xs) H2
section
variable {X:Cx} {e:Expr} {es:List Expr} {te:TE} {t:TA} {pos:Pos}
theorem dI:PA X [] qQ:=fun _ _ _ _ H Q I h=>Calls.spliced_nil ⟨[],H,I,.nil,h⟩
theorem bJ (ha:PE X e te) (hr:PA X es t) (hs:starEach (e::es) X.env=(false,eval e X.env)::starEach es X.env:=by rfl):PA X (e::es) (jc te t):=by
 intro pos pins s σ H Q I h
 rw [hs]
 show wpAny _ _ (spliced ((false,eval e X.env)::backTo pos (starEach es X.env))) _ _ s
 refine Calls.spliced_cons (ba (ha pins s σ H _ I h) fun u s1 ⟨x,H1,I1,r1,q1⟩=>?_)
 exact ba (hr pos pins s1 σ H1 _ I1 q1) fun us s2 ⟨xs,H2,I2,r2,q2⟩=>⟨x::xs,H2,I2,.cons r1 r2,q2⟩
def Bu (t:TA):TE:=fun σ H Q=>t σ H fun xs H1=>xs.length≤sizeLine∧∀ p,H1 p=none→Q (.ref p) (upd H1 p (.tup xs))
def CB (t:TA):TE:=fun σ H Q=>t σ H fun xs H1=>xs.length≤sizeLine∧∀ p,H1 p=none→Q (.ref p) (upd H1 p (.lst xs))
theorem vM {x1} (h:PA X es t):PE X (.Tuple es x1 pos) (Bu t):=by
 intro pins s σ H Q I hq
 refine wpAny_Tuple_spliced (ba (h pos pins s σ H _ I hq) fun us s1 ⟨xs,H1,I1,r,z,q⟩=>⟨by rw [← r.length];exact z,?_⟩)
 have hf:H1 s1.heap.objs.size=none:=I1.aH.fresh (Nat.le_refl _)
 refine ⟨.ref s1.heap.objs.size,upd H1 s1.heap.objs.size (.tup xs),I1.laid (t':=s1.toks) (fun b u e=>Heap.get?_push_of_some _ e) (Nat.le_refl _) ?_,rfl,q _ hf⟩
 exact ⟨z,us,r,⟨_,Heap.get?_push_size _ rfl,rfl,_,rfl⟩⟩
theorem wo (h:PA X es t):PE X (.List es pos) (CB t):=by
 intro pins s σ H Q I hq
 refine wpAny_List_spliced (ba (h pos pins s σ H _ I hq) fun us s1 ⟨xs,H1,I1,r,z,q⟩=>⟨by rw [← r.length];exact z,?_⟩)
 have hf:H1 s1.heap.objs.size=none:=I1.aH.fresh (Nat.le_refl _)
 refine ⟨.ref s1.heap.objs.size,upd H1 s1.heap.objs.size (.lst xs),I1.laid (t':=s1.toks) (fun b u e=>Heap.get?_push_of_some _ e) (Nat.le_refl _) ?_,rfl,q _ hf⟩
 exact ⟨z,us,0,r,Heap.get?_push_size _ rfl⟩
end
abbrev Sp:=List V→Hp→VK→XK→Prop
abbrev qx:=List Env→Hp→Shared→XK→Value→Shared→Prop
structure lM (P:Program) (w:World) (K:PySem.W.Frag) (mg:Str→Option Value) (base:Heap) (A:Around) (outer:List Env) (s:Shared) (H:Hp):Prop where
 frames:A.frames=some outer
 mod:Mod K mg base
 bs:∀ b o,base.get? b=some o→s.heap.get? b=some o∧H b=none
 rH:base.objs.size≤s.heap.objs.size
 fj:s.heap.FunFrames base outer
 xK:∀ b∈hW outer,H b=none
 aH:eU P w H s.heap
 bare:AllBare s.gens
def CE (outer:List Env) (P:Program) (w:World) (H:Hp) (s:Shared) (Q:VK) (u:Value) (s':Shared):Prop :=
 ∃ v H',s'.os=s.os∧AllBare s'.gens∧Un (hW outer) [] H H' s.heap s'.heap∧eU P w H' s'.heap∧RelV v u∧Q v H'
def CR (CX:qx) (outer:List Env) (P:Program) (w:World) (H:Hp) (s:Shared) (Q:VK) (E:XK) (r:Result) (s':Shared):Prop :=
 match r with
 | .ok (.ret u)=>CE outer P w H s Q u s'
 | .ok _=>False
 | .error e=>CX outer H s E e s'
structure aw (P:Program) (w:World) (K:PySem.W.Frag) (mg:Str→Option Value) (base:Heap) (CX:qx) (k:Nat) (f:Addr) (fd:FuncData) (ps:List Str) (sp:Sp):Prop where
 len:∀ vs H Q E,sp vs H Q E→vs.length=ps.length
 run:∀ (A:Around) (outer:List Env) (s:Shared) (H:Hp) (args:Args) (us:List Value) (vs:List V) (Q:VK) (E:XK),bH k A→lM P w K mg base A outer s H→BindsTo s fd args (ps.zip us)→Vals vs us→sp vs H Q E →
  codeAny (model P w) A (.call (.ref f) args) (CR CX outer P w H s Q E) s
theorem aw.mono {P:Program} {w:World} {K:PySem.W.Frag} {mg:Str→Option Value} {base:Heap} {CX:qx} {j k:Nat} {f:Addr} {fd:FuncData} {ps:List Str} {sp:Sp} (F:aw P w K mg base CX j f fd ps sp) (h:j≤k) :
  aw P w K mg base CX k f fd ps sp:=⟨F.len,fun A outer s H args us vs Q E hr=>F.run A outer s H args us vs Q E (hr.mono h)⟩
theorem aw.imp {P:Program} {w:World} {K:PySem.W.Frag} {mg:Str→Option Value} {base:Heap} {CX:qx} {k:Nat} {f:Addr} {fd:FuncData} {ps:List Str} {sp Gg:Sp} (F:aw P w K mg base CX k f fd ps sp)
  (h:∀ vs H Q E,Gg vs H Q E→sp vs H Q E):aw P w K mg base CX k f fd ps Gg :=
 ⟨fun vs H Q E q=>F.len vs H Q E (h _ _ _ _ q),fun A outer s H args us vs Q E hr he hb hv hs=>F.run A outer s H args us vs Q E hr he hb hv (h _ _ _ _ hs)⟩
section
variable {X:Cx} {pins:List (Addr×Obj)} {σ:St} {H:Hp} {s s':Shared}
theorem Inv.BJ (I:Inv X pins σ H s):lM X.prog X.w X.K X.mg X.base X.A X.stack s H :=
 ⟨I.ok.frames,I.ok.mod,I.bs,Nat.le_trans I.ok.rH I.sz,I.stack,I.f7,I.aH,I.bare⟩
theorem Inv.after {Q:VK} {u:Value} (I:Inv X pins σ H s) (h:CE X.stack X.prog X.w H s Q u s'):EP X pins σ Q u s':=by
 obtain ⟨v,H',os,bare,un,aH,r,q⟩:=h
 obtain ⟨hh,g,d,t,os'⟩:=s'
 obtain rfl:os'=s.os:=os
 exact ⟨v,H',I.call (h':=hh) (g':=g) (d':=d) (t':=t) (ch:=[]) un aH bare (fun b z=>absurd z (by simp)),r,q⟩
end
def rL (sp:Sp) (vx:List V) (E:XK) (t:TA):TE:=fun σ H Q=>t σ H fun vs H1=>sp (vs++vx) H1 Q E
def Binds (K:PySem.W.Frag) (fd:FuncData) (ps:List Str) (ds:List Value):Prop :=
 ∀ (s:Shared) (us:List Value),K.In s.heap→(us++ds).length=ps.length→BindsTo s fd ⟨us,[]⟩ (ps.zip (us++ds))
theorem Binds.all {K:PySem.W.Frag} {fd:FuncData} {ps:List Str} (h:∀ us:List Value,us.length=ps.length→bindArgs fd ⟨us,[]⟩=pure (ps.zip us)):Binds K fd ps []:=fun s us _ hl=>by
 rw [List.append_nil] at hl ⊢
 exact .of_eq (h us hl)
def Passes (CX:qx) (X:Cx) (E:XK):Prop:=∀ (pins:List (Addr×Obj)) (σ:St) (H:Hp) (s:Shared) (e:Value) (s':Shared),Inv X pins σ H s→CX X.stack H s E e s'→X.xe e s'
section
variable {X:Cx} {CX:qx} {k:Nat} {f C:Addr} {fd:FuncData} {ps:List Str} {sp:Sp} {vx:List V} {ds:List Value} {E:XK} {x m:Str} {p pos apos:Pos} {e o:Expr} {es:List Expr} {ta:TE} {t:TA}
theorem qm {pins:List (Addr×Obj)} {σ:St} {H:Hp} {s:Shared} {Q:VK} {us:List Value} {vs:List V} (F:aw X.prog X.w X.K X.mg X.base CX k f fd ps sp) (hr:bH k X.A) (hb:Binds X.K fd ps ds) (hd:Vals vx ds) (hx:Passes CX X E)
  (I:Inv X pins σ H s) (r:Vals vs us) (h:sp (vs++vx) H Q E):wpAny (model X.prog X.w) X.A (call (.ref f) us) (EP X pins σ Q) X.xe s:=by
 have r2:Vals (vs++vx) (us++ds):=r.append hd
 have hl:(us++ds).length=ps.length:=by rw [← r2.length];exact F.len _ _ _ _ h
 refine wpAny_call (codeAny_mono (F.run X.A X.stack s H ⟨us,[]⟩ (us++ds) (vs++vx) Q E hr I.BJ (hb s us I.u9 hl) r2 h) fun r s' hq=>?_)
 cases r with
 | error e=>exact hx pins σ H s e s' I hq
 | ok fl =>
  cases fl with
  | ret u=>exact I.after hq
  | next=>exact False.elim hq
  | brk=>exact False.elim hq
  | cont=>exact False.elim hq
theorem fV (F:aw X.prog X.w X.K X.mg X.base CX k f fd ps sp) (hr:bH k X.A) (hg:Gl X x) (hm:X.mg x=some (.ref f)) (hk:PySem.W.keepIn X.K (.ref f)=true) (hb:Binds X.K fd ps ds) (hd:Vals vx ds) (hx:Passes CX X E)
  (ha:PA X (e::es) t) (jG:(x == ("__debug__":Str))=false:=by decide) (he:starEach (e::es) X.env=(false,eval e X.env)::starEach es X.env:=by rfl) (fg:(backTo pos (starEach es X.env)).any (·.1)=false:=by rfl) :
  PE X (.Call (.Name x p) (e::es) [] pos) (rL sp vx E t):=by
 intro pins s σ H Q I h
 refine wpAny_Call_Name_kw (jR I hg hm ?_ jG)
 refine PySem.W.callWith_K (h₀:=X.base) I.ok.mod.rZ hk (ba (ha pos pins s σ H _ I h) fun us s1 ⟨vs,H1,I1,r,q⟩=>⟨I1.u9,?_⟩) he fg
 exact qm F hr hb hd hx I1 r q
end
section
variable {X:Cx} {CX:qx} {k:Nat} {f C:Addr} {fd:FuncData} {ps ks:List Str} {sp:Sp} {E:XK} {x m:Str} {p pos apos GQ:Pos} {e o:Expr} {es:List Expr} {Hq:List Keyword} {te ta:TE} {t tk:TA} {nm:Option Str}
variable {g:List Value→List Value→List Value} {gV:List V→List V→List V}
end
structure aD (N P:List Str) (sc:Scope):Prop where
 kind:sc.kind=.function
 co:sc.isCoroutine=false
 gen:sc.isGenerator=false
 nd:N.Nodup
 pre:N.take P.length=P
 par:∀ x∈P,sc.names.lookup x=some .local∨sc.names.lookup x=some .cell
 wH:∀ y∈sc.names,y.2≠.free
theorem iA {kindOf:Str→Option NameKind} {x:Str}:∀ {binds:List (Str×Value)} {m:Str→Option Value},(∀ v,(x,v)∉binds)→bindL kindOf binds m x=m x
 | [],_,_=>rfl
 | (n,v)::r,m,h=>by
  unfold bindL
  rw [iA fun w hw=>h w (List.mem_cons_of_mem _ hw)]
  split
  ·have:x≠n:=by rintro rfl;exact h v List.mem_cons_self
   simp [this]
  ·rfl
theorem iE {kindOf:Str→Option NameKind} {x:Str}:∀ {binds:List (Str×Value)} {m:Str→Option Value},(∀ v,(x,v)∉binds)→bindC kindOf binds m x=m x
 | [],_,_=>rfl
 | (n,v)::r,m,h=>by
  unfold bindC
  rw [iE fun w hw=>h w (List.mem_cons_of_mem _ hw)]
  split
  ·rfl
  ·have:x≠n:=by rintro rfl;exact h v List.mem_cons_self
   simp [this]
theorem iS {kindOf:Str→Option NameKind} {x:Str} {v:Value}:∀ {P:List Str} {vs:List Value} {i:Nat} {m:Str→Option Value},P.Nodup→P[i]?=some x→vs[i]?=some v→kindOf x=some .local →
  bindL kindOf (P.zip vs) m x=some v
 | [],_,_,_,_,h,_,_=>by simp at h
 | _::_,[],_,_,_,_,h,_=>by simp at h
 | p::P,w::vs,0,m,nd,h1,h2,hk=>by
  simp at h1 h2;subst h1;subst h2
  show bindL kindOf ((p,w)::P.zip vs) m p=_
  unfold bindL
  rw [iA fun v hv=>(List.nodup_cons.mp nd).1 (List.of_mem_zip hv).1,if_pos hk]
  simp
 | p::P,w::vs,i+1,m,nd,h1,h2,hk=>by
  show bindL kindOf ((p,w)::P.zip vs) m x=_
  unfold bindL
  exact iS (i:=i) (List.nodup_cons.mp nd).2 (by simpa using h1) (by simpa using h2) hk
theorem i8 {kindOf:Str→Option NameKind} {x:Str} {v:Value}:∀ {P:List Str} {vs:List Value} {i:Nat} {m:Str→Option Value},P.Nodup→P[i]?=some x→vs[i]?=some v→kindOf x≠some .local →
  bindC kindOf (P.zip vs) m x=some v
 | [],_,_,_,_,h,_,_=>by simp at h
 | _::_,[],_,_,_,_,h,_=>by simp at h
 | p::P,w::vs,0,m,nd,h1,h2,hk=>by
  simp at h1 h2;subst h1;subst h2
  show bindC kindOf ((p,w)::P.zip vs) m p=_
  unfold bindC
  rw [iE fun v hv=>(List.nodup_cons.mp nd).1 (List.of_mem_zip hv).1,if_neg hk]
  simp
 | p::P,w::vs,i+1,m,nd,h1,h2,hk=>by
  show bindC kindOf ((p,w)::P.zip vs) m x=_
  unfold bindC
  exact i8 (i:=i) (List.nodup_cons.mp nd).2 (by simpa using h1) (by simpa using h2) hk
def start (N:List Str) (vs:List V):St:=vs.map some++List.replicate (N.length - vs.length) none
def ij (CX:qx) (P:Program) (w:World) (K:PySem.W.Frag) (mg:Str→Option Value) (base:Heap) (N:List Str) (qual:Str) (scope:Scope) (f:Addr) (cd:Value) (A:Around) (outer:List Env) (s:Shared) (H:Hp) (E:XK):Cx where
 prog:=P
 w:=w
 K:=K
 mg:=mg
 base:=base
 A:=A.deeper (envOfC qual scope s.heap.objs.size f cd)
 N:=N
 s₀:=s
 H₀:=H
 env:=envOfC qual scope s.heap.objs.size f cd
 outer:=outer
 stack:=envOfC qual scope s.heap.objs.size f cd::outer
 ex:=[]
 calm:=true
 fn:=fun _=>true
 pn:=[]
 xe:=fun e s'=>wpAny (model P w) (A.deeper (envOfC qual scope s.heap.objs.size f cd)) (leaving (envOfC qual scope s.heap.objs.size f cd) e) (fun _ oN=>CX outer H s E e oN) (fun e' oN=>CX outer H s E e' oN) s'
theorem lj {sc:Scope} {n:Nat} {x:Str} (h:sc.names.lookup x=some .cell):∃ c,(cellsFrom n sc.names []).lookup x=some c:=by
 have q:=PySem.W.cellsFrom_some sc.names n [] (.inl h)
 exact Option.isSome_iff_exists.mp q
theorem nW {CX:qx} {P:Program} {w:World} {K:PySem.W.Frag} {mg:Str→Option Value} {base:Heap} {N ps:List Str} {qual:Str} {scope:Scope} {f:Addr} {cd:Value} {A:Around} {outer:List Env} {s s1:Shared} {H:Hp} {E:XK} {us:List Value} {vs:List V}
  (S:aD N ps scope) (hd:A.handled=none) (e0:lM P w K mg base A outer s H) (hl:vs.length=ps.length) (r:Vals vs us)
  (x:InCallC s s.heap.objs.size (bindL (envOfC qual scope s.heap.objs.size f cd).kindOf (ps.zip us) fun _=>none) (cellsFrom (s.heap.objs.size+1) scope.names []) (bindC (envOfC qual scope s.heap.objs.size f cd).kindOf (ps.zip us) fun _=>none) s1) :
  Inv (ij CX P w K mg base N qual scope f cd A outer s H E) [] (start N vs) H s1:=by
 have fg:ps.length≤N.length:=by have:=congrArg List.length S.pre;rw [List.length_take] at this;omega
 obtain ⟨h1,tk,rfl,hk⟩:=x.done
 have noA:∀ b:Addr,b∉(ij CX P w K mg base N qual scope f cd A outer s H E).ex:=fun b z=>absurd (show b∈([]:List Addr) from z) (by simp)
 refine ⟨⟨e0.mod,S.kind,rfl,rfl,Nat.le_refl _,fun y z c h1 h2=>?_,fun y hy=>?_,fun y c _ h=>?_,fun _=>hd,Around.frames_deeper e0.frames,.inr ⟨rfl,rfl⟩,fun b z=>absurd z (noA b),e0.bs,e0.rH,fun b _ _=>noA b,fun b z=>absurd z (noA b),e0.fj,e0.xK⟩,
  rfl,e0.bare,Un.kept hk,⟨_,x.toInCall.ns,fun i y v h1 h2 h3=>?_⟩,fun y c h=>⟨_,x.cell y c h⟩,e0.aH.fresh (Nat.le_refl _),fun y c h=>?_,fun p hp=>absurd (show p∈([]:List (Addr×Obj)) from hp) (by simp),e0.aH.kept hk,?_⟩
 ·exact name_of_addr x.apart (PySem.mem_of_lookup h1) (PySem.mem_of_lookup h2)
 ·have hy:scope.names.lookup y=some .cell∨scope.names.lookup y=some .free:=hy
  rcases hy with hy | hy
  ·exact lj hy
  ·exact absurd rfl (S.wH _ (PySem.mem_of_lookup hy))
 ·exact Nat.le_of_lt (x.above y c (PySem.mem_of_lookup h))
 ·have hi:i < vs.length:=by
   unfold start at h2
   by_cases hi:i < vs.length
   ·exact hi
   ·rw [List.getElem?_append_right (by simpa using hi)] at h2
    rw [List.getElem?_replicate] at h2
    split at h2<;>cases h2
  have ha:vs[i]?=some v:=by
   unfold start at h2
   rw [List.getElem?_append_left (by simpa using hi),List.getElem?_map] at h2
   cases e:vs[i]? with
   | none=>rw [e] at h2;cases h2
   | some a=>rw [e] at h2;cases h2;rfl
  obtain ⟨u,hu,rv⟩:=r.get ha
  have hp:ps[i]?=some y:=by
   rw [← S.pre,List.getElem?_take_of_lt (by omega)];exact h1
  have ndP:ps.Nodup:=by rw [← S.pre];exact S.nd.sublist (List.take_sublist _ _)
  refine ⟨u,rv,?_⟩
  rcases S.par y (List.mem_of_getElem? hp) with k | k
  ·exact .inl ⟨k,iS ndP hp hu k⟩
  ·obtain ⟨c,e⟩:=lj (n:=s.heap.objs.size+1) k
   refine .inr ⟨.inl k,c,e,?_⟩
   have q:=x.cell y c e
   rw [i8 ndP hp hu (by show scope.names.lookup y≠_;rw [k];decide)] at q
   exact q
 ·exact e0.aH.fresh (Nat.le_of_lt (x.above y c (PySem.mem_of_lookup h)))
 ·unfold start
  show _=N.length
  rw [List.length_append,List.length_map,List.length_replicate]
  omega
theorem uT {CX:qx} {P:Program} {w:World} {K:PySem.W.Frag} {mg:Str→Option Value} {base:Heap} {k:Nat} {f:Addr} {name qual:Str} {params:Arguments} {body:List Stmt} {scope:Scope} {dV kV doc pm bW ct oc:Value} {an od:Option Addr}
  {jV:Array (Option Value)} {N ps:List Str} {sp:Sp} (lk:K.lookup f=some ⟨oc,od,.func (PySem.W.fnOf name qual params body scope dV kV doc pm an bW ct),jV⟩) (fZ:PySem.W.codeIn K bW qual=true) (S:aD N ps scope)
  (len:∀ vs H Q E,sp vs H Q E→vs.length=ps.length)
  (ko:∀ (A:Around) (outer:List Env) (s:Shared) (H:Hp) (vs:List V) (Q:VK) (E:XK),bH k (A.deeper (envOfC qual scope s.heap.objs.size f bW))→sp vs H Q E →
   ∃ t,ic (ij CX P w K mg base N qual scope f bW A outer s H E) body t∧t { nx:=fun _ H'=>Q .aS H',rt:=Q } (start N vs) H) :
  aw P w K mg base CX (k+1) f (PySem.W.fnOf name qual params body scope dV kV doc pm an bW ct) ps sp:=by
 refine ⟨len,fun A outer s H args us vs Q E hr e0 hb r lr=>?_⟩
 have hl:=len _ _ _ _ lr
 have KX:K.In s.heap:=e0.mod.rZ.keeps fun b o e=>(e0.bs b o e).1
 have lim:s.heap.NoLimit:=e0.mod.nolimit.keeps fun b o e=>(e0.bs b o e).1
 have hkind:∀ y∈ps.zip us,scope.names.lookup y.1=some .local∨(scope.names.lookup y.1=some .cell∧((cellsFrom (s.heap.objs.size+1) scope.names []).lookup y.1).isSome=true):=fun ⟨n,v⟩ hy=>by
  rcases S.par n (List.of_mem_zip hy).1 with q | q
  ·exact .inl q
  ·exact .inr ⟨q,PySem.W.cellsFrom_some _ _ _ (.inl q)⟩
 refine codeAny_call_function hr.depth (KX _ _ lk) rfl S.co S.gen rfl (PySem.W.codeRec_of KX fZ) (hb _ _ _ _ ?_)
 refine wpAny_newFunctionEnv_cells S.kind hkind fun env he s1 x=>?_
 subst he
 refine ⟨lim.keeps x.toInCall.keep,codeAny_func ?_⟩
 obtain ⟨t,ht,hq⟩:=ko A outer s H vs Q E (hr.deeper _) lr
 have I:Inv (ij CX P w K mg base N qual scope f bW A outer s H E) [] (start N vs) H s1:=nW S hr.hd e0 hl r x
 refine wpAny_mono (ht [] s1 (start N vs) H _ I hq) (fun fl s' hs=>?_) fun e s' hs=>hs
 have fin:∀ {σ':St} {H':Hp} {v:V} {u:Value},Inv (ij CX P w K mg base N qual scope f bW A outer s H E) [] σ' H' s'→RelV v u→Q v H'→CE outer P w H s Q u s' :=
  fun {σ' H' v u} J rv q=>⟨v,H',J.os,J.bare,J.base,J.aH,rv,q⟩
 cases fl with
 | ret u =>
  obtain ⟨v,σ',H',J,rv,q⟩:=hs
  exact fin J rv q
 | next =>
  obtain ⟨σ',H',J,q⟩:=hs
  exact fin (v:=V.aS) (u:=Value.none) J rfl q
 | brk =>
  obtain ⟨_,_,_,q⟩:=hs
  exact False.elim q
 | cont =>
  obtain ⟨_,_,_,q⟩:=hs
  exact False.elim q
end L2
namespace L2
open PySem PySem.Spec PyProof.Rows
section
variable {X:Cx} {x:Str} {p pos:Pos} {e:Expr} {es:List Expr} {t:TA} {id T:String} {r:List V→Hp→VK→Prop}
def uU (r:List V→Hp→VK→Prop) (t:TA):TE:=fun σ H Q=>t σ H fun vs H1=>r vs H1 Q
theorem eQ (hc:cu X (.builtin id) r) (hg:Gl X x) (hm:X.mg x=none) (hv:bootBuiltins x=some (.builtin id)) (ha:PA X (e::es) t) (hn:x≠"__name__":=by decide) (jG:(x == ("__debug__":Str))=false:=by decide)
  (he:starEach (e::es) X.env=(false,eval e X.env)::starEach es X.env:=by rfl) (fg:(backTo pos (starEach es X.env)).any (·.1)=false:=by rfl):PE X (.Call (.Name x p) (e::es) [] pos) (uU r t):=by
 intro pins s σ H Q I h
 refine wpAny_Call_Name_kw (eC I hg hm hv ?_ hn jG)
 exact PyProof.Rows.callWith_builtin1 (ba (ha pos pins s σ H _ I h) fun us s1 ⟨vs,H1,I1,r1,q1⟩=>hc pins s1 σ H1 vs us Q I1 r1 q1) he fg
theorem fi (hc:cu X (.type T) r) (hg:Gl X x) (hm:X.mg x=none) (hv:bootBuiltins x=some (.type T)) (ha:PA X (e::es) t) (hn:x≠"__name__":=by decide) (jG:(x == ("__debug__":Str))=false:=by decide)
  (he:starEach (e::es) X.env=(false,eval e X.env)::starEach es X.env:=by rfl) (fg:(backTo pos (starEach es X.env)).any (·.1)=false:=by rfl):PE X (.Call (.Name x p) (e::es) [] pos) (uU r t):=by
 intro pins s σ H Q I h
 refine wpAny_Call_Name_kw (eC I hg hm hv ?_ hn jG)
 exact PyProof.Rows.callWith_type1 (ba (ha pos pins s σ H _ I h) fun us s1 ⟨vs,H1,I1,r1,q1⟩=>hc pins s1 σ H1 vs us Q I1 r1 q1) he fg
end
end L2
namespace HT
open PySem PyProof.Rows
section
open PySem.SeqAt
open PySem.AutoSeq1 (wpAny_loadPart')
open PySem.MeetsSeq PySem.MeetsSeq2 PySem.MeetsSeq3
end
section
variable {prog:Program} {w:World} {A:Around} {E:Value→Shared→Prop} {s:Shared}
theorem so {t b:Addr} {vs ws:List Value} {Q:Value→Shared→Prop} (ht:IsTup s.heap t vs.toArray) (hb:IsTup s.heap b ws.toArray) (hv:vs≠[])
  (h1:ws=[]→Q (.ref t) s) (h2:ws≠[]→Q (.ref s.heap.objs.size) { s with heap:=s.heap.push { cls:=.type "tuple",data:=.seq (vs++ws).toArray } })
  (hsz:vs.length+ws.length≤sizeLine):wpAny (model prog w) A (binaryOp .Add (.ref t) (.ref b)) Q E s:=by
 obtain ⟨⟨cls,dd,data,sl⟩,ho,hc,n,hd⟩:=id ht
 obtain ⟨⟨cls2,yj,data2,yi⟩,ho2,hc2,n2,hd2⟩:=id hb
 simp only at hc hd hc2 hd2
 subst hc hd hc2 hd2
 have e:vs.toArray++ws.toArray=(vs++ws).toArray:=by simp
 by_cases hw:ws=[]
 ·exact concat_meets ⟨_,ho,rfl⟩ ⟨_,ho2,rfl⟩ noFill_tuple_add seq_tuple_add PySem.F.slot_tuple_add PySem.F.entry_tuple_add (PySem.F.args_tuple_add_2 _ _)
   (tuple_addW1 t b vs.toArray ws.toArray n n2 dd yj sl yi (by simpa using hv) (by simp [hw])) ⟨ho,ho2,h1 hw⟩
 ·refine concat_meets ⟨_,ho,rfl⟩ ⟨_,ho2,rfl⟩ noFill_tuple_add seq_tuple_add PySem.F.slot_tuple_add PySem.F.entry_tuple_add (PySem.F.args_tuple_add_2 _ _)
   (tuple_addW2 t b vs.toArray ws.toArray n n2 dd yj sl yi (by simpa using hv) (by simpa using hw) (by rw [List.size_toArray,List.size_toArray];exact hsz)) ⟨ho,ho2,?_⟩
  rw [e]
  exact h2 hw
def bw (n d:Nat):Option Int→Nat
 | none=>d
 | some v=>if v < 0 then (v+(n:Int)).toNat else min v.toNat n
theorem xY (n d:Nat) (hd:d≤n) (o:Option Int):bw n d o≤n:=by
 cases o with
 | none=>exact hd
 | some v =>
  show (if v < 0 then (v+(n:Int)).toNat else min v.toNat n)≤n
  by_cases hv:v < 0
  ·rw [if_pos hv];omega
  ·rw [if_neg hv];exact Nat.min_le_right _ _
theorem mX (v:Int) (n d:Nat):(if v < 0 then max (v+(n:Int)) 0 else min v (n:Int))=((bw n d (some v):Nat):Int):=by
 show (if v < 0 then max (v+(n:Int)) 0 else min v (n:Int))=(((if v < 0 then (v+(n:Int)).toNat else min v.toNat n):Nat):Int)
 by_cases hv:v < 0
 ·simp only [if_pos hv];omega
 ·simp only [if_neg hv];omega
theorem mv (lo hi:Option Int) (n:Nat):Builtin.Slice.sliceAdjust lo hi 1 (n:Int)=(((bw n 0 lo:Nat):Int),((bw n n hi:Nat):Int)):=by
 have h1:¬ ((1:Int) < 0):=by omega
 unfold Builtin.Slice.sliceAdjust
 simp only [h1,if_false]
 refine Prod.ext ?_ ?_
 ·cases lo with
  | none=>rfl
  | some v=>exact mX v n 0
 ·cases hi with
  | none=>rfl
  | some v=>exact mX v n n
theorem lR (i j:Nat):Builtin.Slice.slicePlaces (i:Int) (j:Int) 1=j - i:=by
 unfold Builtin.Slice.slicePlaces
 have h1:(1:Int) > 0:=by omega
 simp only [h1,if_true,Int.ediv_one]
 split<;>omega
theorem hJ {v:Value} {o:Option Int} {Q:Option Int→Shared→Prop} (p:IsPart v o) (h:Q o s):wpAny (model prog w) A (Builtin.Slice.slicePartIndex v) Q E s:=by
 cases p with
 | none=>exact slicePart_none h
 | int i t=>exact slicePart_int h
theorem c4 {sl:Addr} {vl vu:Value} {lo hi:Option Int} {n:Nat} {Q:Int×Int×Nat→Shared→Prop} (hs:s.heap.IsSliceOf sl vl vu .none) (pl:IsPart vl lo) (pu:IsPart vu hi)
  (h:Q (((bw n 0 lo:Nat):Int),1,bw n n hi - bw n 0 lo) s):wpAny (model prog w) A (Builtin.Slice.sliceApplied (.ref sl) (pure (n:Int))) Q E s:=by
 obtain ⟨os,hos,hcs,hds⟩:=id hs
 unfold Builtin.Slice.sliceApplied Builtin.Slice.sliceFields
 refine wpAny_bind (wpAny_bind (wpAny_field hos hds (x:=vl) rfl (wpAny_bind (wpAny_field hos hds (x:=vu) rfl (wpAny_bind (wpAny_field hos hds (x:=.none) rfl (wpAny_pure ?_)))))))
 refine wpAny_bind (slicePart_none ?_)
 show wpAny _ _ (if ((1:Int) == 0)=true then _ else _) _ _ s
 rw [if_neg (by decide)]
 refine wpAny_bind (hJ pl (wpAny_bind (hJ pu (wpAny_bind (wpAny_pure ?_)))))
 show wpAny _ _ (match Builtin.Slice.sliceAdjust lo hi 1 (n:Int) with | (lo,hi)=>pure (lo,(1:Int),Builtin.Slice.slicePlaces lo hi 1)) _ _ s
 rw [mv lo hi n]
 show wpAny _ _ (pure (((bw n 0 lo:Nat):Int),(1:Int),Builtin.Slice.slicePlaces ((bw n 0 lo:Nat):Int) ((bw n n hi:Nat):Int) 1)) _ _ s
 rw [lR]
 exact wpAny_pure h
theorem pb (xs:Array Value) (i k:Nat):((List.range k).filterMap fun (m:Nat)=>xs[((i:Int)+(m:Int) * 1).toNat]?).toArray=((xs.toList.drop i).take k).toArray:=by
 have e:(fun (m:Nat)=>xs[((i:Int)+(m:Int) * 1).toNat]?)=fun m=>xs[i+m]?:=by
  funext m
  have:((i:Int)+(m:Int) * 1).toNat=i+m:=by omega
  rw [this]
 rw [e]
 have:=pick_run xs i k
 rw [List.filterMap_map] at this
 have e2:((fun x=>xs[x]?)∘fun x=>i+x)=fun m=>xs[i+m]?:=rfl
 rw [e2] at this
 rw [this]
theorem fc {t sl:Addr} {items:Array Value} {vl vu:Value} {lo hi:Option Int} {Q:Value→Shared→Prop} (ht:IsTup s.heap t items) (hs:s.heap.IsSliceOf sl vl vu .none) (pl:IsPart vl lo) (pu:IsPart vu hi)
  (hw:¬ (bw items.size 0 lo=0∧bw items.size items.size hi=items.size))
  (h:Q (.ref s.heap.objs.size) { s with heap:=s.heap.push { cls:=.type "tuple",data:=.seq ((items.toList.drop (bw items.size 0 lo)).take (bw items.size items.size hi - bw items.size 0 lo)).toArray } })
  (hsz:items.size≤sizeLine):wpAny (model prog w) A (getItem (.ref t) (.ref sl)) Q E s:=by
 have htake:sizeOk (.seq ((items.toList.drop (bw items.size 0 lo)).take (bw items.size items.size hi - bw items.size 0 lo)).toArray):=by
  show ((items.toList.drop (bw items.size 0 lo)).take (bw items.size items.size hi - bw items.size 0 lo)).toArray.size≤sizeLine
  rw [List.size_toArray,List.length_take,List.length_drop,Array.length_toList]
  omega
 have hj:bw items.size items.size hi≤items.size:=xY _ _ (Nat.le_refl _) hi
 obtain ⟨os,hos,hcs,hds⟩:=id hs
 have hTs:s.TypeIs (.ref sl) "slice":=⟨os,hos,hcs⟩
 unfold getItem
 try with_reducible refine wpAny_holding ?_
 first | refine wpAny_bind (wpAny_pure ?_) | skip
 refine wpAny_bind (wpAny_sequenceKey ht.typeIs (by decide) ?_)
 refine wpAny_bind (wpAny_callSpecial?_slot (name:=Str.ofString "__getitem__") ht.typeIs PyProof.Rows.slot_tuple_getitem
  (wpAny_call_entry PyProof.Rows.slot_tuple_getitem ht.typeIs entry_tuple_getitem ?_ (args_tuple_getitem _ _)))
 show wpAny _ _ (Builtin.Tuple.tupleItemsOf (.ref t) >>= _) _ _ s
 refine wpAny_bind (tupleItemsOf_ ht ?_)
 refine wpAny_bind (wpAny_typeOf hTs ?_)
 rw [if_pos (by decide)]
 refine wpAny_bind (c4 hs pl pu ?_)
 have hno:¬ ((((bw items.size 0 lo:Nat):Int) == 0&&(1:Int) == 1&&(bw items.size items.size hi - bw items.size 0 lo) == items.size)=true):=by
  intro q
  rw [Bool.and_eq_true,Bool.and_eq_true] at q
  have q1:((bw items.size 0 lo:Nat):Int)=0:=eq_of_beq q.1.1
  have q2:bw items.size items.size hi - bw items.size 0 lo=items.size:=eq_of_beq q.2
  exact hw ⟨by omega,by omega⟩
 show wpAny _ _ (if (((bw items.size 0 lo:Nat):Int) == 0&&(1:Int) == 1&&(bw items.size items.size hi - bw items.size 0 lo) == items.size)=true then _ else _) _ _ s
 rw [if_neg hno,pb]
 first
  | exact wpAny_bind (m:=Builtin.Tuple.tupleExact _) (wpAny_newObj_type (wpAny_pure ⟨_,rfl,wpAny_pure h⟩) htake)
  | exact wpAny_bind (m:=Builtin.Tuple.tupleExact _) (wpAny_newObj_type (wpAny_bind (wpAny_pure (wpAny_pure ⟨_,rfl,wpAny_pure h⟩))) htake)
  | exact wpAny_bind (wpAny_bind (m:=Builtin.Tuple.tupleExact _) (wpAny_newObj_type (wpAny_pure (wpAny_pure ⟨_,rfl,wpAny_pure h⟩)) htake))
  | exact wpAny_bind (wpAny_bind (m:=Builtin.Tuple.tupleExact _) (wpAny_newObj_type (wpAny_pure ⟨_,rfl,wpAny_pure h⟩) htake))
end
end HT
namespace L2
open PySem PySem.Spec PyProof.Rows
abbrev TO:=St→Hp→(Option Int→Hp→Prop)→Prop
def PO (X:Cx) (e:Option Expr) (t:TO):Prop :=
 ∀ (pins:List (Addr×Obj)) (s:Shared) (σ:St) (H:Hp) (Q:Option Int→Hp→Prop),Inv X pins σ H s→t σ H Q →
  wpAny (model X.prog X.w) X.A (evalPart e X.env) (fun u s'=>∃ o H',Inv X pins σ H' s'∧IsPart u o∧Q o H') X.xe s
def t9:TO:=fun _ H Q=>Q none H
def pQ (t:TE):TO:=fun σ H Q=>t σ H fun x H1=>∃ i,x=.int i∧Q (some i) H1
section
variable {X:Cx} {e:Expr} {te:TE} {lo hi:Option Expr} {tl th:TO} {pos p2:Pos}
theorem tZ:PO X none t9:=by
 intro pins s σ H Q I h
 rw [evalPart_none]
 exact wpAny_pure ⟨none,H,I,.none,h⟩
theorem jo (h:PE X e te):PO X (some e) (pQ te):=by
 intro pins s σ H Q I hw
 rw [evalPart_some]
 refine ba (h pins s σ H _ I hw) fun u s1 ⟨x,H1,I1,r1,q1⟩=>?_
 obtain ⟨i,rfl,q⟩:=q1
 obtain ⟨t,rfl⟩:=r1
 exact ⟨some i,H1,I1,.int i t,q⟩
def Am (X:Cx) (r:V→Option Int→Option Int→Hp→VK→Prop):Prop :=
 ∀ (pins:List (Addr×Obj)) (s:Shared) (σ:St) (H:Hp) (x:V) (v vl vu:Value) (lo hi:Option Int) (sl:Addr) (Q:VK),Inv X pins σ H s→RelV x v→s.heap.IsSliceOf sl vl vu .none→IsPart vl lo→IsPart vu hi→r x lo hi H Q →
  ∃ T id,typeLookup (.type T) "__getitem__"=pure (some (.builtin id))∧s.TypeIs v T∧wpAny (model X.prog X.w) X.A (getItem v (.ref sl)) (EP X pins σ Q) X.xe s
def Gv (r:V→Option Int→Option Int→Hp→VK→Prop) (te:TE) (tl th:TO):TE:=fun σ H Q=>te σ H fun x H1=>tl σ H1 fun l H2=>th σ H2 fun u H3=>r x l u H3 Q
theorem gB {r:V→Option Int→Option Int→Hp→VK→Prop} (hr:Am X r) (he:PE X e te) (hl:PO X lo tl) (hu:PO X hi th):PE X (.Subscript e (.Slice lo hi none p2) pos) (Gv r te tl th):=by
 intro pins s σ H Q I h
 refine Subscript_ (ba (he pins s σ H _ I h) fun v s1 ⟨x,H1,I1,r1,q1⟩=>?_)
 refine wpAny_Slice (ba (hl pins s1 σ H1 _ I1 q1) fun vl s2 ⟨l,H2,I2,pl,q2⟩=>ba (hu pins s2 σ H2 _ I2 q2) fun vu s3 ⟨u,H3,I3,pu,q3⟩=>?_)
 rw [evalPart_none]
 refine wpAny_pure ?_
 have I4:Inv X pins σ H3 { s3 with heap:=s3.heap.push { cls:=.type "slice",data:=.fields #[vl,vu,.none] } }:=I3.kept (t':=s3.toks) fun b ob q=>Heap.get?_push_of_some _ q
 obtain ⟨T,id,hT,ht,hg⟩:=hr pins { s3 with heap:=s3.heap.push { cls:=.type "slice",data:=.fields #[vl,vu,.none] } } σ H3 x v vl vu l u s3.heap.objs.size Q I4 r1 (Heap.IsSliceOf.new ..) pl pu q3
 show wpAny (model X.prog X.w) X.A (subscriptTail e (.Slice lo hi none p2) v (.ref s3.heap.objs.size)) (EP X pins σ Q) X.xe { s3 with heap:=s3.heap.push { cls:=.type "slice",data:=.fields #[vl,vu,.none] } }
 exact tail_any (ops:=[.ref s3.heap.objs.size,v]) ht hT hg (by with_unfolding_all rfl)
def gP (xs:List V) (lo hi:Option Int):List V:=(xs.drop (HT.bw xs.length 0 lo)).take (HT.bw xs.length xs.length hi - HT.bw xs.length 0 lo)
theorem fE (xs:List V) (lo hi:Option Int):(gP xs lo hi).length≤xs.length:=by
 unfold gP
 rw [List.length_take,List.length_drop]
 omega
def FR (K:PySem.W.Frag):V→Option Int→Option Int→Hp→VK→Prop:=fun x lo hi H Q=>∃ a xs,x=.ref a∧dw K H a xs ∧
 ¬ (HT.bw xs.length 0 lo=0∧HT.bw xs.length xs.length hi=xs.length)∧∀ p,H p=none→Q (.ref p) (upd H p (.tup (gP xs lo hi)))
theorem xy:Am X (FR X.K):=by
 intro pins s σ H x v vl vu lo hi sl Q I rx hs pl pu h
 obtain ⟨a,xs,rfl,hx,hw,q⟩:=h
 cases rx
 obtain ⟨its,r,ht,hz⟩:=I.tuple hx
 have hlen:its.toArray.size=xs.length:=by rw [List.size_toArray];exact r.length.symm
 refine ⟨"tuple",_,PyProof.Rows.slot_tuple_getitem.lookup,ht.typeIs,?_⟩
 refine HT.fc ht hs pl pu (by rw [hlen];exact hw) ?_ (by rw [hlen];exact hz)
 rw [hlen]
 refine ⟨.ref s.heap.objs.size,_,I.laid (t':=s.toks) (o:=.tup (gP xs lo hi)) (fun b ob q=>Heap.get?_push_of_some _ q) (Nat.le_refl _) ?_,rfl,q _ (I.aH.fresh (Nat.le_refl _))⟩
 exact ⟨Nat.le_trans (fE xs lo hi) hz,_,(r.drop (HT.bw xs.length 0 lo)).take (HT.bw xs.length xs.length hi - HT.bw xs.length 0 lo),IsTup.new _ _⟩
def ze (K:PySem.W.Frag):R2:=fun x y H Q=>∃ a b xs ys,x=.ref a∧y=.ref b∧dw K H a xs∧dw K H b ys∧xs≠[]∧xs.length+ys.length≤sizeLine ∧
 (ys=[]→Q (.ref a) H)∧(ys≠[]→∀ p,H p=none→Q (.ref p) (upd H p (.tup (xs++ys))))
theorem Vals.fX {xs:List V} {us:List Value} (r:Vals xs us):us=[]↔xs=[]:=by
 cases r with
 | nil=>simp
 | cons _ _=>simp
theorem uu:fe X (binaryOp .Add) (ze X.K):=by
 intro pins s σ H x y v u Q I rx ry h
 obtain ⟨a,b,xs,ys,rfl,rfl,ha,hb,hx,hz,q1,q2⟩:=h
 cases rx
 cases ry
 obtain ⟨its,r1,p1,_⟩:=I.tuple ha
 obtain ⟨its2,r2,p2,_⟩:=I.tuple hb
 refine HT.so p1 p2 (fun z=>hx (r1.fX.mp z)) (fun z=>⟨.ref a,H,I,rfl,q1 (r2.fX.mp z)⟩) (fun z=>?_) (by rw [← r1.length,← r2.length];exact hz)
 refine ⟨.ref s.heap.objs.size,_,I.laid (t':=s.toks) (o:=.tup (xs++ys)) (fun b ob q=>Heap.get?_push_of_some _ q) (Nat.le_refl _) ?_,rfl,q2 (fun w=>z (r2.fX.mpr w)) _ (I.aH.fresh (Nat.le_refl _))⟩
 exact ⟨by rw [List.length_append];exact hz,_,r1.append r2,IsTup.new _ _⟩
end
end L2
namespace L2
open PySem PySem.Spec PyProof.Rows
def p5 (n:Nat) (i:Int):Option Nat:=if 0≤i then (if i < n then some i.toNat else none) else if -(n:Int)≤i then some (i+n).toNat else none
def jU {α:Type} (xs:List α) (i:Int):Option α:=(p5 xs.length i).bind fun j=>xs[j]?
theorem ny {n:Nat} {i:Int} {j:Nat} (h:p5 n i=some j):seqIndex? i n=some j∧j < n∧-(n:Int)≤i∧i < n:=by
 unfold p5 at h
 by_cases h0:0≤i
 ·rw [if_pos h0] at h
  by_cases h1:i < n
  ·rw [if_pos h1] at h
   have e:i.toNat=j:=Option.some.inj h
   exact ⟨by rw [seqIndex_of h0 h1,e],by omega,by omega,h1⟩
  ·rw [if_neg h1] at h;cases h
 ·rw [if_neg h0] at h
  by_cases h1:-(n:Int)≤i
  ·rw [if_pos h1] at h
   have e:(i+n).toNat=j:=Option.some.inj h
   exact ⟨by rw [seqIndex_neg (by omega) h1,e],by omega,h1,by omega⟩
  ·rw [if_neg h1] at h;cases h
theorem jJ {α:Type} {xs:List α} {i:Int} {v:α} (h:jU xs i=some v):∃ j,seqIndex? i xs.length=some j∧xs[j]?=some v∧j < xs.length∧-(xs.length:Int)≤i∧i < xs.length:=by
 unfold jU at h
 cases e:p5 xs.length i with
 | none=>rw [e] at h;cases h
 | some j =>
  rw [e] at h
  obtain ⟨h1,h2,h3,h4⟩:=ny e
  exact ⟨j,h1,h,h2,h3,h4⟩
theorem jQ {α:Type} {xs:List α} {j:Nat} {v:α} (h:xs[j]?=some v):jU xs (j:Int)=some v:=by
 have hj:j < xs.length:=(List.getElem?_eq_some_iff.mp h).1
 have e:p5 xs.length (j:Int)=some j:=by
  unfold p5
  rw [if_pos (by omega),if_pos (by omega)];simp
 unfold jU;rw [e];exact h
def nH (b:Expr):Prop:=∀ o i,subscripted b false o i=operate [o,i] (getItem o i)
def yB (X:Cx) (r:R2):Prop :=
 ∀ (value slice:Expr) (pins:List (Addr×Obj)) (s:Shared) (σ:St) (H:Hp) (x y:V) (v u:Value) (Q:VK),Inv X pins σ H s→RelV x v→RelV y u→r x y H Q →
  subscripted slice false v u=operate [v,u] (getItem v u)→wpAny (model X.prog X.w) X.A (subscriptTail value slice v u) (EP X pins σ Q) X.xe s
def A5 (X:Cx) (id:String) (r:V→List V→Hp→VK→Prop):Prop :=
 ∀ (pins:List (Addr×Obj)) (s:Shared) (σ:St) (H:Hp) (x:V) (xs:List V) (v:Value) (us:List Value) (Q:VK),Inv X pins σ H s→RelV x v→Vals xs us→r x xs H Q →
  wpAny (model X.prog X.w) X.A (call (.builtin id) (v::us)) (EP X pins σ Q) X.xe s
section
variable {X:Cx} {a b:Expr} {ta tb:TE} {pos:Pos}
theorem zO {r:R2} (hr:yB X r) (ha:PE X a ta) (hb:PE X b tb) (hs:nH b):PE X (.Subscript a b pos) (ef r ta tb):=by
 intro pins s σ H Q I h
 exact Subscript_ (vO ha hb I h fun v u s2 x y H2 I2 rx ry q=>hr a b pins s2 σ H2 x y v u Q I2 rx ry q (hs _ _))
def z8 (K:PySem.W.Frag):R2:=fun x y H Q=>∃ p xs i v,x=.ref p∧y=.int i∧bS K H p xs∧jU xs i=some v∧Q v H
def zR (K:PySem.W.Frag):R2:=fun x y H Q=>∃ p xs i v,x=.ref p∧y=.int i∧dw K H p xs∧jU xs i=some v∧Q v H
def zr:R2:=fun x y H Q=>∃ z i c,x=.str z∧y=.int i∧z.length≤sizeLine∧jU z.cps.toList i=some c∧Q (.str ⟨#[c]⟩) H
theorem dR:yB X (z8 X.K):=by
 intro value slice pins s σ H x y v u Q I rx ry h hs
 obtain ⟨p,xs,i,z,rfl,rfl,hq,he,q⟩:=h
 cases rx
 obtain ⟨t,rfl⟩:=ry
 obtain ⟨its,r,pl,hz⟩:=I.list hq
 obtain ⟨j,h1,h2,h3,h4,h5⟩:=jJ he
 obtain ⟨w,ew,rw'⟩:=r.get h2
 have hl:=r.length
 have hn:=eA
 have fin:EP X pins σ Q w s:=⟨z,H,I,rw',q⟩
 by_cases h0:0≤i
 ·have hj:i.toNat=j:=by
   rw [seqIndex_of h0 h5] at h1
   exact Option.some.inj h1
  exact item_listR pl.isList h0 (by omega) (by rw [hj];simpa using ew) fin hs
 ·have hj:(i+(its.toArray.size:Int)).toNat=j:=by
   rw [seqIndex_neg (by omega) h4] at h1
   rw [List.size_toArray,← hl]
   exact Option.some.inj h1
  exact subscriptTail_builtinR (x:=w) pl.isList.typeIs slot_list_getitem.lookup
   (wpAny_getItem_list_neg (Q:=fun r s'=>r=w∧EP X pins σ Q r s') pl.isList (by omega) (by rw [List.size_toArray]<;>omega) (by omega) (by rw [hj];simpa using ew) ⟨rfl,fin⟩) hs
theorem bU:yB X (zR X.K):=by
 intro value slice pins s σ H x y v u Q I rx ry h hs
 obtain ⟨p,xs,i,z,rfl,rfl,hq,he,q⟩:=h
 cases rx
 obtain ⟨t,rfl⟩:=ry
 obtain ⟨its,r,pl,hz⟩:=I.tuple hq
 obtain ⟨j,h1,h2,h3,h4,h5⟩:=jJ he
 obtain ⟨w,ew,rw'⟩:=r.get h2
 have hl:=r.length
 have hn:=eA
 have fin:EP X pins σ Q w s:=⟨z,H,I,rw',q⟩
 exact subscriptTail_builtinR (x:=w) pl.typeIs slot_tuple_getitem.lookup
  (getItem_tuple (j:=j) (Q:=fun r s'=>r=w∧EP X pins σ Q r s') pl (by omega) (by omega) (by rw [List.size_toArray,← hl];exact h1) (by simpa using ew) ⟨rfl,fin⟩) hs
theorem lZ:yB X zr:=by
 intro value slice pins s σ H x y v u Q I rx ry h hs
 obtain ⟨z,i,c,rfl,rfl,hz,he,q⟩:=h
 obtain ⟨t,rfl⟩:=rx
 obtain ⟨t',rfl⟩:=ry
 obtain ⟨j,h1,h2,h3,h4,h5⟩:=jJ he
 have hl:z.cps.toList.length=z.length:=by simp [Str.length]
 rw [hl] at h1 h4 h5
 have hn:=eA
 exact tail_any (typeIs_str s z t) slot_str_getitem.lookup (getItem_str (c:=c) (by
  have e1:decide (i < -(2 ^ 63:Int))=false:=decide_eq_false (by omega)
  have e2:decide (i ≥ 2 ^ 63)=false:=decide_eq_false (by omega)
  rw [e1,e2,Bool.or_false]) (by rw [h1];simpa using h2) ⟨.str ⟨#[c]⟩,H,I.tok _,⟨_,rfl⟩,q⟩) hs
theorem mf (its:List Value) (n j:Nat) (u:Value):Obj.mapSeq (·.setIfInBounds j u) { cls:=.type "list",data:=.seq its.toArray n }={ cls:=.type "list",data:=.seq (its.set j u).toArray n }:=by
 simp [Obj.mapSeq]
theorem Inv.lst {pins:List (Addr×Obj)} {σ:St} {H:Hp} {s:Shared} {p:Addr} {xs:List V} (I:Inv X pins σ H s) (h:H p=some (.lst xs)) :
  ∃ (its:List Value) (n:Nat),Vals xs its∧s.heap.get? p=some { cls:=.type "list",data:=.seq its.toArray n }∧xs.length≤sizeLine:=by
 obtain ⟨z,its,n,r,e⟩:=I.aH p _ h
 exact ⟨its,n,r,e,z⟩
theorem Inv.vJ {pins:List (Addr×Obj)} {σ:St} {H:Hp} {s:Shared} {p:Addr} {xs ys:List V} {its its':List Value} {n n':Nat} {f:Obj→Obj} (I:Inv X pins σ H s) (h:H p=some (.lst xs))
  (ho:s.heap.get? p=some { cls:=.type "list",data:=.seq its.toArray n }) (hf:f { cls:=.type "list",data:=.seq its.toArray n }={ cls:=.type "list",data:=.seq its'.toArray n' }) (r:Vals ys its') (hz:ys.length≤sizeLine) (t:Nat) :
  Inv X pins σ (upd H p (.lst ys)) { s with heap:=s.heap.update p f,toks:=t }:=by
 have e:(s.heap.update p f).get? p=some { cls:=.type "list",data:=.seq its'.toArray n' }:=by
  rw [Heap.get?_update_self f ho (by rw [hf]<;>rfl),hf]
 refine I.write (x:=p) (e:=p) (by rw [h];trivial) (.inl rfl) (fun b u hb q=>(Heap.get?_update_other _ _ (Ne.symm hb)).trans q) ⟨_,e⟩ ?_
 exact ⟨hz,its',n',r,e⟩
def vm:V→V→V→Hp→(Hp→Prop)→Prop:=fun o i v H Q=>∃ p xs k j,o=.ref p∧i=.int k∧H p=some (.lst xs)∧p5 xs.length k=some j∧Q (upd H p (.lst (xs.set j v)))
theorem set_list:zw X vm:=by
 intro pins s σ H o i v ov iv u Q I ro ri rv h
 obtain ⟨p,xs,k,j,rfl,rfl,hp,hj,q⟩:=h
 cases ro
 obtain ⟨t,rfl⟩:=ri
 obtain ⟨its,n,r,ho,hz⟩:=I.lst hp
 obtain ⟨h1,h2,h3,h4⟩:=ny hj
 have hl:=r.length
 have hn:=eA
 have I':Inv X pins σ (upd H p (.lst (xs.set j v))) { s with heap:=s.heap.update p (Obj.mapSeq (·.setIfInBounds j u)) } :=
  I.vJ hp ho (mf its n j u) (r.set rv j) (by rw [List.length_set];exact hz) s.toks
 by_cases h0:0≤k
 ·have hk:k.toNat=j:=by
   rw [seqIndex_of h0 h4] at h1
   exact Option.some.inj h1
  exact PySem.W.ki_setAt ho h0 (by omega) (by rw [List.size_toArray,← hl];exact h4) (by rw [hk];exact ⟨_,I',q⟩)
 ·have hk:(k+(its.toArray.size:Int)).toNat=j:=by
   rw [seqIndex_neg (by omega) h3] at h1
   rw [List.size_toArray,← hl]
   exact Option.some.inj h1
  exact PySem.W.ki_setBack ho (by omega) (by rw [List.size_toArray,← hl];exact h3) (by omega) (by rw [hk];exact ⟨_,I',q⟩)
theorem jO (lo hi:Option Int) (n:Nat):(sliceBounds lo hi none n).1=((HT.bw n 0 lo:Nat):Int)∧(sliceBounds lo hi none n).2.1=((HT.bw n n hi:Nat):Int)∧(sliceBounds lo hi none n).2.2=1:=by
 refine ⟨?_,?_,rfl⟩
 ·cases lo with
  | none=>simp [sliceBounds,HT.bw]
  | some i =>
   simp only [sliceBounds,HT.bw,Option.getD_none,show (1:Int) > 0 by decide,if_true]
   by_cases h:i < 0
   ·simp only [h,if_true]<;>omega
   ·simp only [h,if_false]<;>omega
 ·cases hi with
  | none=>simp [sliceBounds,HT.bw]
  | some i =>
   simp only [sliceBounds,HT.bw,Option.getD_none,show (1:Int) > 0 by decide,if_true]
   by_cases h:i < 0
   ·simp only [h,if_true]<;>omega
   ·simp only [h,if_false]<;>omega
theorem ik (its:List Value) (lo hi:Option Int):slicePick its.toArray lo hi none=((its.drop (HT.bw its.length 0 lo)).take (HT.bw its.length its.length hi - HT.bw its.length 0 lo)).toArray:=by
 obtain ⟨h1,h2,h3⟩:=jO lo hi its.toArray.size
 unfold slicePick
 rw [h1,h2,h3]
 simp only [sliceRange_one,pick_run,List.size_toArray]<;>rfl
def Aa (K:PySem.W.Frag):V→Option Int→Option Int→Hp→VK→Prop:=fun x lo hi H Q=>∃ a xs,x=.ref a∧bS K H a xs∧∀ p,H p=none→Q (.ref p) (upd H p (.lst (gP xs lo hi)))
theorem sf:Am X (Aa X.K):=by
 intro pins s σ H x v vl vu lo hi sl Q I rx hs pl pu h
 obtain ⟨a,xs,rfl,hx,q⟩:=h
 cases rx
 obtain ⟨its,r,ht,hz⟩:=I.list hx
 have hlen:=r.length
 refine ⟨"list",_,slot_list_getitem.lookup,ht.isList.typeIs,?_⟩
 refine wpAny_getItem_list_slice ht.isList hs pl pu .none (by simp) ?_ (by rw [List.size_toArray]<;>omega)
 rw [ik,← hlen]
 refine ⟨.ref s.heap.objs.size,_,I.laid (t':=s.toks) (o:=.lst (gP xs lo hi)) (fun b ob q=>Heap.get?_push_of_some _ q) (Nat.le_refl _) ?_,rfl,q _ (I.aH.fresh (Nat.le_refl _))⟩
 exact ⟨Nat.le_trans (fE xs lo hi) hz,_,0,(r.drop (HT.bw xs.length 0 lo)).take (HT.bw xs.length xs.length hi - HT.bw xs.length 0 lo),Heap.get?_push_size _ rfl⟩
def et:V→Bool
 | .aS=>true
 | .bl _=>true
 | .int _=>true
 | .str _=>true
 | _=>false
def uf:V→V→Bool
 | .aS,.aS=>true
 | .bl a,.bl b=>a == b
 | .bl a,.int b=>(if a then 1 else 0) == b
 | .int a,.bl b=>a == (if b then 1 else 0)
 | .int a,.int b=>a == b
 | .str a,.str b=>a == b
 | _,_=>false
theorem ya {A:Around} {s:Shared} {y x:V} {u v:Value} (ry:RelV y u) (rx:RelV x v) (fy:et y=true) (fx:et x=true):SeqAt.EqAt A s u v (uf y x):=by
 cases y with
 | aS =>
  cases ry
  cases x with
  | aS=>cases rx;exact SeqAt.EqAt.same _
  | bl b=>cases rx;exact SeqAt.EqAt.none_bool b
  | int b=>obtain ⟨t,rfl⟩:=rx;exact SeqAt.EqAt.none_int b t
  | str b=>obtain ⟨t,rfl⟩:=rx;exact SeqAt.EqAt.none_str b t
  | _=>exact absurd (show false=true from fx) Bool.false_ne_true
 | bl a =>
  cases ry
  cases x with
  | aS=>cases rx;exact SeqAt.EqAt.bool_none a
  | bl b=>cases rx;exact SeqAt.EqAt.bool_bool a b
  | int b=>obtain ⟨t,rfl⟩:=rx;exact SeqAt.EqAt.bool_int a b t
  | str b=>obtain ⟨t,rfl⟩:=rx;exact SeqAt.EqAt.bool_str a b t
  | _=>exact absurd (show false=true from fx) Bool.false_ne_true
 | int a =>
  obtain ⟨t',rfl⟩:=ry
  cases x with
  | aS=>cases rx;exact SeqAt.EqAt.int_none a t'
  | bl b=>cases rx;exact SeqAt.EqAt.int_bool a t' b
  | int b=>obtain ⟨t,rfl⟩:=rx;exact SeqAt.EqAt.int_int a t' b t
  | str b=>obtain ⟨t,rfl⟩:=rx;exact SeqAt.EqAt.int_str a t' b t
  | _=>exact absurd (show false=true from fx) Bool.false_ne_true
 | str a =>
  obtain ⟨t',rfl⟩:=ry
  cases x with
  | aS=>cases rx;exact SeqAt.EqAt.str_none a t'
  | bl b=>cases rx;exact SeqAt.EqAt.str_bool a t' b
  | int b=>obtain ⟨t,rfl⟩:=rx;exact SeqAt.EqAt.str_int a t' b t
  | str b=>obtain ⟨t,rfl⟩:=rx;exact SeqAt.EqAt.str_str a t' b t
  | _=>exact absurd (show false=true from fx) Bool.false_ne_true
 | _=>exact absurd (show false=true from fy) Bool.false_ne_true
def mi (x:V) (u:Value):Bool:=match u with
 | .none=>uf .aS x
 | .bool b=>uf (.bl b) x
 | .int i _=>uf (.int i) x
 | .str z _=>uf (.str z) x
 | _=>false
theorem qy {x y:V} {u:Value} (r:RelV y u) (f:et y=true):mi x u=uf y x:=by
 cases y with
 | aS=>cases r;rfl
 | bl b=>cases r;rfl
 | int i=>obtain ⟨t,rfl⟩:=r;rfl
 | str z=>obtain ⟨t,rfl⟩:=r;rfl
 | _=>exact absurd (show false=true from f) Bool.false_ne_true
theorem e9 {x:V}:∀ {xs:List V} {us:List Value},Vals xs us→xs.all et=true→us.any (mi x)=xs.any fun y=>uf y x
 | _,_,.nil,_=>rfl
 | y::xs,u::us,.cons r t,f=>by
  rw [List.all_cons,Bool.and_eq_true] at f
  rw [List.any_cons,List.any_cons,qy r f.1,e9 t f.2]
theorem dQ {A:Around} {s:Shared} {x:V} {v:Value} (rx:RelV x v) (fx:et x=true):∀ {xs:List V} {us:List Value},Vals xs us→xs.all et=true→∀ u∈us,SeqAt.EqAt A s u v (mi x u)
 | _,_,.nil,_=>fun u hu=>by cases hu
 | y::xs,u::us,.cons r t,f=>fun u' hu=>by
  rw [List.all_cons,Bool.and_eq_true] at f
  rcases List.mem_cons.mp hu with rfl | hu
  ·rw [qy r f.1];exact ya r rx f.1 fx
  ·exact dQ rx fx t f.2 u' hu
def oS (x:V) (xs:List V):Bool:=xs.any fun y=>uf y x
def ym (K:PySem.W.Frag) (neg:Bool):R2:=fun x y H Q=>∃ p xs,y=.ref p∧(bS K H p xs∨dw K H p xs)∧et x=true∧xs.all et=true∧Q (.bl (if neg then !oS x xs else oS x xs)) H
theorem iV:fe X (compareOp .In) (ym X.K false):=by
 intro pins s σ H x y v u Q I rx ry h
 obtain ⟨p,xs,rfl,hq,fx,fs,q⟩:=h
 cases ry
 rcases hq with hq | hq
 ·obtain ⟨its,r,pl,hz⟩:=I.list hq
  refine SeqAt.in_listAt (mi x) pl.isList (fun w hw=>dQ rx fx r fs w (by simpa using hw)) ⟨.bl _,H,I,rfl,?_⟩
  rw [show its.toArray.any (mi x)=its.any (mi x) by simp,e9 r fs]
  exact q
 ·obtain ⟨its,r,pl,hz⟩:=I.tuple hq
  refine SeqAt.in_tupleAt (mi x) pl (fun w hw=>dQ rx fx r fs w (by simpa using hw)) ⟨.bl _,H,I,rfl,?_⟩
  rw [show its.toArray.any (mi x)=its.any (mi x) by simp,e9 r fs]
  exact q
theorem jw:fe X (compareOp .NotIn) (ym X.K true):=by
 intro pins s σ H x y v u Q I rx ry h
 obtain ⟨p,xs,rfl,hq,fx,fs,q⟩:=h
 cases ry
 rcases hq with hq | hq
 ·obtain ⟨its,r,pl,hz⟩:=I.list hq
  refine SeqAt.notIn_listAt (mi x) pl.isList (fun w hw=>dQ rx fx r fs w (by simpa using hw)) ⟨.bl _,H,I,rfl,?_⟩
  rw [show its.toArray.any (mi x)=its.any (mi x) by simp,e9 r fs]
  exact q
 ·obtain ⟨its,r,pl,hz⟩:=I.tuple hq
  refine SeqAt.notIn_tupleAt (mi x) pl (fun w hw=>dQ rx fx r fs w (by simpa using hw)) ⟨.bl _,H,I,rfl,?_⟩
  rw [show its.toArray.any (mi x)=its.any (mi x) by simp,e9 r fs]
  exact q
theorem cx:cu X (.builtin "len") (fun xs H Q=>∃ p ys,xs=[.ref p]∧(bS X.K H p ys∨dw X.K H p ys)∧Q (.int ys.length) H):=by
 intro pins s σ H xs us Q I r h
 obtain ⟨p,ys,rfl,hq,q⟩:=h
 obtain ⟨u,rfl,rx⟩:=vals1 r
 cases rx
 have hn:=eA
 rcases hq with hq | hq
 ·obtain ⟨its,r',pl,hz⟩:=I.list hq
  have hlen:=r'.length
  exact Calls.call_len_list pl.isList (by simp only [List.size_toArray]<;>omega) ⟨.int ys.length,H,I.tok _,⟨s.toks+1,by rw [List.size_toArray,hlen]⟩,q⟩
 ·obtain ⟨its,r',pl,hz⟩:=I.tuple hq
  have hlen:=r'.length
  exact len_tuple pl (by simp only [List.size_toArray]<;>omega) ⟨.int ys.length,H,I.tok _,⟨s.toks+1,by rw [List.size_toArray,hlen]⟩,q⟩
theorem jC:cu X (.builtin "len") (fun xs H Q=>∃ z,xs=[.str z]∧z.length≤sizeLine∧Q (.int z.length) H):=by
 intro pins s σ H xs us Q I r h
 obtain ⟨z,rfl,hz,q⟩:=h
 obtain ⟨u,rfl,t,rfl⟩:=vals1 r
 have hn:=eA
 exact len_str (by omega) ⟨.int z.length,H,I.tok _,⟨_,rfl⟩,q⟩
theorem bG:cu X (.type "tuple") (fun xs H Q=>∃ p ys,xs=[.ref p]∧((bS X.K H p ys∧∀ l,H l=none→Q (.ref l) (upd H l (.tup ys)))∨(dw X.K H p ys∧Q (.ref p) H))):=by
 intro pins s σ H xs us Q I r h
 obtain ⟨p,ys,rfl,h⟩:=h
 obtain ⟨u,rfl,rx⟩:=vals1 r
 cases rx
 rcases h with ⟨hq,q⟩ | ⟨hq,q⟩
 ·obtain ⟨its,r',pl,hz⟩:=I.list hq
  have hlen:=r'.length
  refine call_tuple_list pl.isList (fun h' kp=>?_) (by simp only [List.size_toArray]<;>omega)
  have I1:Inv X pins σ H { s with heap:=h' }:=I.kept (t':=s.toks) kp
  have I2:Inv X pins σ (upd H h'.objs.size (.tup ys)) { s with heap:=h'.push { cls:=.type "tuple",data:=.seq its.toArray } } :=
   I1.laid (t':=s.toks) (fun b o e=>Heap.get?_push_of_some _ e) (Nat.le_refl _) (show aV X.prog X.w _ _ _ (.tup ys) from ⟨hz,its,r',IsTup.new _ _⟩)
  exact ⟨.ref h'.objs.size,_,I2,rfl,q _ (I1.aH.fresh (Nat.le_refl _))⟩
 ·obtain ⟨its,r',pl,hz⟩:=I.tuple hq
  exact call_tuple_same pl ⟨.ref p,H,I,rfl,q⟩
def Dq (K:PySem.W.Frag) (T:String) (x:V) (H:Hp):Prop:=match x with
 | .str _=>T="str"
 | .int _=>T="int"
 | .ref p=>(T="list"∧∃ xs,bS K H p xs)∨(T="tuple"∧∃ o,K.lookup p=some o∧o.cls=.type "tuple"∧o.dict=none) ∨
   (T="dict"∧((∃ kvs,H p=some (.dK kvs))∨∃ kvs,H p=some (.dT kvs)))∨(T="set"∧∃ S n,H p=some (.set S n))
 | _=>False
theorem pT {pins:List (Addr×Obj)} {σ:St} {H:Hp} {s:Shared} {T:String} {x:V} {v:Value} (I:Inv X pins σ H s) (r:RelV x v) (ty:Dq X.K T x H) :
  s.TypeIs v T∧∀ a,v=.ref a→∃ ob,s.heap.get? a=some ob∧ob.dict=none:=by
 cases x with
 | str z =>
  obtain ⟨t,rfl⟩:=r
  cases (show T="str" from ty)
  exact ⟨typeIs_str s z t,fun _ e=>nomatch e⟩
 | int i =>
  obtain ⟨t,rfl⟩:=r
  cases (show T="int" from ty)
  exact ⟨typeIs_int s i t,fun _ e=>nomatch e⟩
 | ref p =>
  cases r
  rcases ty with ⟨rfl,xs,hq⟩ | ⟨rfl,o,hk,hc,hd⟩ | ⟨rfl,hk⟩ | ⟨rfl,S,n,hk⟩
  ·obtain ⟨its,_,pl,_⟩:=I.list hq
   refine ⟨pl.isList.typeIs,fun a e=>?_⟩
   cases e
   obtain ⟨o,n,e,c,hd,_⟩:=pl
   exact ⟨o,e,hd⟩
  ·refine ⟨⟨o,I.u9 p o hk,hc⟩,fun a e=>?_⟩
   cases e
   exact ⟨o,I.u9 _ o hk,hd⟩
  ·have z:∃ o,s.heap.get? p=some o∧o.ExactDict:=by
    rcases hk with ⟨kvs,hk⟩ | ⟨kvs,hk⟩
    ·obtain ⟨_,_,_,_,o,_,_,e,ex,_⟩:=I.aH p _ hk
     exact ⟨o,e,ex⟩
    ·obtain ⟨_,_,_,_,o,_,_,e,ex,_⟩:=I.aH p _ hk
     exact ⟨o,e,ex⟩
   obtain ⟨o,e,ex⟩:=z
   refine ⟨⟨o,e,ex.1⟩,fun a e2=>?_⟩
   cases e2
   exact ⟨o,e,ex.2.1⟩
  ·obtain ⟨o,_,_,_,e,ex,_⟩:=I.aH p _ hk
   refine ⟨⟨o,e,ex.1⟩,fun a e2=>?_⟩
   cases e2
   exact ⟨o,e,ex.2.1⟩
 | _=>exact False.elim ty
def vZ (K:PySem.W.Frag) (T:String) (r:V→List V→Hp→VK→Prop) (to:TE):TE:=fun σ H Q=>to σ H fun x H1=>Dq K T x H1∧r x [] H1 Q
def Gp (K:PySem.W.Frag) (T:String) (r:V→List V→Hp→VK→Prop) (to:TE) (t:TA):TE:=fun σ H Q=>to σ H fun x H1=>Dq K T x H1∧t σ H1 fun xs H2=>r x xs H2 Q
variable {o e:Expr} {es:List Expr} {to:TE} {t:TA} {name:Str} {apos bF:Pos} {T id:String} {r:V→List V→Hp→VK→Prop}
theorem ql (pa:PlainAttrs T) (slot:Slot T name id) (xO:typeOf (.builtin id)=pure (.type "method_descriptor")) (hm:A5 X id r) (ho:PE X o to)
  (e8:attributeBase o name X.env (eval o X.env)=eval o X.env:=by rfl) (dN:(apos.endLine == bF.line)=true:=by rfl):PE X (.Call (.Attribute o name apos) [] [] bF) (vZ X.K T r to):=by
 intro pins s σ H Q I h
 refine wpAny_Call_method0_late e8 dN (ba (ho pins s σ H _ I h) fun v s1 ⟨x,H1,I1,r1,ty,q1⟩=>?_)
 obtain ⟨h1,h2⟩:=pT I1 r1 ty
 exact ⟨T,id,pa,slot,xO,h1,h2,Calls.callWith_builtin rfl (PySem.evalArgs_none (hm pins s1 σ H1 x [] v [] Q I1 r1 .nil q1))⟩
theorem uR (pa:PlainAttrs T) (slot:Slot T name id) (xO:typeOf (.builtin id)=pure (.type "method_descriptor")) (hm:A5 X id r) (ho:PE X o to) (ha:PA X (e::es) t)
  (e8:attributeBase o name X.env (eval o X.env)=eval o X.env:=by rfl)
  (pz:((backTo bF (starEach (e::es) X.env)).all (fun x=>!x.1)&&(backToKw bF (keywordEach [] X.env)).all (fun x=>x.1.isSome)
   && decide ((e::es).length+([]:List Keyword).length+(if ([]:List Keyword).isEmpty then 0 else 1) < 30))=true:=by rfl)
  (dN:(apos.endLine == bF.line)=true:=by rfl) (hs:starEach (e::es) X.env=(false,eval e X.env)::starEach es X.env:=by rfl) (gu:(backTo bF (starEach es X.env)).any (·.1)=false:=by rfl) :
  PE X (.Call (.Attribute o name apos) (e::es) [] bF) (Gp X.K T r to t):=by
 intro pins s σ H Q I h
 refine wpAny_Call_method_late e8 pz dN rfl (ba (ho pins s σ H _ I h) fun v s1 ⟨x,H1,I1,r1,ty,q1⟩=>?_)
 obtain ⟨h1,h2⟩:=pT I1 r1 ty
 refine ⟨T,id,pa,slot,xO,h1,h2,?_⟩
 have hA:=ha bF pins s1 σ H1 _ I1 q1
 rw [hs] at hA ⊢
 refine Calls.callWith_builtin (by show (false||(backTo bF (starEach es X.env)).any (·.1))=false;rw [gu]<;>rfl) (Calls.evalArgs_plain ?_)
 exact ba hA fun us s2 ⟨vs,H2,I2,r2,q2⟩=>hm pins s2 σ H2 x vs v us Q I2 r1 r2 q2
end
end L2
namespace L2
open PySem PySem.Spec PyProof.Rows
def Bj (X:Cx) (id:String) (r:V→List V→Hp→VK→Prop):Prop :=
 ∀ (pins:List (Addr×Obj)) (s:Shared) (σ:St) (H:Hp) (x:V) (xs:List V) (v:Value) (us:List Value) (Q:VK),Inv X pins σ H s→RelV x v→Vals xs us→r x xs H Q →
  wpAny (model X.prog X.w) X.A (call (.builtin id) (v::us)) (EP X pins σ Q) X.xe s
theorem Vals.one:∀ {x:V} {us:List Value},Vals [x] us→∃ u,us=[u]∧RelV x u
 | _,_,.cons r .nil=>⟨_,rfl,r⟩
theorem Vals.two:∀ {x y:V} {us:List Value},Vals [x,y] us→∃ u v,us=[u,v]∧RelV x u∧RelV y v
 | _,_,_,.cons r (.cons q .nil)=>⟨_,_,rfl,r,q⟩
theorem Vals.zero:∀ {us:List Value},Vals [] us→us=[]
 | _,.nil=>rfl
theorem Vals.dropLast {xs:List V} {us:List Value} (h:Vals xs us):Vals xs.dropLast us.dropLast:=by
 induction h with
 | nil=>exact .nil
 | cons r t ih =>
  cases t with
  | nil=>exact .nil
  | cons q t'=>exact .cons r ih
theorem Vals.reverse {xs:List V} {us:List Value} (h:Vals xs us):Vals xs.reverse us.reverse:=by
 induction h with
 | nil=>exact .nil
 | cons r t ih=>rw [List.reverse_cons,List.reverse_cons];exact Vals.append ih (.cons r .nil)
theorem lB {α:Type} (l:List α):l.eraseIdx (l.length - 1)=l.dropLast:=by
 induction l with
 | nil=>rfl
 | cons a r ih =>
  cases r with
  | nil=>rfl
  | cons b r =>
   have e:(a::b::r).length - 1=((b::r).length - 1)+1:=by
    have h1:(a::b::r).length=r.length+2:=rfl
    have h2:(b::r).length=r.length+1:=rfl
    omega
   rw [e,List.eraseIdx_cons_succ,ih]
   all_goals rfl
section
variable {X:Cx} {pins:List (Addr×Obj)} {σ:St} {H:Hp} {s:Shared} {l b:Addr} {xs ys zs:List V}
theorem Inv.xb {its its':List Value} {n:Nat} {f:Array Value→Array Value} {t':Nat} (I:Inv X pins σ H s) (hH:H l=some (.lst xs))
  (e:s.heap.get? l=some { cls:=.type "list",data:=.seq its.toArray n }) (hf:f its.toArray=its'.toArray) (hv:Vals ys its') (hz:ys.length≤sizeLine) :
  Inv X pins σ (upd H l (.lst ys)) { s with heap:=s.heap.update l (Obj.mapSeq f),toks:=t' }:=by
 have q:=PySem.IsL.update e f
 rw [hf] at q
 refine I.write (x:=l) (e:=l) (by rw [hH];exact trivial) (.inl rfl) (fun b' u hb hu=>(Heap.get?_update_other s.heap (Obj.mapSeq f) (Ne.symm hb)).trans hu) ⟨_,q⟩ ?_
 exact ⟨hz,its',_,hv,q⟩
theorem Inv.FH {its:List Value} {t':Nat} (I:Inv X pins σ H s) (hv:Vals ys its) (hz:ys.length≤sizeLine) :
  Inv X pins σ (upd H s.heap.objs.size (.lst ys)) { s with heap:=s.heap.push { cls:=.type "list",data:=.seq its.toArray },toks:=t' } :=
 I.laid (fun _ _ q=>Heap.get?_push_of_some _ q) (Nat.le_refl _) ⟨hz,its,0,hv,Heap.get?_push_size _ rfl⟩
theorem Inv.qi (I:Inv X pins σ H s) (hH:H l=some (.lst xs)):xs.length≤sizeLine∧∃ (its:List Value) (n:Nat),Vals xs its∧xs.length=its.length∧s.heap.get? l=some { cls:=.type "list",data:=.seq its.toArray n }:=by
 obtain ⟨z,its,n,r,e⟩:=I.aH l _ hH
 exact ⟨z,its,n,r,r.length,e⟩
theorem qa {n:Nat} (h:n≤sizeLine):Builtin.List.listTooLong n=false:=by
 unfold Builtin.List.listTooLong
 exact decide_eq_false (by omega)
end
section
variable {X:Cx}
def mT:V→List V→Hp→VK→Prop:=fun x vs H Q=>∃ l xs y,x=.ref l∧vs=[y]∧H l=some (.lst xs)∧xs.length < sizeLine∧Q .aS (upd H l (.lst (xs++[y])))
theorem cY:Bj X "list.append" mT:=by
 intro pins s σ H x vs v us Q I rx rv h
 obtain ⟨l,xs,y,rfl,rfl,hH,hz,q⟩:=h
 cases rx
 obtain ⟨u,rfl,ru⟩:=rv.one
 obtain ⟨z,its,n,r,hl,e⟩:=I.qi hH
 refine call_meets F.slot_list_append ⟨_,e,rfl⟩ F.entry_list_append (F.args_list_append_2 _ _) (PySem.list_append l its.toArray n u (by rw [List.size_toArray];omega)) ⟨e,?_⟩
 refine ⟨.aS,_,I.xb (its':=its++[u]) hH e (by simp) (r.append (.cons ru .nil)) ?_,rfl,q⟩
 rw [List.length_append,List.length_singleton]
 omega
def mS:V→List V→Hp→VK→Prop:=fun x vs H Q=>∃ l b xs zs,x=.ref l∧vs=[.ref b]∧H l=some (.lst xs)∧H b=some (.lst zs)∧xs.length+zs.length≤sizeLine∧Q .aS (upd H l (.lst (xs++zs)))
theorem oQ:Bj X "list.extend" mS:=by
 intro pins s σ H x vs v us Q I rx rv h
 obtain ⟨l,b,xs,zs,rfl,rfl,hH,hB,hz,q⟩:=h
 cases rx
 obtain ⟨u,rfl,ru⟩:=rv.one
 cases ru
 obtain ⟨z,its,n,r,hl,e⟩:=I.qi hH
 obtain ⟨z2,its2,n2,r2,hl2,e2⟩:=I.qi hB
 have hsz:its.toArray.size+its2.toArray.size≤sizeLine:=by rw [List.size_toArray,List.size_toArray];omega
 have hlong:¬ (!its.toArray.isEmpty&&Builtin.List.listTooLong (its.toArray.size+its2.toArray.size))=true:=by
  rw [qa hsz,Bool.and_false]
  exact Bool.false_ne_true
 refine call_meets F.slot_list_extend ⟨_,e,rfl⟩ F.entry_list_extend (F.args_list_extend_2 _ _)
  (AutoSeq1.list_extend_list_list_0 l its.toArray n b its2.toArray n2 hlong (by rw [List.size_toArray];omega) (by omega)) ⟨e,e2,?_⟩
 refine ⟨.aS,_,I.xb (its':=its++its2) hH e (by simp) (r.append r2) ?_,rfl,q⟩
 rw [List.length_append]
 omega
def xt:V→List V→Hp→VK→Prop:=fun x vs H Q=>∃ l xs y,x=.ref l∧vs=[]∧H l=some (.lst xs)∧xs[xs.length - 1]?=some y∧Q y (upd H l (.lst xs.dropLast))
theorem jz:Bj X "list.pop" xt:=by
 intro pins s σ H x vs v us Q I rx rv h
 obtain ⟨l,xs,y,rfl,rfl,hH,hy,q⟩:=h
 cases rx
 have hus:=rv.zero
 subst hus
 obtain ⟨z,its,n,r,hl,e⟩:=I.qi hH
 obtain ⟨u,hu,ru⟩:=r.get hy
 have hy':its.toArray[its.toArray.size - 1]?=some u:=by
  show its.toArray[its.length - 1]?=some u
  rw [← Array.getElem?_toList,← hl]
  exact hu
 refine call_meets F.slot_list_pop ⟨_,e,rfl⟩ F.entry_list_pop (F.args_list_pop_1 _) (MeetsSeq.list_pop_last l its.toArray n u hy' (by rw [List.size_toArray];omega)) ⟨e,?_⟩
 refine ⟨y,_,I.xb (its':=its.dropLast) hH e ?_ r.dropLast ?_,ru,q⟩
 ·show its.toArray.eraseIdxIfInBounds (its.toArray.size - 1)=its.dropLast.toArray
  rw [List.size_toArray,List.eraseIdxIfInBounds_toArray,lB]
 ·rw [List.length_dropLast]
  omega
end
section
variable {prog:Program} {w:World} {A:Around} {E:Value→Shared→Prop} {s:Shared}
end
section
variable {X:Cx}
end
end L2
namespace L2
open PySem PySem.Spec PyProof.Rows
section
variable {κ:Type} [DecidableEq κ]
def dh (kvs:List (κ×V)) (k:κ):Option V:=(kvs.find? fun kv=>decide (kv.1=k)).map (·.2)
def putK (kvs:List (κ×V)) (k:κ) (v:V):List (κ×V) :=
 if (kvs.any fun kv=>decide (kv.1=k))=true then kvs.map (fun kv=>if kv.1=k then (kv.1,v) else kv) else kvs++[(k,v)]
theorem gE {k:κ}:dh ([]:List (κ×V)) k=none:=rfl
theorem cE {p:κ×V} {r:List (κ×V)} {k:κ} (e:p.1=k):dh (p::r) k=some p.2:=by simp [dh,List.find?_cons,e]
theorem bI {p:κ×V} {r:List (κ×V)} {k:κ} (e:¬ p.1=k):dh (p::r) k=dh r k:=by simp [dh,List.find?_cons,e]
theorem gL (k:κ):∀ kvs:List (κ×V),(kvs.any fun kv=>decide (kv.1=k))=(dh kvs k).isSome
 | []=>rfl
 | p::r=>by
  rw [List.any_cons]
  by_cases e:p.1=k
  ·simp only [cE e,decide_eq_true e,Bool.true_or,Option.isSome_some]
  ·rw [bI e,decide_eq_false e,Bool.false_or];exact gL k r
theorem cg (kvs:List (κ×V)) (k:κ) (v:V):(putK kvs k v).length≤kvs.length+1:=by
 unfold putK
 split
 ·rw [List.length_map];omega
 ·rw [List.length_append,List.length_cons,List.length_nil];omega
theorem gA {kvs:List (κ×V)} {k:κ} (v:V) (h:dh kvs k=none):putK kvs k v=kvs++[(k,v)]:=by
 unfold putK
 rw [gL,h]
 exact if_neg (by decide)
theorem fM.og {o:Option V} {u:Option Value} (r:fM o u):o.isSome=u.isSome:=by
 cases o with
 | none=>cases u with
  | none=>rfl
  | some _=>exact (show False from r).elim
 | some _=>cases u with
  | none=>exact (show False from r).elim
  | some _=>rfl
theorem fM.getD {o:Option V} {u:Option Value} {d:V} {d':Value} (r:fM o u) (rd:RelV d d'):RelV (o.getD d) (u.getD d'):=by
 cases o with
 | none=>cases u with
  | none=>exact rd
  | some _=>exact (show False from r).elim
 | some _=>cases u with
  | none=>exact (show False from r).elim
  | some _=>exact r
theorem KV.val {kvs:List (κ×V)} {vs:List (κ×Value)} (r:KV kvs vs) (k:κ):fM (dh kvs k) (valueAt vs k):=by
 unfold KV at r
 induction r with
 | nil=>exact True.intro
 | @cons p q ps qs h t ih =>
  obtain ⟨h1,h2⟩:=h
  by_cases e:p.1=k
  ·have e':q.1=k:=h1.symm.trans e
   have b:valueAt (q::qs) k=some q.2:=by simp [valueAt,List.find?_cons,e']
   rw [cE e,b];exact h2
  ·have e':¬ q.1=k:=fun z=>e (h1.trans z)
   have b:valueAt (q::qs) k=valueAt qs k:=by simp [valueAt,List.find?_cons,e']
   rw [bI e,b];exact ih
theorem KV.any {kvs:List (κ×V)} {vs:List (κ×Value)} (r:KV kvs vs) (k:κ):(kvs.any fun kv=>decide (kv.1=k))=vs.any fun kv=>decide (kv.1=k):=by
 unfold KV at r
 induction r with
 | nil=>rfl
 | cons h t ih=>rw [List.any_cons,List.any_cons,ih,h.1]
theorem KV.xV {kvs:List (κ×V)} {vs:List (κ×Value)} (r:KV kvs vs) (k:κ) {y:V} {u:Value} (ry:RelV y u) :
  KV (kvs.map fun kv=>if kv.1=k then (kv.1,y) else kv) (vs.map fun kv=>if kv.1=k then (kv.1,u) else kv):=by
 unfold KV at r ⊢
 induction r with
 | nil=>exact .nil
 | @cons p q ps qs h t ih =>
  rw [List.map_cons,List.map_cons]
  refine .cons ?_ ih
  obtain ⟨h1,h2⟩:=h
  by_cases e:p.1=k
  ·rw [if_pos e,if_pos (h1.symm.trans e)];exact ⟨h1,ry⟩
  ·rw [if_neg e,if_neg (fun z=>e (h1.trans z))];exact ⟨h1,h2⟩
theorem KV.put {kvs:List (κ×V)} {vs:List (κ×Value)} (r:KV kvs vs) (k:κ) {y:V} {u:Value} (ry:RelV y u):KV (putK kvs k y) (stored vs k u):=by
 unfold putK stored
 rw [r.any k]
 by_cases e:(vs.any fun kv=>decide (kv.1=k))=true
 ·rw [if_pos e,if_pos e];exact r.xV k ry
 ·rw [if_neg e,if_neg e];exact Paired.snoc r ⟨rfl,ry⟩
theorem KV.length {kvs:List (κ×V)} {vs:List (κ×Value)} (r:KV kvs vs):kvs.length=vs.length:=Paired.length r
end
theorem j6 {P:Program} {w:World} {k:Key} {u:Value} (r:RelV (kV k) u):(ax P w).is k u=true:=by
 cases k with
 | inl i=>obtain ⟨t,e⟩:=(show ∃ t,u=Value.int i t from r);subst e;exact kx P w i t
 | inr x=>obtain ⟨t,e⟩:=(show ∃ t,u=Value.str x t from r);subst e;exact lb P w x t
theorem iL {P:Program} {w:World}:∀ {ks:List Key} {us:List Value},Vals (ks.map kV) us→ItemsAre (ax P w) ks us
 | [],_,r=>by rw [List.map_nil] at r;cases r;exact .nil
 | k::ks,_,r=>by
  rw [List.map_cons] at r
  cases r with
  | cons h t=>exact .cons (j6 h) (iL t)
abbrev KT (H:Hp):List (List Key×V)→List (List Key×Addr×Value)→Prop:=Paired fun p q=>p.1=q.1∧H q.2.1=some (.tup (p.1.map kV))∧RelV p.2 q.2.2
theorem KT.val {H:Hp} {kvs:List (List Key×V)} {xs:List (List Key×Addr×Value)} (r:KT H kvs xs) (k:List Key):fM (dh kvs k) ((atKey xs k).map (·.2)):=by
 induction r with
 | nil=>exact True.intro
 | @cons p q ps qs h t ih =>
  obtain ⟨h1,_,h2⟩:=h
  by_cases e:p.1=k
  ·have e':q.1=k:=h1.symm.trans e
   have b:atKey (q::qs) k=some q.2:=by simp [atKey,List.find?_cons,e']
   rw [cE e,b];exact h2
  ·have e':¬ q.1=k:=fun z=>e (h1.trans z)
   have b:atKey (q::qs) k=atKey qs k:=by simp [atKey,List.find?_cons,e']
   rw [bI e,b];exact ih
theorem KT.xV {H:Hp} {kvs:List (List Key×V)} {xs:List (List Key×Addr×Value)} (r:KT H kvs xs) (k:List Key) {y:V} {u:Value} (ry:RelV y u) :
  KT H (kvs.map fun kv=>if kv.1=k then (kv.1,y) else kv) (xs.map (putAt k u)):=by
 induction r with
 | nil=>exact .nil
 | @cons p q ps qs h t ih =>
  rw [List.map_cons,List.map_cons]
  refine .cons ?_ ih
  obtain ⟨h1,h2,h3⟩:=h
  unfold putAt
  by_cases e:p.1=k
  ·rw [if_pos e,if_pos (h1.symm.trans e)];exact ⟨h1,h2,ry⟩
  ·rw [if_neg e,if_neg (fun z=>e (h1.trans z))];exact ⟨h1,h2,h3⟩
theorem KT.put {H:Hp} {kvs:List (List Key×V)} {xs:List (List Key×Addr×Value)} (r:KT H kvs xs) (k:List Key) {b:Addr} {y:V} {u:Value} (hb:H b=some (.tup (k.map kV))) (ry:RelV y u) :
  KT H (putK kvs k y) (storedH xs k b u):=by
 have e:(kvs.any fun kv=>decide (kv.1=k))=(atKey xs k).isSome:=by
  rw [gL,(r.val k).og,Option.isSome_map]
 unfold putK storedH
 rw [e]
 by_cases q:(atKey xs k).isSome=true
 ·rw [if_pos q,if_pos q];exact r.xV k ry
 ·rw [if_neg q,if_neg q];exact Paired.snoc r ⟨rfl,hb,ry⟩
theorem KT.keeps {H H':Hp} {kvs:List (List Key×V)} {xs:List (List Key×Addr×Value)} (r:KT H kvs xs) (ht:∀ b ys,H b=some (.tup ys)→H' b=some (.tup ys)):KT H' kvs xs :=
 Paired.qg r fun _ _ z=>⟨z.1,ht _ _ z.2.1,z.2.2⟩
section
variable {P:Program} {w:World} {H:Hp} {h:Heap} {a:Addr}
theorem uF {u:HO} (ok:eU P w H h) (e:Rd H a u):aV P w H h a u:=e.ok ok
theorem kF {kvs:List (Key×V)} (ok:eU P w H h) (e:Rd H a (.dK kvs)):kvs.length≤sizeLine∧(a == sysModules)=false∧∃ vs,KV kvs vs∧h.DictOf (ax P w) a vs :=
 show aV P w H h a (.dK kvs) from uF ok e
theorem u4 {kvs:List (Key×V)} (ok:eU P w H h) (e:H a=some (.dK kvs)):kvs.length≤sizeLine∧(a == sysModules)=false∧∃ vs,KV kvs vs∧h.DictOf (ax P w) a vs:=kF ok (.inl e)
theorem g8 {ks:List Key} (ok:eU P w H h) (e:H a=some (.tup (ks.map kV))):(tupleKind (ax P w)).is h ks a:=by
 obtain ⟨_,its,r,o,h1,h2,n,h3⟩:=(show aV P w H h a (.tup (ks.map kV)) from ok a _ e)
 exact ⟨o,its.toArray,n,h1,h2,h3,by simpa using iL r⟩
theorem kW {kvs:List (List Key×V)} (ok:eU P w H h) (e:Rd H a (.dT kvs)):kvs.length≤sizeLine∧(a == sysModules)=false ∧
  ∃ xs,KT H kvs xs∧h.DictOfH (tupleKind (ax P w)) a xs:=by
 obtain ⟨z,y,xs,r,o,es,ep,h1,h2,h3,h4,h5⟩:=(show aV P w H h a (.dT kvs) from uF ok e)
 refine ⟨z,y,xs,r,o,es,ep,h1,h2,h3,h4,fun x hx=>?_,h5⟩
 have all:∀ {l:List (List Key×V)} {m:List (List Key×Addr×Value)},KT H l m→∀ x∈m,(tupleKind (ax P w)).is h x.1 x.2.1:=by
  intro l m q
  induction q with
  | nil=>intro x hx;exact nomatch hx
  | @cons p q ps qs hq t ih =>
   intro x hx
   rcases List.mem_cons.mp hx with e | hx
   ·subst e
    exact g8 ok (by rw [← hq.1];exact hq.2.1)
   ·exact ih x hx
 exact all r x hx
theorem pq {kvs:List (List Key×V)} (ok:eU P w H h) (e:H a=some (.dT kvs)):kvs.length≤sizeLine∧(a == sysModules)=false ∧
  ∃ xs,KT H kvs xs∧h.DictOfH (tupleKind (ax P w)) a xs:=kW ok (.inl e)
end
def dq (H:Hp) (a:Addr) (y:V) (r:Option V):Prop :=
 (∃ kvs k,Rd H a (.dK kvs)∧y=kV k∧r=dh kvs k)∨∃ kvs k b,Rd H a (.dT kvs)∧y=.ref b∧H b=some (.tup (k.map kV))∧r=dh kvs k
def fB (H:Hp) (a:Addr) (y v:V) (H':Hp):Prop :=
 (∃ kvs k,H a=some (.dK kvs)∧y=kV k∧kvs.length < sizeLine∧H'=upd H a (.dK (putK kvs k v))) ∨
 ∃ kvs k b,H a=some (.dT kvs)∧y=.ref b∧H b=some (.tup (k.map kV))∧kvs.length < sizeLine∧H'=upd H a (.dT (putK kvs k v))
theorem dq.k {H:Hp} {a:Addr} {kvs:List (Key×V)} {k:Key} (e:H a=some (.dK kvs)):dq H a (kV k) (dh kvs k):=.inl ⟨kvs,k,.inl e,rfl,rfl⟩
theorem dq.t {H:Hp} {a b:Addr} {kvs:List (List Key×V)} {k:List Key} (e:H a=some (.dT kvs)) (eb:H b=some (.tup (k.map kV))):dq H a (.ref b) (dh kvs k):=.inr ⟨kvs,k,b,.inl e,rfl,eb,rfl⟩
theorem fB.k {H:Hp} {a:Addr} {kvs:List (Key×V)} {k:Key} {v:V} (e:H a=some (.dK kvs)) (hl:kvs.length < sizeLine):fB H a (kV k) v (upd H a (.dK (putK kvs k v))):=.inl ⟨kvs,k,e,rfl,hl,rfl⟩
theorem fB.t {H:Hp} {a b:Addr} {kvs:List (List Key×V)} {k:List Key} {v:V} (e:H a=some (.dT kvs)) (eb:H b=some (.tup (k.map kV))) (hl:kvs.length < sizeLine) :
  fB H a (.ref b) v (upd H a (.dT (putK kvs k v))):=.inr ⟨kvs,k,b,e,rfl,eb,hl,rfl⟩
section
variable {X:Cx} {pins:List (Addr×Obj)} {σ:St} {H:Hp} {s:Shared} {a:Addr} {y v:V} {u r:Value} {o:Option V} {A:Around} {E:Value→Shared→Prop}
theorem Inv.big (I:Inv X pins σ H s):sysModules < s.heap.objs.size:=by
 have h:mainGlobals < s.heap.objs.size:=(I.mod.glob.keeps I.bk).lt
 exact Nat.lt_trans (by decide) h
theorem n6 {Q:Value→Shared→Prop} (hu:A.units+1 < cLine) (I:Inv X pins σ H s) (g:dq H a y (some v)) (ry:RelV y u) (h:∀ w' s',Inv X pins σ H s'→RelV v w'→Q w' s') :
  wpAny (model X.prog X.w) A (getItem (.ref a) u) Q E s:=by
 rcases g with ⟨kvs,k,e,ey,l⟩ | ⟨kvs,k,b,e,ey,eb,l⟩
 ·subst ey
  obtain ⟨z,hd,vs,rel,dd⟩:=kF I.aH e
  obtain ⟨w',hw,rw'⟩:=fM.some_of (v:=v) (o:=valueAt vs k) (by rw [l];exact rel.val k)
  exact wpAny_getItem_of (j6 ry) dd.mapOf hw (h w' _ (I.tok _) rw')
 ·subst ey
  cases (show u=Value.ref b from ry)
  obtain ⟨z,hd,xs,rel,dd⟩:=kW I.aH e
  obtain ⟨w',hw,rw'⟩:=fM.some_of (v:=v) (o:=(atKey xs k).map (·.2)) (by rw [l];exact rel.val k)
  obtain ⟨p,hp,hp2⟩:=Option.map_eq_some_iff.mp hw
  refine wpAny_getItem_heap (tupleKind_room_in1 hu) (g8 I.aH eb) dd hp ?_
  rw [hp2]
  exact h w' _ (I.tok _) rw'
theorem gc {h':Heap} {t':Nat} {ob:HO} (I:Inv X pins σ H s) (mu:An (H a)) (hs:Heap.SameBut a s.heap h') (he:∃ q,h'.get? a=some q) (new:aV X.prog X.w (upd H a ob) h' a ob) :
  Inv X pins σ (upd H a ob) { s with heap:=h',toks:=t' } :=
 I.write (x:=a) (e:=a) mu (.inl rfl) (fun b q hb z=>(hs.2 b hb).trans z) he new
theorem ph {P:Program} {w:World} {H':Hp} {h':Heap} {kvs:List (Key×V)} {vs:List (Key×Value)} (z:kvs.length≤sizeLine) (hd:(a == sysModules)=false) (rel:KV kvs vs) (dd:h'.DictOf (ax P w) a vs) :
  aV P w H' h' a (.dK kvs):=⟨z,hd,vs,rel,dd⟩
theorem om {H':Hp} {Q:Unit→Shared→Prop} (hu:A.units+1 < cLine) (I:Inv X pins σ H s) (g:fB H a y v H') (ry:RelV y u) (rv:RelV v r) (h:∀ s',Inv X pins σ H' s'→Q () s') :
  wpAny (model X.prog X.w) A (setItem (.ref a) u r) Q E s:=by
 rcases g with ⟨kvs,k,e,ey,l,eH⟩ | ⟨kvs,k,b,e,ey,eb,l,eH⟩
 ·subst ey eH
  obtain ⟨z,hd,vs,rel,dd⟩:=u4 I.aH e
  have hz:vs.length≤sizeLine:=by rw [← rel.length];exact z
  have hl:(putK kvs k v).length≤sizeLine:=by have:=cg kvs k v;omega
  refine wpAny_setItem_pairs (hsz:=hz) (j6 ry) dd fun h' dd' hs=>h _ ?_
  have he:∃ q,h'.get? a=some q:=let ⟨q,_,_,hq,_⟩:=dd';⟨q,hq⟩
  exact gc I (by rw [e];exact True.intro) hs he (ph hl hd (rel.put k rv) dd')
 ·subst ey eH
  cases (show u=Value.ref b from ry)
  obtain ⟨z,hd,xs,rel,dd⟩:=pq I.aH e
  have hz:xs.length≤sizeLine:=by rw [← Paired.length rel];exact z
  have hl:(putK kvs k v).length≤sizeLine:=by have:=cg kvs k v;omega
  refine wpAny_setItem_heap (hsz:=hz) (tupleKind_room_in1 hu) (g8 I.aH eb) dd fun h' dd' hs=>h _ ?_
  obtain ⟨q,es,ep,hq,h2,h3,h4,_,h5⟩:=dd'
  refine gc I (by rw [e];exact True.intro) hs ⟨q,hq⟩ ⟨hl,hd,_,(rel.put k eb rv).keeps fun c ys ec=>?_,q,es,ep,hq,h2,h3,h4,h5⟩
  rw [ag (qh ec e (fun z=>nomatch z))]
  exact ec
end
section
variable {X:Cx} {pins:List (Addr×Obj)} {σ:St} {H:Hp} {s:Shared} {a:Addr} {kvs:List (Key×V)} {k:Key} {u:Value} {A:Around} {E:Value→Shared→Prop}
end
def zy (i:Expr):Prop:=∀ ov iv,subscripted i false ov iv=operate [ov,iv] (getItem ov iv)
theorem sh {prog:Program} {w:World} {A:Around} {E:Value→Shared→Prop} {s:Shared} {env:Env} {value slice:Expr} {pos:Pos} {T id:String} {Q:Value→Shared→Prop}
  (hl:typeLookup (.type T) "__getitem__"=pure (some (.builtin id))) (hs:zy slice)
  (h:wpAny (model prog w) A (eval value env) (fun o s₁=>wpAny (model prog w) A (eval slice env) (fun i s₂=>s₂.TypeIs o T∧wpAny (model prog w) A (getItem o i) Q E s₂) E s₁) E s) :
  wpAny (model prog w) A (eval (.Subscript value slice pos) env) Q E s:=by
 refine Subscript_ (wpAny_mono h (fun o s₁ h₁=>wpAny_mono h₁ (fun i s₂ h₂=>?_) fun _ _ x=>x) fun _ _ x=>x)
 obtain ⟨hT,h₂⟩:=h₂
 unfold subscriptTail
 refine wpAny_bind ?_
 rw [getitemInPython_of_ne hT.not_modules]
 refine wpAny_bind (wpAny_specialOf hT hl ?_)
 have fin:wpAny (model prog w) A (subscripted slice false o i) (fun r s₃=>wpAny (model prog w) A (letTemporaryGo value o r >>= fun _=>pure r) Q E s₃) E s₂:=by
  rw [hs o i]
  exact wpAny_operating (wpAny_mono h₂ (fun r s₃ h₃=>wpAny_bind (wpAny_letTemporaryGo (wpAny_pure h₃))) fun _ _ x=>x)
 first
  | exact wpAny_pure (wpAny_bind fin)
  | exact wpAny_bind (wpAny_pure (wpAny_bind fin))
  | exact wpAny_bind fin
theorem kE {X:Cx} {pins:List (Addr×Obj)} {σ:St} {H:Hp} {s:Shared} {a:Addr} {y:V} {o:Option V} (I:Inv X pins σ H s) (g:dq H a y o):s.TypeIs (.ref a) "dict":=by
 rcases g with ⟨kvs,k,e,_,_⟩ | ⟨kvs,k,b,e,_,_,_⟩
 ·obtain ⟨_,_,vs,_,dd⟩:=kF I.aH e
  exact dd.typeIs
 ·obtain ⟨_,_,xs,_,dd⟩:=kW I.aH e
  exact dd.typeIs
def ee (td ty:TE):TE:=fun σ H Q=>td σ H fun x H1=>ty σ H1 fun y H2=>∃ a v,x=.ref a∧dq H2 a y (some v)∧Q v H2
def k6 (td ty tv:TE):TS:=fun D σ H=>tv σ H fun v H1=>td σ H1 fun x H2=>ty σ H2 fun y H3=>∃ a H4,x=.ref a∧fB H3 a y v H4∧D.nx σ H4
section
variable {X:Cx} {o i e value:Expr} {pos pos' kl:Pos} {td ty tv:TE}
theorem cw (hu:X.A.units+1 < cLine) (ho:PE X o td) (hi:PE X i ty) (hs:zy i):PE X (.Subscript o i pos) (ee td ty):=by
 intro pins s σ H Q I h
 refine sh PySem.F.slot_dict_getitem.lookup hs (ba (ho pins s σ H _ I h) fun u s1 ⟨x,H1,I1,rx,q1⟩=>ba (hi pins s1 σ H1 _ I1 q1) fun iv s2 ⟨y,H2,I2,ry,a,v,ex,g,q2⟩=>?_)
 subst ex
 obtain rfl:u=Value.ref a:=rx
 exact ⟨kE I2 g,n6 hu I2 g ry fun w' s3 I3 rw'=>⟨v,H2,I3,rw',q2⟩⟩
theorem fT (hu:X.A.units+1 < cLine) (ho:PE X o td) (hi:PE X i ty) (hv:PE X value tv) (hs:swapsWith value (some (.Subscript o i pos')) pos.line X.env=pure false) :
  PS X (.Assign [.Subscript o i pos'] value pos) (k6 td ty tv):=by
 intro pins s σ H D I h
 refine wpAny_Assign_Subscript (ba (hv pins s σ H _ I h) fun r s1 ⟨v,H1,I1,rv,q1⟩=>ba (ho pins s1 σ H1 _ I1 q1) fun u s2 ⟨x,H2,I2,rx,q2⟩=>ba (hi pins s2 σ H2 _ I2 q2) fun iv s3 ⟨y,H3,I3,ry,a,H4,ex,g,q3⟩=>?_) hs
 subst ex
 obtain rfl:u=Value.ref a:=rx
 exact om hu I3 g ry rv fun s4 I4=>⟨σ,H4,I4,q3⟩
end
theorem pP {P:Program} {w:World} {H:Hp} (h:Heap) (hb:sysModules < h.objs.size):aV P w H (h.push { cls:=.type "dict",data:=.dict #[] }) h.objs.size (.dK []) :=
 ⟨Nat.zero_le _,beq_eq_false_iff_ne.mpr (Ne.symm (Nat.ne_of_lt hb)),[],.nil,Heap.DictOf.new h⟩
theorem kQ {P:Program} {w:World} {H:Hp} (h:Heap) (hb:sysModules < h.objs.size):aV P w H (h.push { cls:=.type "dict",data:=.dict #[] }) h.objs.size (.dT []) :=
 ⟨Nat.zero_le _,beq_eq_false_iff_ne.mpr (Ne.symm (Nat.ne_of_lt hb)),[],.nil,_,#[],0,Heap.get?_push_size _ rfl,⟨rfl,rfl,rfl⟩,rfl,rfl,List.nodup_nil⟩
def xT:TE:=fun _ H Q=>∀ p,H p=none→Q (.ref p) (upd H p (.dT []))
section
variable {X:Cx} {pos:Pos}
theorem rF:PE X (.Dict [] [] pos) xT:=fun pins s σ H Q I h =>
 wpAny_Dict_empty ⟨.ref s.heap.objs.size,_,I.laid (a:=s.heap.objs.size) (o:=.dT []) (t':=s.toks) (fun _ _ q=>Heap.get?_push_of_some _ q) (Nat.le_refl _) (kQ s.heap I.big),rfl,h _ (I.aH.fresh (Nat.le_refl _))⟩
end
def lO:List (TE×TE)→St→Hp→(List (V×V)→Hp→Prop)→Prop
 | [],_,H,Q=>Q [] H
 | (tk,tv)::r,σ,H,Q=>tk σ H fun x H1=>tv σ H1 fun y H2=>lO r σ H2 fun ps H3=>Q ((x,y)::ps) H3
abbrev VV:List (V×V)→List (Value×Value)→Prop:=Paired fun p q=>RelV p.1 q.1∧RelV p.2 q.2
def A9 (X:Cx) (pos:Pos) (keys:List (Option Expr)) (values:List Expr) (uD:List (TE×TE)):Prop :=
 ∀ (pins:List (Addr×Obj)) (s:Shared) (σ:St) (H:Hp) (Q:List (V×V)→Hp→Prop),Inv X pins σ H s→lO uD σ H Q →
  wpAny (model X.prog X.w) X.A (evalPairs (pairTrees keys values X.env pos)) (fun vs s'=>∃ ps H',Inv X pins σ H' s'∧VV ps vs∧Q ps H') X.xe s
theorem um {X:Cx} {pos:Pos}:A9 X pos [] [] []:=fun pins s σ H Q I h=>pairTrees_nil_walk ⟨[],H,I,.nil,h⟩
theorem hU {X:Cx} {pos:Pos} {k v:Expr} {ks:List (Option Expr)} {vs:List Expr} {tk tv:TE} {uD:List (TE×TE)} (hk:PE X k tk) (hv:PE X v tv) (hr:A9 X pos ks vs uD) :
  A9 X pos (some k::ks) (v::vs) ((tk,tv)::uD):=fun pins s σ H Q I h =>
 pairTrees_cons_walk (ba (hk pins s σ H _ I h) fun u s1 ⟨x,H1,I1,rx,q1⟩=>ba (hv pins s1 σ H1 _ I1 q1) fun w2 s2 ⟨y,H2,I2,ry,q2⟩ =>
  ba (hr pins s2 σ H2 _ I2 q2) fun ws s3 ⟨ps,H3,I3,rel,q3⟩=>⟨(x,y)::ps,H3,I3,.cons ⟨rx,ry⟩ rel,q3⟩)
def eB (kvs more:List (Key×V)):List (Key×V):=more.foldl (fun acc kv=>putK acc kv.1 kv.2) kvs
theorem KV.merge:∀ {more:List (Key×V)} {rs:List (Key×Value)} {kvs:List (Key×V)} {vs:List (Key×Value)},KV more rs→KV kvs vs→KV (eB kvs more) (merged vs rs):=by
 intro more rs kvs vs r
 unfold KV at r
 induction r generalizing kvs vs with
 | nil=>intro q;exact q
 | @cons p q ps qs h t ih =>
  intro r0
  have e:KV (putK kvs p.1 p.2) (stored vs q.1 q.2):=by
   have:=r0.put p.1 h.2
   rw [← h.1];exact this
  exact ih e
theorem d7:∀ (more kvs:List (Key×V)),(eB kvs more).length≤kvs.length+more.length
 | [],kvs=>by show kvs.length≤kvs.length+0;omega
 | p::r,kvs=>by
  have h1:=d7 r (putK kvs p.1 p.2)
  have h2:=cg kvs p.1 p.2
  show (eB (putK kvs p.1 p.2) r).length≤_
  rw [List.length_cons];omega
theorem gO {P:Program} {w:World}:∀ {kvs:List (Key×V)} {ws:List (Value×Value)},VV (kvs.map fun kv=>(kV kv.1,kv.2)) ws→∃ rs,Carries (ax P w) ws rs∧KV kvs rs
 | [],_,r=>by rw [List.map_nil] at r;cases r;exact ⟨[],True.intro,.nil⟩
 | p::kvs,_,r=>by
  rw [List.map_cons] at r
  cases r with
  | @cons a b as bs h t =>
   obtain ⟨rs,c,q⟩:=gO (P:=P) (w:=w) t
   obtain ⟨b1,b2⟩:=b
   exact ⟨(p.1,b2)::rs,⟨j6 h.1,rfl,c⟩,.cons ⟨rfl,h.2⟩ q⟩
def uG (uD:List (TE×TE)):TE:=fun σ H Q=>∀ p,H p=none→lO uD σ (upd H p (.dK [])) fun ps H2=>H2 p=some (.dK [])∧∃ kvs:List (Key×V),ps=kvs.map (fun kv=>(kV kv.1,kv.2))∧kvs.length≤15∧Q (.ref p) (upd H2 p (.dK (eB [] kvs)))
theorem si {X:Cx} {pos:Pos} {keys:List (Option Expr)} {values:List Expr} {uD:List (TE×TE)} (h:A9 X pos keys values uD) (ml:keys.all (·.isSome)=true) (hl:keys.length=values.length) (h0:keys≠[])
  (Hf:keys.length≤15):PE X (.Dict keys values pos) (uG uD):=by
 intro pins s σ H Q I q
 have hn:=I.aH.fresh (Nat.le_refl s.heap.objs.size)
 have I1:=I.laid (a:=s.heap.objs.size) (o:=.dK []) (h':=s.heap.push { cls:=.type "dict",data:=.dict #[] }) (t':=s.toks) (fun _ _ q=>Heap.get?_push_of_some _ q) (Nat.le_refl _) (pP s.heap I.big)
 refine wpAny_Dict_walk (knd:=ax X.prog X.w) ml hl h0 Hf (ba (h pins _ σ _ _ I1 (q _ hn)) fun ws s2 ⟨ps,H2,I2,rel,e,kvs,ep,lk,q2⟩=>?_)
 subst ep
 obtain ⟨rs,c,rk⟩:=gO (P:=X.prog) (w:=X.w) rel
 obtain ⟨z,hd,vs0,r0,dd⟩:=u4 I2.aH e
 cases r0
 refine ⟨rs,c,dd,fun h' dd' hs=>⟨.ref s.heap.objs.size,_,?_,rfl,q2⟩⟩
 have hz:(eB [] kvs).length≤sizeLine:=by
  have h1:=d7 kvs []
  rw [List.length_nil] at h1
  rw [sizeLine_eq];omega
 have he:∃ q,h'.get? s.heap.objs.size=some q:=let ⟨q,_,_,hq,_⟩:=dd';⟨q,hq⟩
 exact gc I2 (by rw [e];exact True.intro) hs he (ph hz hd (rk.merge .nil) dd')
structure M2 (X:Cx) (o:Expr) (m:Str) (apos:Pos) (e f:Expr) (bF:Pos):Prop where
 base:attributeBase o m X.env (eval o X.env)=eval o X.env
 Bc:((backTo bF (starEach [e,f] X.env)).all (fun x=>!x.1)&&(backToKw bF (keywordEach [] X.env)).all (fun x=>x.1.isSome)
  && decide (([e,f]:List Expr).length+([]:List Keyword).length+(if ([]:List Keyword).isEmpty then 0 else 1) < 30))=true
 line:(apos.endLine == bF.line)=true
 trees:backTo bF (starEach [e,f] X.env)=[(false,eval e X.env),(false,eval f X.env)]
def FF (H:Hp) (a:Addr):Prop:=(∃ kvs,Rd H a (.dK kvs))∨∃ kvs,Rd H a (.dT kvs)
theorem xk {X:Cx} {pins:List (Addr×Obj)} {σ:St} {H:Hp} {s:Shared} {a:Addr} (I:Inv X pins σ H s) (d:FF H a) :
  s.TypeIs (.ref a) "dict"∧(∀ b,Value.ref a=.ref b→∃ ob,s.heap.get? b=some ob∧ob.dict=none)∧(a == sysModules)=false:=by
 rcases d with ⟨kvs,e⟩ | ⟨kvs,e⟩
 ·obtain ⟨_,hd,vs,_,dd⟩:=kF I.aH e
  refine ⟨dd.typeIs,fun b q=>?_,hd⟩
  cases q
  obtain ⟨ob,_,_,h1,h2,_⟩:=dd
  exact ⟨ob,h1,h2.2.1⟩
 ·obtain ⟨_,hd,xs,_,dd⟩:=kW I.aH e
  refine ⟨dd.typeIs,fun b q=>?_,hd⟩
  cases q
  obtain ⟨ob,_,_,h1,h2,_⟩:=dd
  exact ⟨ob,h1,h2.2.1⟩
section
variable {X:Cx} {pins:List (Addr×Obj)} {σ:St} {H:Hp} {s:Shared} {a:Addr} {y d:V} {u r:Value} {o:Option V} {A:Around} {E:Value→Shared→Prop}
theorem wj {Q:Value→Shared→Prop} (hu:A.units+1 < cLine) (I:Inv X pins σ H s) (g:dq H a y o) (ry:RelV y u) (rd:RelV d r) (h:∀ w' s',Inv X pins σ H s'→RelV (o.getD d) w'→Q w' s') :
  wpAny (model X.prog X.w) A (call (.builtin "dict.get") [.ref a,u,r]) Q E s:=by
 rcases g with ⟨kvs,k,e,ey,l⟩ | ⟨kvs,k,b,e,ey,eb,l⟩
 ·subst ey
  obtain ⟨z,hd,vs,rel,dd⟩:=kF I.aH e
  refine call_meetsIn PySem.F.slot_dict_get dd.typeIs PySem.F.entry_dict_get (PySem.F.args_dict_get_3 _ _ _) (meets_dict_get_default (ax X.prog X.w) a (j6 ry) hd r) ⟨_,dd.mapOf,h _ _ (I.tok _) ?_⟩
  rw [l]
  exact (rel.val k).getD rd
 ·subst ey
  cases (show u=Value.ref b from ry)
  obtain ⟨z,hd,xs,rel,dd⟩:=kW I.aH e
  refine call_meetsIn PySem.F.slot_dict_get dd.typeIs PySem.F.entry_dict_get (PySem.F.args_dict_get_3 _ _ _) (meetsH_dict_get_default (tupleKind (ax X.prog X.w)) a b hd r) ⟨tupleKind_room_in1 hu,k,xs,g8 I.aH eb,dd,h _ _ (I.tok _) ?_⟩
  rw [l]
  exact (rel.val k).getD rd
end
section
variable {X:Cx} {o e f:Expr} {apos bF:Pos} {td ty tx:TE}
end
section
variable {X:Cx} {pins:List (Addr×Obj)} {σ:St} {H:Hp} {s:Shared} {a:Addr} {kvs:List (Key×V)} {A:Around} {E:Value→Shared→Prop}
end
section
variable {X:Cx} {pins:List (Addr×Obj)} {σ:St} {H:Hp} {s:Shared} {a:Addr} {y:V} {u:Value} {A:Around} {E:Value→Shared→Prop}
end
end L2
namespace Ge
open PySem PySem.W PySem.Calls PyProof.Rows
theorem fS {P:Params} {h:Heap}:∀ (ns:List Int) (vs:List Value),WellAll P h vs (ns.map WData.int)→IntsAre vs ns:=by
 intro ns
 induction ns with
 | nil =>
  intro vs w
  rw [List.map_nil] at w
  cases w
  exact .nil
 | cons n ns ih =>
  intro vs w
  rw [List.map_cons] at w
  cases w with
  | cons a b =>
   cases a
   exact .cons _ _ (ih _ b)
theorem oe {l:OpenLaw} {n:Nat} (hn:l.most=some n) {P:Params} {h:Heap} {args:List WData} {vals:List Value}
  (oh:l.row.toRowW.claim.pre args=true) (rW:WellAll P h vals args) :
  ∃ a vs ns,vals=[Value.ref a]∧args=[WData.list (ns.map WData.int)]∧h.get? a=some { cls:=.type "list",data:=.seq vs.toArray }∧IntsAre vs ns∧ns.length≤n:=by
 have hsh:WShape.hasAll [] args [.list .int]=true:=(pre_splitW oh).1
 have hc:l.pre.holds [] { args:=args }=true:=(pre_splitW oh).2
 obtain ⟨d,r,rfl,h1,h2⟩:=hasAllW_cons hsh
 obtain rfl:=hasAllW_nil h2
 obtain ⟨xs,rfl,h3⟩:=hasW_list h1
 obtain ⟨ns,rfl⟩:=items_int h3
 have hlen:ns.length≤n:=by
  unfold OpenLaw.pre at hc
  have h4:(WTm.not (.lt (.lit (.int (n:Int))) (.len (.arg 0)))).holds [] { args:=[.list (ns.map .int)] }=true:=by
   have h4:=(holds_andW hc).1
   rw [hn] at h4
   exact h4
  have h5:=condW_of h4 (w_not (w_lt w_lit (w_len_list (w_arg rfl))))
  rw [List.length_map] at h5
  refine Nat.le_of_not_lt fun q=>?_
  have q':(n:Int) < ((ns.length:Nat):Int):=by omega
  first
   | (rw [decide_eq_true q'] at h5;exact absurd h5 (by decide))
   | (simp at h5;omega)
 cases rW with
 | cons w1 w2 =>
  cases w2
  cases w1 with
  | list ho ml=>exact ⟨_,_,ns,rfl,rfl,ho,fS ns _ ml,hlen⟩
theorem oi (l:OpenLaw) (args:List WData):l.row.toRowW.claim.post args (.bool true) args=true :=
 postW_of (r:=l.row.toRowW) (X:=(true == true))
  (show WShape.has [] (.bool true) .bool=true by first | rfl | decide | simp [WShape.has,WShape.arms,WShape.armsAll])
  (show (WTm.eq .res (.lit (.bool true))).value [] { args:=args,res:=some (.bool true),after:=args }=some (.bool (true == true)) from w_eq_bool (w_res rfl) w_lit) rfl
theorem lg {l:OpenLaw} {n:Nat} {q:Program} {loose:List Str} {XP:(Str→Option Value)→Heap→Prop} {YP:World→Heap→Prop} {d:DefRec}
  (hn:l.most=some n) (AN:d.params.defaults=[])
  (call:∀ (w:World) (s₀ s₁:Shared) (mg mb:Str→Option Value) (fa:Addr) (o:Obj) (pm cd doc:Value) (a:Addr) (vs:List Value) (ns:List Int),
   Ground q loose [] XP w s₀ mg mb s₁.heap→YP w s₁.heap →
   s₁.heap.get? fa=some o→o.data=.func (docDef d.name d.params d.body d.scope pm cd doc)→s₁.heap.CodeRec cd d.name→mg d.name=some (.ref fa) →
   s₁.heap.get? a=some { cls:=.type "list",data:=.seq vs.toArray }→IntsAre vs ns→ns.length≤n→s₁.gens=#[] →
   codeAny (model l.prog w) callerA (.call (.ref fa) ⟨[.ref a],[]⟩) (fun r s'=>r=.ok (.ret (.bool true))∧OldK s₁.heap s'.heap∧s'.os=s₁.os∧AllBare s'.gens) s₁) :
  WalkO q loose XP YP l.row.toRowW d [] (fun f vs=>PySem.call f vs):=by
 intro w s₀ s₁ mg mb G Y fa o pm cd doc dV kV ho hd fZ hD hmg hg args vals as oh hlay hrd rW hlo
 obtain rfl:dV=.none:=Dflts.none hD AN
 obtain rfl:kV=.none:=Dflts.noKw hD
 obtain ⟨a,vs,ns,rfl,rfl,hobj,hints,hlen⟩:=oe hn oh rW
 refine enter_call (codeAny_mono (call w s₀ s₁ mg mb fa o pm cd doc a vs ns G Y ho (fd_plain hd) fZ hmg hobj hints hlen hg) fun r s' hq=>?_)
 obtain ⟨rfl,h2,h3,h4⟩:=hq
 exact ⟨.inl ⟨.bool true,.bool true,[],rfl,fun _=>rfl,.bool true,oi l _,fun _=>⟨List.Pairwise.nil,fun _ hm=>(nomatch hm)⟩⟩,h2,h3,h4⟩
section
variable {prog:Program} {w:World} {A:Around} {E:Value→Shared→Prop} {s:Shared} {K:Frag}
end
end Ge
namespace L2
open PySem PySem.Spec PyProof.Rows
theorem ja:∀ {vs:List Value} {ns:List Int},IntsAre vs ns→Vals (ns.map V.int) vs
 | _,_,.nil=>.nil
 | _,_,.cons n t h=>.cons ⟨t,rfl⟩ (ja h)
end L2
namespace L2
open PySem PySem.Spec PyProof.Rows
end L2
namespace L2
open PySem PySem.Spec PyProof.Rows
def aA (s:Stmt):Arguments:=match s with
 | .FunctionDef _ a _ _ _ _ _ _ _ _=>a
 | _=>{ posonlyargs:=[],args:=[],vararg:=none,kwonlyargs:=[],kw_defaults:=[],kwarg:=none,defaults:=[] }
def ao (s:Stmt):List Stmt:=match s with
 | .FunctionDef _ _ b _ _ _ _ _ _ _=>b
 | _=>[]
def af (s:Stmt):Scope:=match s with
 | .FunctionDef _ _ _ _ _ _ sc _ _ _=>sc
 | _=>{ kind:=.function,names:=[],isGenerator:=false,isCoroutine:=false }
abbrev bz:qx:=fun _ _ _ _ _ _=>False
abbrev E0:XK:=fun _ _ _=>False
theorem ir {X:Cx}:Passes bz X E0:=fun _ _ _ _ _ _ _ h=>h.elim
structure cq (K:PySem.W.Frag) (x qual:Str) (st:Stmt) (f:Addr) (fd:FuncData):Prop where
 ex:∃ (oc:Value) (od:Option Addr) (kV doc pm:Value) (an:Option Addr) (bW ct:Value) (jV:Array (Option Value)),
  fd=PySem.W.fnOf x qual (aA st) (ao st) (af st) .none kV doc pm an bW ct∧K.lookup f=some ⟨oc,od,.func fd,jV⟩∧PySem.W.codeIn K bW qual=true
 kp:PySem.W.keepIn K (.ref f)=true
section
variable {P:Program} {w:World} {K:PySem.W.Frag} {mg:Str→Option Value} {base:Heap}
theorem cq.ok {x qual:Str} {st:Stmt} {f:Addr} {fd:FuncData} {N ps:List Str} {k:Nat} {sp:Sp} (F:cq K x qual st f fd) (S:aD N ps (af st)) (len:∀ vs H Q E,sp vs H Q E→vs.length=ps.length)
  (ko:∀ (bW:Value) (A:Around) (outer:List Env) (s:Shared) (H:Hp) (vs:List V) (Q:VK) (E:XK),bH k (A.deeper (envOfC qual (af st) s.heap.objs.size f bW))→sp vs H Q E →
   ∃ t,ic (ij bz P w K mg base N qual (af st) f bW A outer s H E).uP (ao st) t∧t { nx:=fun _ H'=>Q .aS H',rt:=Q } (start N vs) H):aw P w K mg base bz (k+1) f fd ps sp:=by
 obtain ⟨oc,od,kV,doc,pm,an,bW,ct,jV,rfl,lk,fZ⟩:=F.ex
 refine uT lk fZ S len fun A outer s H vs Q E hr lr=>?_
 obtain ⟨t,h,q⟩:=ko bW A outer s H vs Q E hr lr
 exact ⟨t,h.uP,q⟩
theorem cq.binds {x qual:Str} {st:Stmt} {f:Addr} {fd:FuncData} {ps:List Str} (F:cq K x qual st f fd)
  (h:∀ (kV doc pm:Value) (an:Option Addr) (bW ct:Value) (us:List Value),us.length=ps.length→bindArgs (PySem.W.fnOf x qual (aA st) (ao st) (af st) .none kV doc pm an bW ct) ⟨us,[]⟩=pure (ps.zip us)):Binds K fd ps []:=by
 obtain ⟨oc,od,kV,doc,pm,an,bW,ct,jV,rfl,lk,fZ⟩:=F.ex
 exact .all (h kV doc pm an bW ct)
theorem bO {x qual:Str} {st:Stmt} {f:Addr} {oc:Value} {od an:Option Addr} {jV:Array (Option Value)} {kV doc pm bW ct:Value} (l:K.lookup f=some ⟨oc,od,.func (PySem.W.fnOf x qual (aA st) (ao st) (af st) .none kV doc pm an bW ct),jV⟩)
  (c:PySem.W.codeIn K bW qual=true) (k:PySem.W.keepIn K (.ref f)=true):cq K x qual st f (PySem.W.fnOf x qual (aA st) (ao st) (af st) .none kV doc pm an bW ct):=⟨⟨oc,od,kV,doc,pm,an,bW,ct,jV,rfl,l,c⟩,k⟩
end
theorem kC {A:Around} {k:Nat} (hr:bH k A):A.units+1 < cLine:=Nat.lt_of_le_of_lt (Nat.add_le_add_left (by decide:1≤64) _) hr.units
section
variable {X:Cx}
theorem pv (i:Nat) {x:Str} {pos:Pos} (hN:X.N[i]?=some x:=by rfl) (hv:A3 X.env.scope x:=by first | exact Or.inl rfl | exact Or.inr (Or.inl rfl) | exact Or.inr (Or.inr rfl)) (hd:(x == ("__debug__":Str))=false:=by decide)
  (fZ:(x == ("__classdict__":Str))=false:=by decide):PE X (.Name x pos) (aM i):=wQ hN hv hd fZ
end
theorem lI {A B:Prop} (h:B):if false=true then A else B:=by
 rw [if_neg Bool.false_ne_true]
 exact h
theorem mm {A B:Prop} (h:A):if true=true then A else B:=by
 rw [if_pos rfl]
 exact h
theorem xQ {c A B:Prop} [Decidable c] (h1:c→A) (h2:¬ c→B):if c then A else B:=by
 by_cases h:c
 ·rw [if_pos h]
  exact h1 h
 ·rw [if_neg h]
  exact h2 h
def cy (H H':Hp):Prop:=∀ b o,H b=some o→H' b=some o
theorem cy.trans {H H1 H2:Hp} (a:cy H H1) (b:cy H1 H2):cy H H2:=fun c o h=>b c o (a c o h)
theorem cy.free {H H':Hp} (e:cy H H') {l:Addr} (h:H' l=Option.none):H l=Option.none:=by
 cases q:H l with
 | none=>rfl
 | some o =>
  rw [e l o q] at h
  cases h
theorem cy.seq {K:PySem.W.Frag} {H H':Hp} {a:Addr} {xs:List V} (e:cy H H') (h:bS K H a xs):bS K H' a xs:=by
 rcases h with (h | ⟨o,h⟩) | h
 ·exact .inl (.inl (e _ _ h))
 ·exact .inl (.inr ⟨o,e _ _ h⟩)
 ·exact .inr h
end L2
namespace L2
open PySem PySem.Spec PyProof.Rows
section
variable {X:Cx}
end
section
variable {κ:Type} [DecidableEq κ]
end
end L2
namespace L2
open PySem PySem.Spec PyProof.Rows
def cK (env:Env):List (Str×NameKind)→List (Str×Addr)→List (Str×Addr)
 | [],acc=>acc
 | (n,k)::r,acc=>if k == .free then cK env r ((n,(env.cells.lookup n).getD 0)::acc) else cK env r acc
def fk (env:Env) (x:Str×NameKind) (cs:List (Str×Addr)):Sem (ForInStep (List (Str×Addr))) :=
 if x.2 == .free then do
  let a ← cellOf env x.1
  pure (ForInStep.yield ((x.1,a)::cs))
 else pure (ForInStep.yield cs)
theorem fJ {env:Env}:∀ (l:List (Str×NameKind)) (acc:List (Str×Addr)),(∀ x∈l,x.2=.free→(env.cells.lookup x.1).isSome=true) →
  (forIn l acc (fk env):Sem (List (Str×Addr)))=pure (cK env l acc)
 | [],acc,_=>rfl
 | (n,k)::r,acc,h=>by
  have ih:=fun acc'=>fJ (env:=env) r acc' fun x hx=>h x (List.mem_cons_of_mem _ hx)
  rw [List.forIn_cons]
  by_cases hk:k=.free
  ·subst hk
   obtain ⟨c,hc⟩:=Option.isSome_iff_exists.mp (h (n,.free) List.mem_cons_self rfl)
   have e:cellOf env n=pure c:=by
    unfold cellOf
    rw [hc]
   have e2:fk env (n,NameKind.free) acc=pure (ForInStep.yield ((n,c)::acc)):=by
    show (if (NameKind.free == NameKind.free)=true then (cellOf env n >>= fun a=>pure (ForInStep.yield ((n,a)::acc))) else pure (ForInStep.yield acc))=_
    rw [if_pos (by decide),e]
    rfl
   have e3:cK env ((n,NameKind.free)::r) acc=cK env r ((n,c)::acc):=by
    show (if (NameKind.free == NameKind.free)=true then cK env r ((n,(env.cells.lookup n).getD 0)::acc) else cK env r acc)=_
    rw [if_pos (by decide),hc]
    rfl
   rw [e2,e3,← ih]
   rfl
  ·have hb:(k == NameKind.free)=false:=by simpa using hk
   have e2:fk env (n,k) acc=pure (ForInStep.yield acc):=by
    show (if (k == NameKind.free)=true then (cellOf env n >>= fun a=>pure (ForInStep.yield ((n,a)::acc))) else pure (ForInStep.yield acc))=_
    rw [if_neg (by simp [hb])]
   have e3:cK env ((n,k)::r) acc=cK env r acc:=by
    show (if (k == NameKind.free)=true then cK env r ((n,(env.cells.lookup n).getD 0)::acc) else cK env r acc)=_
    rw [if_neg (by simp [hb])]
   rw [e2,e3,← ih]
   rfl
theorem d9 {scope:Scope} {env:Env} (h:∀ x∈scope.names,x.2=.free→(env.cells.lookup x.1).isSome=true):closureFor scope env=pure (cK env scope.names []):=by
 rw [← fJ scope.names [] h]
 unfold closureFor
 have:(fun (x:Str×NameKind) (r:List (Str×Addr))=>fk env x r)=fk env:=rfl
 first
  | (simp only [fk];rfl)
  | (show (forIn scope.names [] _ >>= fun r=>pure r)=_;rw [bind_pure];rfl)
  | rfl
theorem dE {env:Env} {x:Str} {c:Addr}:∀ {l:List (Str×NameKind)} {acc:List (Str×Addr)},(∀ y∈l,y.2=.free→(env.cells.lookup y.1).isSome=true) →
  (cK env l acc).lookup x=some c→env.cells.lookup x=some c∨acc.lookup x=some c
 | [],acc,_,h=>.inr h
 | (n,k)::r,acc,hl,h=>by
  have hl':=fun y hy=>hl y (List.mem_cons_of_mem _ hy)
  unfold cK at h
  by_cases hk:k=.free
  ·subst hk
   rw [if_pos (by decide)] at h
   obtain ⟨d,hd⟩:=Option.isSome_iff_exists.mp (hl (n,.free) List.mem_cons_self rfl)
   rw [hd] at h
   rcases dE hl' h with q | q
   ·exact .inl q
   ·rw [List.lookup_cons] at q
    cases e:x == n with
    | true =>
     rw [e] at q
     have e':x=n:=eq_of_beq e
     subst e'
     left
     rw [hd]
     exact q
    | false =>
     rw [e] at q
     exact .inr q
  ·rw [if_neg (by simpa using hk)] at h
   exact dE hl' h
theorem gg {env:Env} {x:Str}:∀ {l:List (Str×NameKind)} {acc:List (Str×Addr)},(acc.lookup x).isSome=true→((cK env l acc).lookup x).isSome=true
 | [],acc,h=>h
 | (n,k)::r,acc,h=>by
  unfold cK
  split
  ·refine gg ?_
   rw [List.lookup_cons]
   cases e:x == n with
   | true=>rfl
   | false=>exact h
  ·exact gg h
theorem gF {env:Env} {x:Str}:∀ {l:List (Str×NameKind)} {acc:List (Str×Addr)},(x,NameKind.free)∈l→((cK env l acc).lookup x).isSome=true
 | (n,k)::r,acc,h=>by
  unfold cK
  rcases List.mem_cons.mp h with e | h'
  ·cases e
   rw [if_pos (by decide)]
   exact gg (by rw [List.lookup_cons,beq_self_eq_true];rfl)
  ·split<;>exact gF h'
def DQ (env:Env) (x:Str×NameKind):Str×NameKind:=if (x.2 == NameKind.free&&env.scope.kind == .function&&env.kindOf x.1 == some .cell)=true then (x.1,NameKind.cell) else (x.1,x.2)
theorem gT {env:Env} {x:Str} {k:NameKind}:∀ {names:List (Str×NameKind)},(names.map (DQ env)).lookup x=some k→names.lookup x=some k∨(names.lookup x=some .free∧k=.cell)
 | [],h=>by simp at h
 | (n,k0)::r,h=>by
  have ih:=@gT env x k r
  rw [List.map_cons] at h
  by_cases hc:(k0 == NameKind.free&&env.scope.kind == .function&&env.kindOf n == some .cell)=true
  ·have e:DQ env (n,k0)=(n,NameKind.cell):=if_pos hc
   rw [e,List.lookup_cons] at h
   rw [List.lookup_cons]
   cases e:x == n with
   | true =>
    rw [e] at h
    have hk:k0=.free:=by
     rw [Bool.and_eq_true,Bool.and_eq_true] at hc
     exact eq_of_beq hc.1.1
    subst hk
    right
    exact ⟨rfl,(Option.some.inj h).symm⟩
   | false =>
    rw [e] at h
    exact ih h
  ·have e:DQ env (n,k0)=(n,k0):=if_neg hc
   rw [e,List.lookup_cons] at h
   rw [List.lookup_cons]
   cases e:x == n with
   | true =>
    rw [e] at h
    exact .inl h
   | false =>
    rw [e] at h
    exact ih h
theorem cG {env:Env} {x:Str} {scope:Scope} {k:NameKind} (h:(relabel scope env).names.lookup x=some k) :
  scope.names.lookup x=some k∨(scope.names.lookup x=some .free∧k=.cell):=gT (env:=env) h
section
variable {prog:Program} {w:World} {A:Around} {R:Result→Shared→Prop} {s:Shared}
theorem jN {elt target iter:Expr} {ifs:List Expr} {scope:Scope} {pos:Pos} {it acc:Value} {env:Env} (I:Nat→Shared→Prop)
  (turn:∀ n s,I n s→wpAny (model prog w) A (pyNext it) (fun r s₁=>match r with
   | none=>R (.ok .next) s₁
   | some v=>wpAny (model prog w) A (letOwnedTupleGo target it v) (fun _ s₁'=>wpAny (model prog w) A (assign target env v) (fun _ s₂ =>
     wpAny (model prog w) A (forIn ifs true fun c r=>if r=true then do let ok ← isTrue c env (eval c env);pure (ForInStep.yield ok) else pure (ForInStep.yield r)) (fun ok s₃ =>
      if ok=true then wpAny (model prog w) A (eval elt env) (fun x s₄ =>
       wpAny (model prog w) A (call (.builtin "list.append") [acc,x]) (fun _ s₅=>∃ m,m < n∧I m s₅) (notedBy (model prog w) A env fun e s'=>R (.error e) s') s₄) (notedBy (model prog w) A env fun e s'=>R (.error e) s') s₃
      else ∃ m,m < n∧I m s₃) (notedBy (model prog w) A env fun e s'=>R (.error e) s') s₂) (notedBy (model prog w) A env fun e s'=>R (.error e) s') s₁') (notedBy (model prog w) A env fun e s'=>R (.error e) s') s₁)
   (notedBy (model prog w) A env fun e s'=>R (.error e) s') s)
  (n:Nat) (h:I n s) :
  codeAny (model prog w) A (.compLoop (.ListComp elt [⟨target,iter,ifs,0⟩] scope pos) 0 it acc env) R s:=by
 refine codeAny_loop rfl I (fun n s hI=>?_) n h
 show wpAny _ A ((compTurn (.ListComp elt [⟨target,iter,ifs,0⟩] scope pos) 0 it acc env).onRaise (fun x=>do noteFrame x env;theTreesLotGoes x)) _ _ s
 refine wpAny_noted ?_
 rw [compTurn_list]
 refine wpAny_bind (wpAny_standAt (wpAny_bind (wpAny_mono (turn n s hI) (fun r s₁ h₁=>?_) fun _ _ h'=>h')))
 cases r with
 | none=>exact wpAny_pure h₁
 | some v =>
  refine wpAny_bind (wpAny_mono h₁ (fun _ s₁' h₁'=>?_) fun _ _ h'=>h')
  refine wpAny_bind (wpAny_mono h₁' (fun _ s₂ h₂=>wpAny_bind (wpAny_mono h₂ (fun ok s₃ h₃=>?_) fun _ _ h'=>h')) fun _ _ h'=>h')
  cases ok with
  | false=>exact wpAny_pure ⟨rfl,h₃⟩
  | true =>
   exact wpAny_bind (wpAny_bind (wpAny_mono h₃ (fun x s₄ h₄=>wpAny_bind (wpAny_mono h₄ (fun _ s₅ h₅=>wpAny_pure (wpAny_pure ⟨rfl,h₅⟩)) fun _ _ h'=>h')) fun _ _ h'=>h'))
end
def lift (nt:Nat) (us:List Nat) (σ:St):St:=List.replicate nt none++us.map fun j=>(σ[j]?).join
def kG (ts:List Str) (us:List Nat) (N:List Str):List Str:=ts++us.map fun j=>N.getD j ""
def Cx.comp (X:Cx) (ts:List Str) (us:List Nat) (scope:Scope) (C:Addr) (s:Shared) (H:Hp) (fp:List Addr):Cx :=
 { X with N:=kG ts us X.N,s₀:=s,H₀:=H,env:=compEnvC scope (cK X.env scope.names []) C X.env,outer:=X.stack,ex:=fp,fn:=fun _=>false,pn:=[],xe:=fun _ _=>False }
def yw (X:Cx) (ifs:List Expr) (t:TT):Prop :=
 ∀ (pins:List (Addr×Obj)) (s:Shared) (σ:St) (H:Hp) (Q:Bool→Hp→Prop),Inv X pins σ H s→t σ H Q →
  wpAny (model X.prog X.w) X.A (forIn ifs true fun c r=>if r=true then do let ok ← isTrue c X.env (eval c X.env);pure (ForInStep.yield ok) else pure (ForInStep.yield r)) (TP X pins σ Q) X.xe s
def uS:TT:=fun _ H Q=>Q true H
theorem mP {X:Cx}:yw X [] uS:=fun _ _ _ H _ I h=>wpAny_tests_nil ⟨H,I,h⟩
theorem sD {X:Cx} {c:Expr} {t:TT} (hc:PT X c t):yw X [c] t:=fun pins s σ H Q I h=>wpAny_tests_one (hc pins s σ H Q I h)
structure aL (X:Cx) (ts:List Str) (us:List Nat) (scope:Scope):Prop where
 kind:scope.kind=.function
 vH:(scope.names.all fun x=>x.2 != .cell)=true
 loc:(scope.names.all fun x=>x.2 != .local||scope.names.lookup x.1 == some .local)=true
 free:(scope.names.all fun x=>x.2 != .free||(X.env.cells.lookup x.1).isSome)=true
 Hu:(ts.all fun x=>scope.names.lookup x == some .local)=true
 Hj:(us.all fun j=>match X.N[j]? with | some x=>scope.names.lookup x == some .free&&(X.env.kindOf x == some .cell||X.env.kindOf x == some .free) | none=>false)=true
section
variable {X:Cx} {ts:List Str} {us:List Nat} {scope:Scope}
theorem aL.nc (S:aL X ts us scope):∀ x∈scope.names,x.2≠.cell:=fun x hx e=>by
 have q:=List.all_eq_true.mp S.vH x hx
 rw [e] at q
 exact absurd q (by decide)
theorem aL.lc (S:aL X ts us scope):∀ x∈scope.names,x.2=.local→scope.names.lookup x.1=some .local:=fun x hx e=>by
 have q:=List.all_eq_true.mp S.loc x hx
 rw [e] at q
 have q':(scope.names.lookup x.1 == some .local)=true:=by simpa using q
 exact eq_of_beq q'
theorem aL.fr (S:aL X ts us scope):∀ x∈scope.names,x.2=.free→(X.env.cells.lookup x.1).isSome=true:=fun x hx e=>by
 have q:=List.all_eq_true.mp S.free x hx
 rw [e] at q
 simpa using q
theorem aL.yA (S:aL X ts us scope) {j:Nat} (hj:j∈us):∃ x,X.N[j]?=some x∧scope.names.lookup x=some .free∧(X.env.kindOf x=some .cell∨X.env.kindOf x=some .free):=by
 have q:=List.all_eq_true.mp S.Hj j hj
 cases e:X.N[j]? with
 | none=>rw [e] at q;exact absurd (show false=true from q) Bool.false_ne_true
 | some x =>
  rw [e] at q
  have q:(scope.names.lookup x == some .free&&(X.env.kindOf x == some .cell||X.env.kindOf x == some .free))=true:=q
  rw [Bool.and_eq_true,Bool.or_eq_true] at q
  exact ⟨x,rfl,eq_of_beq q.1,q.2.imp eq_of_beq eq_of_beq⟩
theorem qo {pins:List (Addr×Obj)} {σ:St} {H:Hp} {s:Shared} {fp:List Addr} {h₁:Heap} {t:Nat} {m:Str→Option Value} (S:aL X ts us scope) (I:Inv X pins σ H s) (hf:∀ b∈fp,dO X pins H b) (AW:∀ b∈fp,b < s.heap.objs.size)
  (uc:h₁.Ns s.heap.objs.size m) (keep:∀ b o,s.heap.get? b=some o→h₁.get? b=some o) :
  Inv (X.comp ts us scope s.heap.objs.size s H fp) [] (lift ts.length us σ) H { s with heap:=h₁,toks:=t }:=by
 have cl:∀ x c,(cK X.env scope.names []).lookup x=some c→X.env.cells.lookup x=some c:=fun x c e=>by
  rcases dE S.fr e with q | q
  ·exact q
  ·simp at q
 have kd:∀ x,((relabel scope X.env).names.lookup x=some .cell∨(relabel scope X.env).names.lookup x=some .free)→scope.names.lookup x=some .free:=fun x hx=>by
  rcases hx with hx | hx
  ·rcases cG hx with q | q
   ·exact absurd rfl (S.nc _ (PySem.mem_of_lookup q))
   ·exact q.1
  ·rcases cG hx with q | q
   ·exact q
   ·cases q.2
 have ok:(X.comp ts us scope s.heap.objs.size s H fp).Ok:=by
  refine ⟨I.ok.mod,S.kind,I.ok.glob,I.ok.blt,Nat.le_refl _,fun x y c e1 e2=>I.ok.inj x y c (cl x c e1) (cl y c e2),fun x hx=>?_,fun x c e=>?_,I.ok.hd,I.ok.frames,.inl rfl,fun b hb=>?_,I.bs,Nat.le_trans I.ok.rH I.sz,fun b o e hb=>?_,fun b hb hb2=>?_,I.stack,I.f7⟩
  ·have q:=kd x hx
   exact Option.isSome_iff_exists.mp (gF (PySem.mem_of_lookup q))
  ·cases (show (false:Bool)=true from e)
  ·obtain ⟨f0,f1,f2,f3,f4,f5⟩:=hf b hb
   exact ⟨Nat.ne_of_lt (AW b hb),fun x c e=>f4 x c (cl x c e)⟩
  ·obtain ⟨f0,f1,f2,f3,f4,f5⟩:=hf b hb
   rcases f3 with z | z
   ·exact I.ok.p8 b o e z
   ·exact absurd (Nat.lt_of_lt_of_le (Heap.lt_size e) (Nat.le_trans I.ok.rH z)) (Nat.lt_irrefl _)
  ·obtain ⟨f0,f1,f2,f3,f4,f5⟩:=hf b hb
   rcases List.mem_cons.mp (I.gy b hb2) with z | z
   ·exact f1 z
   ·exact f2 z
 refine ⟨ok,rfl,I.bare,Un.kept keep,⟨m,uc,fun i x v h1 h2 h3=>?_⟩,fun x c e=>?_,I.aH.fresh (Nat.le_refl _),fun x c e=>I.cQ x c (cl x c e),fun p hp=>absurd (show p∈([]:List (Addr×Obj)) from hp) (by simp),I.aH.kept keep,?_⟩
 ·have h1:(kG ts us X.N)[i]?=some x:=h1
  have h2:(lift ts.length us σ)[i]?=some (some v):=h2
  by_cases hi:i < ts.length
  ·unfold lift at h2
   rw [List.getElem?_append_left (by simpa using hi),List.getElem?_replicate] at h2
   split at h2<;>cases h2
  ·have lu:ts.length≤i:=Nat.le_of_not_lt hi
   unfold lift at h2
   unfold kG at h1
   rw [List.getElem?_append_right (by simpa using lu),List.length_replicate,List.getElem?_map] at h2
   rw [List.getElem?_append_right lu,List.getElem?_map] at h1
   cases ej:us[i - ts.length]? with
   | none=>rw [ej] at h1;cases h1
   | some j =>
    rw [ej] at h1 h2
    obtain ⟨y,hy,hyf,hyk⟩:=S.yA (List.mem_of_getElem? ej)
    have e1:X.N.getD j ""=x:=Option.some.inj h1
    have e2:X.N.getD j ""=y:=by rw [List.getD_eq_getElem?_getD,hy];rfl
    have exy:y=x:=e2.symm.trans e1
    subst exy
    have e3:(σ[j]?).join=some v:=Option.some.inj h2
    have e4:σ[j]?=some (some v):=by
     cases q:σ[j]? with
     | none=>rw [q] at e3;cases e3
     | some z =>
      rw [q] at e3
      have:z=some v:=e3
      rw [this]
    obtain ⟨m0,hn0,hl0⟩:=I.loc
    have hvis:A3 X.env.scope y:=.inr hyk
    obtain ⟨u,r,l⟩:=hl0 j y v hy e4 hvis
    refine ⟨u,r,?_⟩
    rcases l with ⟨k1,_⟩ | ⟨k1,c,hc,hcell⟩
    ·rcases hyk with z | z
     ·rw [k1] at z;cases z
     ·rw [k1] at z;cases z
    ·refine .inr ⟨?_,c,?_,?_⟩
     ·have h3:(relabel scope X.env).names.lookup y=some .local∨(relabel scope X.env).names.lookup y=some .cell∨(relabel scope X.env).names.lookup y=some .free:=h3
      rcases h3 with z | z
      ·rcases cG z with q | q
       ·rw [hyf] at q;cases q
       ·cases q.2
      ·exact z
     ·obtain ⟨c',hc'⟩:=Option.isSome_iff_exists.mp (gF (env:=X.env) (acc:=[]) (PySem.mem_of_lookup hyf))
      have q:=cl y c' hc'
      rw [hc] at q
      cases q
      exact hc'
     ·obtain ⟨o,ho,hd⟩:=hcell
      exact ⟨o,keep c o ho,hd⟩
 ·obtain ⟨v,o,ho,hd⟩:=I.cell x c (cl x c e)
  exact ⟨v,o,keep c o ho,hd⟩
 ·show (lift ts.length us σ).length=(kG ts us X.N).length
  unfold lift kG
  rw [List.length_append,List.length_append,List.length_replicate,List.length_map,List.length_map]
def pD (σ σ':St):Prop:=∀ (i:Nat) (v:V),σ[i]?=some (some v)→σ'[i]?=some (some v)
theorem pO {nt i:Nat} {us:List Nat} {σ:St} {x:Option V} (hi:i < nt):pD (lift nt us σ) ((lift nt us σ).set i x):=fun j v e=>by
 by_cases hj:j=i
 ·subst hj
  unfold lift at e
  rw [List.getElem?_append_left (by simpa using hi),List.getElem?_replicate] at e
  split at e<;>cases e
 ·rw [List.getElem?_set_ne (Ne.symm hj)]
  exact e
def lS (nt:Nat) (us:List Nat) (σ:St) (g:TG) (ti:TT) (te:TE) (J:It) (H1:Hp) (Q:VK):Prop :=
 ∀ D,H1 D=none→∃ W:Nat→Nat→List V→Hp→Prop,(∃ m,W 0 m [] (upd H1 D (.lst [])))∧∀ i m ys H2,W i m ys H2→H2 D=some (.lst ys) ∧
  ((J.stop i H2∧Q (.ref D) H2)∨(J.go i H2∧ys.length < sizeLine∧∀ x H3,J.yk i H2 x H3→g x (lift nt us σ) H3 fun σ4 H4=>pD (lift nt us σ) σ4∧ti σ4 H4 fun b H5 =>
    if b=true then te σ4 H5 fun y H6=>H6 D=some (.lst ys)∧∃ m',m' < m∧W (i+1) m' (ys++[y]) (upd H6 D (.lst (ys++[y]))) else ∃ m',m' < m∧W (i+1) m' ys H5))
def kZ (nt:Nat) (us:List Nat) (wi:TI) (g:TG) (ti:TT) (te:TE):TE:=fun σ H Q=>wi σ H fun J H1=>lS nt us σ g ti te J H1 Q
theorem gU {tg elt iter:Expr} {ifs:List Expr} {pos:Pos} {g:TG} {ti:TT} {te:TE} {pins:List (Addr×Obj)} {σ:St} {H:Hp} {s:Shared} {it:Addr} {fp:List Addr} {tn:Nat→Heap→Prop} {J:It} {Q:VK} {E:Value→Shared→Prop} {RR:Value→Addr→Result→Shared→Prop}
  (S:aL X ts us scope) (hc:X.calm=true) (I:Inv X pins σ H s) (T:Turn X.prog X.w X.K tg J fp it tn) (st:tn 0 s.heap) (hf:∀ b∈fp,dO X pins H b)
  (hg:∀ C s H fp,PG (X.comp ts us scope C s H fp) tg g) (vR:∀ C s H fp,yw (X.comp ts us scope C s H fp) ifs ti) (he:∀ C s H fp,PE (X.comp ts us scope C s H fp) elt te)
  (q:lS ts.length us σ g ti te J H Q)
  (GJ:∀ D C s' H',Inv X pins σ H' s'→(∃ m,s'.heap.Ns C m)→dO X pins H' C→Q (.ref D) H'→RR (.ref D) C (.ok .next) s') :
  wpAny (model X.prog X.w) X.A (newList []) (fun acc s₃=>wpAny (model X.prog X.w) X.A (newFunctionEnv scope X.env.globals (cK X.env scope.names []) [] X.env.qual none .none (some X.env)) (fun cenv s₄ =>
   codeAny (model X.prog X.w) X.A (.compStart (.ListComp elt [⟨tg,iter,ifs,0⟩] scope pos) 0 (.ref it) acc { cenv with scope:=relabel scope X.env }) (RR acc cenv.locals) s₄) E s₃) E s:=by
 refine wpAny_newObj_type (wpAny_newFunctionEnv S.nc (by intro y hy;simp at hy) (fun h₁ hns₁ hsb₁=>?_) S.kind)
 dsimp only at hns₁ hsb₁ ⊢
 have I3:Inv X pins σ (upd H s.heap.objs.size (.lst [])) { s with heap:=s.heap.push { cls:=.type "list",data:=.seq ([]:List Value).toArray } }:=I.FH (its:=[]) (ys:=[]) (t':=s.toks) .nil (Nat.zero_le _)
 have AW:∀ b∈fp,b < s.heap.objs.size:=fun b hb=>by
  obtain ⟨o,e,_⟩:=T.obj 0 _ st b hb
  exact Heap.lt_size e
 have hf3:∀ b∈fp,dO X pins (upd H s.heap.objs.size (.lst [])) b:=fun b hb=>by
  obtain ⟨f0,fr⟩:=hf b hb
  exact ⟨by rw [ag (Nat.ne_of_lt (AW b hb))];exact f0,fr⟩
 generalize hs3:({ s with heap:=s.heap.push { cls:=.type "list",data:=.seq ([]:List Value).toArray } }:Shared)=s3 at I3
 have hs3h:s3.heap=s.heap.push { cls:=.type "list",data:=.seq ([]:List Value).toArray }:=by rw [← hs3]
 have keep:∀ b o,s3.heap.get? b=some o→h₁.get? b=some o:=fun b o e=>by
  rw [hs3h] at e
  exact hsb₁.extBut b o (Nat.ne_of_lt (Heap.lt_size e)) (Heap.get?_push_of_some _ e)
 have keep0:∀ b o,s.heap.get? b=some o→h₁.get? b=some o:=fun b o e=>keep b o (by rw [hs3h];exact Heap.get?_push_of_some _ e)
 obtain ⟨W,⟨m0,w0⟩,turn⟩:=q s.heap.objs.size (I.aH.fresh (Nat.le_refl _))
 have hC:(s.heap.push { cls:=.type "list",data:=.seq ([]:List Value).toArray }).objs.size=s3.heap.objs.size:=by rw [hs3h]
 have hfl3:∀ b∈fp,b < s3.heap.objs.size:=fun b hb=>by
  rw [hs3h,Heap.size_push]
  exact Nat.lt_succ_of_lt (AW b hb)
 have hns3:h₁.Ns s3.heap.objs.size (fun x=>([]:List (Str×Value)).reverse.lookup x):=by rw [← hC];exact hns₁
 have I4:∀ t,Inv (X.comp ts us scope s3.heap.objs.size s3 (upd H s.heap.objs.size (.lst [])) fp) [] (lift ts.length us σ) (upd H s.heap.objs.size (.lst [])) { s3 with heap:=h₁,toks:=t }:=fun t=>qo S I3 hf3 hfl3 hns3 keep
 have BY:tn 0 h₁:=T.keep 0 _ _ st fun b _ o e=>keep0 b o e
 have loop:∀ s₄:Shared,(∃ t,s₄={ s3 with heap:=h₁,toks:=t }) →
   codeAny (model X.prog X.w) X.A (.compLoop (.ListComp elt [⟨tg,iter,ifs,0⟩] scope pos) 0 (.ref it) (.ref s.heap.objs.size) (compEnvC scope (cK X.env scope.names []) s3.heap.objs.size X.env)) (RR (.ref s.heap.objs.size) s3.heap.objs.size) s₄:=by
  rintro s₄ ⟨t4,rfl⟩
  have stat:∀ {H':Hp},(∀ b∈fp,H' b=none)→∀ b∈fp,dO (X.comp ts us scope s3.heap.objs.size s3 (upd H s.heap.objs.size (.lst [])) fp) [] H' b:=fun {H'} hn b hb=>by
   have ok:=(I4 0).ok
   exact ⟨hn b hb,(ok.Bi b hb).1,ok.rN b hb,.inl hb,(ok.Bi b hb).2,fun p hp=>absurd (show p∈([]:List (Addr×Obj)) from hp) (by simp)⟩
  refine jN (fun n s'=>∃ i ys H',Inv (X.comp ts us scope s3.heap.objs.size s3 (upd H s.heap.objs.size (.lst [])) fp) [] (lift ts.length us σ) H' s'∧tn i s'.heap∧(∀ b∈fp,H' b=none)∧W i n ys H') ?_ m0
   ⟨0,[],_,I4 t4,BY,fun b hb=>(hf3 b hb).1,w0⟩
  rintro n s5 ⟨i,ys,H5,I5,st5,fr5,w5⟩
  obtain ⟨hD,hturn⟩:=turn i n ys H5 w5
  rcases hturn with ⟨stop,qn⟩ | ⟨go,hlen,step⟩
  ·refine ba (T.done (X.comp ts us scope s3.heap.objs.size s3 (upd H s.heap.objs.size (.lst [])) fp) rfl rfl rfl hc i [] s5 (lift ts.length us σ) H5 _ I5 (stat fr5) st5 stop) fun r s6 ⟨hr,I6⟩=>?_
   subst hr
   have I7:Inv X pins σ H5 s6:=I3.zd (ch:=fp) I6.os I6.base I6.aH I6.bare fun b hb=>by
    obtain ⟨f0,f1,f2,f3,f4,f5⟩:=hf3 b hb
    exact ⟨f3,f1,f4,f5⟩
   obtain ⟨m6,hn6,_⟩:=I6.loc
   exact GJ _ _ s6 H5 I7 ⟨m6,hn6⟩ (I3.lW (Nat.le_refl _) I6.free) qn
  ·refine ba (T.item (X.comp ts us scope s3.heap.objs.size s3 (upd H s.heap.objs.size (.lst [])) fp) rfl rfl rfl hc i [] s5 (lift ts.length us σ) H5 _ I5 (stat fr5) st5 go) fun r s6 ⟨u,hr,h6⟩=>?_
   subst hr
   refine ba h6 fun _ s7 ⟨x,H7,I7,r7,y7,st7,fr7⟩=>?_
   have I7':=I7.pinned (stat fr7) (T.obj _ _ st7)
   refine wpAny_mono (hg _ _ _ _ _ s7 (lift ts.length us σ) H7 x u _ I7' r7 (step x H7 y7)) (fun _ s8 ⟨σ8,H8,I8,kp8,q8⟩=>?_) fun _ _ z=>False.elim z
   refine wpAny_mono (vR _ _ _ _ _ s8 σ8 H8 _ I8 q8) (fun b s9 ⟨H9,I9,q9⟩=>?_) fun _ _ z=>False.elim z
   have fin:∀ {s':Shared} {H':Hp} {EZ:List V},Inv (X.comp ts us scope s3.heap.objs.size s3 (upd H s.heap.objs.size (.lst [])) fp) ([]++gZ fp s7.heap) σ8 H' s'→(∃ m',m' < n∧W (i+1) m' EZ H') →
     ∃ m,m < n∧∃ i ys H',Inv (X.comp ts us scope s3.heap.objs.size s3 (upd H s.heap.objs.size (.lst [])) fp) [] (lift ts.length us σ) H' s'∧tn i s'.heap∧(∀ b∈fp,H' b=none)∧W i m ys H':=fun {s' H' EZ} J' ⟨m',hm,w'⟩=>by
    refine ⟨m',hm,i+1,EZ,H',J'.eR.weak ?_ kp8,T.keep _ _ _ st7 fun b hb o e=>(J'.pin (b,o) (List.mem_append_right _ (List.mem_append_right _ (c6 hb e)))).1,fun b hb=>?_,w'⟩
    ·rw [J'.len,I7.len]
    ·obtain ⟨o,e,d⟩:=T.obj _ _ st7 b hb
     exact (J'.pin (b,o) (List.mem_append_right _ (List.mem_append_right _ (c6 hb e)))).2.1
   cases b with
   | false =>
    rw [if_neg Bool.false_ne_true] at q9 ⊢
    exact fin I9 q9
   | true =>
    rw [if_pos rfl] at q9 ⊢
    refine wpAny_mono (he _ _ _ _ _ s9 σ8 H9 _ I9 q9) (fun yv s10 ⟨y,H10,I10,r10,hD10,q10⟩=>?_) fun _ _ z=>False.elim z
    refine wpAny_mono (cY (X:=X.comp ts us scope s3.heap.objs.size s3 (upd H s.heap.objs.size (.lst [])) fp) _ s10 σ8 H10 (.ref s.heap.objs.size) [y] (.ref s.heap.objs.size) [yv] (fun _ H'=>∃ m',m' < n∧W (i+1) m' (ys++[y]) H') I10 rfl (.cons r10 .nil) ⟨_,ys,y,rfl,rfl,hD10,hlen,q10⟩) (fun _ s11 ⟨_,H11,I11,_,q11⟩=>?_) fun _ _ z=>False.elim z
    exact fin I11 q11
 have e4:({ s with heap:=h₁,toks:=s.toks+([]:List (Str×Value)).length }:Shared)={ s3 with heap:=h₁,toks:=s.toks+([]:List (Str×Value)).length }:=by rw [← hs3]
 first
  | (rw [e4,hC];exact codeAny_compStart_list (loop _ ⟨_,rfl⟩) (T.self _ 0 _ _ _ BY (loop _ ⟨_,rfl⟩)))
  | (have L4:=codeAny_compStart_list (elt:=elt) (target:=tg) (iter:=iter) (ifs:=ifs) (rest:=[]) (scope:=scope) (pos:=pos) (loop _ ⟨s.toks+([]:List (Str×Value)).length,rfl⟩) (T.self _ 0 _ _ _ BY (loop _ ⟨s.toks+([]:List (Str×Value)).length,rfl⟩))
     subst hs3
     exact L4)
theorem nN {tg elt iter:Expr} {ifs:List Expr} {pos:Pos} {wi:TI} {g:TG} {ti:TT} {te:TE} (S:aL X ts us scope) (hc:X.calm=true) (hi:PI X tg iter wi)
  (hg:∀ C s H fp,PG (X.comp ts us scope C s H fp) tg g) (vR:∀ C s H fp,yw (X.comp ts us scope C s H fp) ifs ti) (he:∀ C s H fp,PE (X.comp ts us scope C s H fp) elt te)
  (hs:∀ x,foldedSetIterable iter X.env x=pure x:=by intro _;rfl):PE X (.ListComp elt [⟨tg,iter,ifs,0⟩] scope pos) (kZ ts.length us wi g ti te):=by
 intro pins s σ H Q I h
 rw [eval_ListComp]
 refine wpAny_comprehension_free (use:=none) rfl hs (d9 S.fr) S.kind S.lc (ba (hi pins s σ H _ I h) fun v s1 h1=>ba h1 fun AZ s2 h2=>?_)
 obtain ⟨it,fp,tn,J,H2,e,I2,T,zE,f2,q⟩:=h2
 subst e
 refine gU (RR:=fun acc C=>compPost (model X.prog X.w) X.A X.xe none (EP X pins σ Q) acc C) S hc I2 T zE f2 hg vR he q ?_
 intro D C s' H' I' hn F q'
 obtain ⟨m,hn⟩:=hn
 obtain ⟨f0,f1,f2,f3,f4,f5⟩:=F
 refine ⟨m,hn,fun h' sb=>?_⟩
 have I8:Inv X pins σ H' { s' with heap:=h' }:=I'.turned (t':=s'.toks) (fun b o hb e=>(sb.2 b hb).trans e) f0 f1 f3 f4 f5
 exact ⟨.ref D,H',I8,rfl,q'⟩
theorem t7 {i:Nat} {x:Str} {tg elt iter:Expr} {ifs:List Expr} {pos px zL:Pos} {wi:TI} {g:TG} {ti:TT} {te:TE} (hN:X.N.Nodup) (lu:X.N[i]?=some x) (hx:X.env.scope.names.lookup x=some .local) (S:aL X ts us scope) (hc:X.calm=true) (hi:PI X tg iter wi)
  (hg:∀ C s H fp,PG (X.comp ts us scope C s H fp) tg g) (vR:∀ C s H fp,yw (X.comp ts us scope C s H fp) ifs ti) (he:∀ C s H fp,PE (X.comp ts us scope C s H fp) elt te)
  (GO:swapsWith (.ListComp elt [⟨tg,iter,ifs,0⟩] scope pos) (some (.Name x px)) zL.line X.env=pure true:=by rfl)
  (hs:∀ x,foldedSetIterable iter X.env x=pure x:=by intro _;rfl):PS X (.Assign [.Name x px] (.ListComp elt [⟨tg,iter,ifs,0⟩] scope pos) zL) (fA (kZ ts.length us wi g ti te) (ck i)):=by
 intro pins s σ H D I h
 rw [exec_Assign_Name_used _ _ _ _ GO]
 refine wpAny_bind (wpAny_standAt (wpAny_bind ?_))
 show wpAny _ _ (do let _ ← comprehension (.ListComp elt [⟨tg,iter,ifs,0⟩] scope pos) scope X.env _ (newList []) false (eval iter X.env) (some (assign (.Name x px) X.env))) _ _ s
 refine wpAny_bind (wpAny_mono (wpAny_comprehension_free (use:=some (assign (.Name x px) X.env)) (Q:=fun _ s'=>SP X pins D .next s') rfl hs (d9 S.fr) S.kind S.lc
  (ba (hi pins s σ H _ I h) fun v s1 h1=>ba h1 fun AZ s2 h2=>?_)) (fun _ s' hq=>wpAny_pure (wpAny_pure hq)) fun _ _ e=>e)
 obtain ⟨it,fp,tn,J,H2,e,I2,T,zE,f2,q⟩:=h2
 subst e
 refine gU (RR:=fun acc C=>compPost (model X.prog X.w) X.A X.xe (some (assign (.Name x px) X.env)) (fun _ s'=>SP X pins D .next s') acc C) S hc I2 T zE f2 hg vR he q ?_
 intro L C s' H' I' hn F q'
 obtain ⟨m,hn⟩:=hn
 obtain ⟨f0,f1,f2,f3,f4,f5⟩:=F
 show wpAny _ _ (assign (.Name x px) X.env (.ref L)) _ _ s'
 refine wpAny_assign_Name (fz I' hN lu (.inl hx) (v:=.ref L) rfl (fun oN I'' hsb=>?_) (.inr hx))
 obtain ⟨a,sb,ha⟩:=hsb
 have nX:C≠a:=by
  rcases ha with z | z
  ·rw [z];exact f1
  ·exact fun w=>f4 x a z w.symm
 refine ⟨m,hn.sameBut sb nX,fun h' sb'=>?_⟩
 have I8:Inv X pins (σ.set i (some (.ref L))) H' { oN with heap:=h' }:=I''.turned (t':=oN.toks) (fun b o hb e=>(sb'.2 b hb).trans e) f0 f1 f3 f4 f5
 exact ⟨_,H',I8,q'⟩
end
end L2
namespace PySem
open Sem (wp)
namespace F
theorem oG:typeLookup (.type "list_reverseiterator") "__len__"=pure none:=by rw [typeLookup_type,builtinLookup_eq_fast];kernel_rfl
theorem rj:typeLookup (.type "list_reverseiterator") "__length_hint__"=pure (some (.builtin "list_reverseiterator.__length_hint__")):=by rw [typeLookup_type,builtinLookup_eq_fast];kernel_rfl
end F
section
variable {prog:Program} {w:World} {A:Around} {E:Value→Shared→Prop} {s:Shared}
theorem jH {R:Result→Shared→Prop} {I:Addr} {fp wr:List Addr} {n:Nat} {P:Nat→Value→Prop} {St:Nat→Heap→Prop} (W:Walks prog w A.in1 I fp wr n P St) (hT:∀ i h,St i h→∃ o,h.get? I=some o∧o.cls=.type "list_reverseiterator")
  (S:Addr) (res:Value) (c₀:Nat) (f9:St 0 s.heap) (yb:S∉fp) (hI:I∈fp) (hS:s.heap.get? S=some { cls:=.type "list",data:=.seq #[] c₀ })
  (hR:∀ h' tk acc' c',(∀ b o,b≠S→b∉wr→s.heap.get? b=some o→h'.get? b=some o)→h'.get? S=some { cls:=.type "list",dict:=none,data:=.seq acc' c',slots:=#[] } →
   ItemsOf P acc' n→R (.ok (.ret res)) { s with heap:=h',toks:=tk }) (hn:n≤sizeLine) :
  wpAny (model prog w) A.in1 (Builtin.List.listExtendWith (.ref S) (.ref I) res)
   (fun fin s'=>match fin with | .done f=>R (.ok f) s' | .again c'=>c'.quiet=true∧codeAny (model prog w) A c' R s') (fun e s'=>R (.error e) s') s:=by
 have hSI:S≠I:=fun e=>yb (e▸hI)
 have hTs:s.TypeIs (.ref I) "list_reverseiterator":=hT 0 _ f9
 unfold Builtin.List.listExtendWith
 refine wpAny_bind (wpAny_typeOf hTs ?_)
 have h1:Builtin.List.listSameRef (.ref S) (.ref I)=false:=by simp [Builtin.List.listSameRef,hSI]
 have h2:(Value.type "list_reverseiterator" == Value.type "list")=false:=by decide
 have h3:(Value.type "list_reverseiterator" == Value.type "tuple")=false:=by decide
 simp only [h1,h2,h3,Bool.or_false,Bool.false_eq_true,if_false]
 refine wpAny_bind (W.self 0 _ _ _ f9 ?_)
 refine wpAny_bind (wpAny_holding ?_)
 unfold Builtin.List.listLengthHint
 refine wpAny_bind (wpAny_specialOf hTs F.oG ?_)
 show wpAny _ A.in1 (specialOf (Value.ref I) (Str.ofString "__length_hint__") >>= _) _ _ _
 refine wpAny_bind (wpAny_specialOf hTs F.rj ?_)
 generalize hid:("list_reverseiterator.__length_hint__":String)=id0
 wp_delta
 rw [show splitId id0=some ("list_reverseiterator","__length_hint__") from by subst hid;decide +kernel]
 subst hid
 refine wpAny_bind (wpAny_isInstance (b:=true) hTs (by rw [isSubtype_type];kernel_rfl) ?_)
 refine wpAny_pure ?_
 rw [if_neg (by decide)]
 refine wpAny_pure ⟨plainId_quiet F.plain_extend_loop _,codeAny_extend_loopS W.toS hn _ yb _ n 0 _ _ _ rfl (Nat.zero_le _) f9 hS (ItemsOf.nil P) fun s' acc' c' hm hS' hacc=>?_⟩
 rw [Moved.eq_with hm]
 refine hR s'.heap s'.toks acc' c' (fun b ob hb hw e=>hm.heap b ob (fun hmem=>?_) e) hS' hacc
 rcases List.mem_cons.mp hmem with e' | hmem
 ·exact hb e'
 ·exact hw hmem
theorem fQ {Q:Value→Shared→Prop} (hh:A.handled=none) {I l:Addr} {items:Array Value} (nX:l≠I) (hit:s.heap.IsRevIter I l ((items.size:Int) - 1)) (hl:s.heap.IsList l items)
  (hQ:∀ h' tk acc' c',(∀ b o,b≠I→s.heap.get? b=some o→h'.get? b=some o)→h'.get? s.heap.objs.size=some { cls:=.type "list",dict:=none,data:=.seq acc' c',slots:=#[] } →
   ItemsOf (fun i v=>items[items.size - 1 - i]?=some v) acc' items.size→Q (.ref s.heap.objs.size) { s with heap:=h',toks:=tk }) (hn:items.size≤sizeLine) :
  wpAny (model prog w) A (call (.type "list") [.ref I]) Q E s:=by
 have hIlt:I < s.heap.objs.size:=by obtain ⟨o,e,_⟩:=hit;exact Heap.lt_size e
 have hllt:l < s.heap.objs.size:=by obtain ⟨o,e,_⟩:=hl;exact Heap.lt_size e
 refine callType_codes (Q₁:=fun obj s₁=>obj=.ref s.heap.objs.size∧s₁={ s with heap:=s.heap.push { cls:=.type "list",data:=.seq #[] } }) F.called_list (F.typeCall_list_1 _) F.entry_list_init
  (code_list_new _ ⟨rfl,rfl⟩) fun obj s₁ h₁=>?_
 obtain ⟨rfl,rfl⟩:=h₁
 have hS:(s.heap.push { cls:=.type "list",data:=.seq #[] }).get? s.heap.objs.size=some { cls:=.type "list",data:=.seq #[] }:=Heap.get?_push_size _ rfl
 refine ⟨⟨_,hS,rfl⟩,F.args_list_init_2 _ _,?_⟩
 show wpAny _ _ (do let old ← Builtin.List.listItems (.ref s.heap.objs.size);Builtin.List.listUpdate (.ref s.heap.objs.size) (fun _=>#[]);letGo old.toList.reverse;Builtin.List.listExtendWith (.ref s.heap.objs.size) (.ref I) .none) _ _ _
 refine wpAny_bind ?_
 unfold Builtin.List.listItems
 refine wpAny_bind (wpAny_seqItems hS rfl (wpAny_pure ?_))
 show wpAny _ _ (updateSeq s.heap.objs.size (fun _=>#[]) >>= fun _=>letGo (#[]:Array Value).toList.reverse >>= fun _=>Builtin.List.listExtendWith (.ref s.heap.objs.size) (.ref I) .none) _ _ _
 refine wpAny_bind (wpAny_updateSeq hS rfl ?_)
 have hS₂:=Heap.get?_update_self (Obj.mapSeq (fun _=>(#[]:Array Value))) hS rfl
 have oth:∀ b o,b≠s.heap.objs.size→s.heap.get? b=some o→((s.heap.push { cls:=.type "list",data:=.seq #[] }).update s.heap.objs.size (Obj.mapSeq (fun _=>(#[]:Array Value)))).get? b=some o :=
  fun b o hb e=>(Heap.get?_update_other _ _ (Ne.symm hb)).trans (Heap.get?_push_of_some _ e)
 refine wpAny_bind (wpAny_letGo ?_)
 have W:=Walks.listRev (prog:=prog) (w:=w) (A:=A.in1.in1) hh I l nX items
 refine jH (A:=A.in1) W (fun i h st=>let ⟨o,e,c,_⟩:=st.2.1;⟨o,e,c⟩) s.heap.objs.size .none _ ?_ ?_ (by simp) hS₂ (fun h' tk acc' c' kp e hacc=>?_) hn
 ·refine ⟨Nat.zero_le _,?_,?_⟩
  ·have e0:(items.size:Int) - 1 - ((0:Nat):Int)=(items.size:Int) - 1:=by omega
   rw [e0]
   exact hit.at fun o e=>oth I o (Nat.ne_of_lt hIlt) e
  ·exact hl.at fun o e=>oth l o (Nat.ne_of_lt hllt) e
 ·intro hm
  rcases List.mem_cons.mp hm with e | hm
  ·exact absurd e (Nat.ne_of_gt hIlt)
  ·exact absurd (List.mem_singleton.mp hm) (Nat.ne_of_gt hllt)
 ·exact ⟨rfl,hQ h' tk acc' c' (fun b o hb eb=>kp b o (Nat.ne_of_lt (Heap.lt_size eb)) (by simpa using hb) (oth b o (Nat.ne_of_lt (Heap.lt_size eb)) eb)) e hacc⟩
end
end PySem
namespace L2
open PySem PySem.Spec PyProof.Rows
section
variable {X:Cx} {tg:Expr}
end
section
variable {X:Cx}
def j2 (K:PySem.W.Frag) (te:TE):TE:=fun σ H Q=>te σ H fun x H1=>∃ a xs,x=.ref a∧bS K H1 a xs∧∀ l,H1 l=none→Q (.ref l) (upd H1 l (.lst xs.reverse))
theorem n9 {items acc:Array Value} (h:ItemsOf (fun i v=>items[items.size - 1 - i]?=some v) acc items.size):acc.toList=items.toList.reverse:=by
 obtain ⟨h1,h2⟩:=h
 apply List.ext_getElem?
 intro i
 by_cases hi:i < items.size
 ·have lu:i < acc.size:=by omega
  have e:acc[i]?=some acc[i]:=by simp [lu]
  have:=h2 i _ e
  rw [List.getElem?_reverse (by simpa using hi)]
  rw [Array.getElem?_toList,e,Array.length_toList,Array.getElem?_toList]
  rw [← this]
 ·rw [List.getElem?_eq_none (by simpa using (by omega:acc.size≤i)),List.getElem?_eq_none (by simpa using (by omega:items.size≤i))]
theorem lV {e:Expr} {te:TE} {p p2 pos qB:Pos} (hc:X.calm=true) (GP:Gl X "list") (Hk:X.mg "list"=none) (z4:Gl X "reversed") (G6:X.mg "reversed"=none) (he:PE X e te)
  (hs:starEach [.Call (.Name "reversed" p2) [e] [] qB] X.env=[(false,eval (.Call (.Name "reversed" p2) [e] [] qB) X.env)]:=by rfl) (uY:starEach [e] X.env=[(false,eval e X.env)]:=by rfl) :
  PE X (.Call (.Name "list" p) [.Call (.Name "reversed" p2) [e] [] qB] [] pos) (j2 X.K te):=by
 intro pins s σ H Q I h
 refine wpAny_Call_Name_kw (eC I GP Hk PyProof.Rows.boot_list ?_ (by decide) (by decide))
 refine PyProof.Rows.callWith_type1 ?_ hs rfl
 rw [hs]
 show wpAny _ _ (spliced ((false,eval (.Call (.Name "reversed" p2) [e] [] qB) X.env)::backTo pos [])) _ _ s
 refine Calls.spliced_cons ?_
 refine wpAny_Call_Name_kw (eC I z4 G6 PyProof.Rows.boot_reversed ?_ (by decide) (by decide))
 refine PyProof.Rows.callWith_type1 ?_ uY rfl
 rw [uY]
 show wpAny _ _ (spliced ((false,eval e X.env)::backTo qB [])) _ _ s
 refine Calls.spliced_cons (ba (he pins s σ H _ I h) fun u s1 ⟨x,H1,I1,r1,a,xs,ex,hq,q⟩=>?_)
 subst ex
 cases r1
 refine Calls.spliced_nil ?_
 obtain ⟨its,rv,pl,hz⟩:=I1.list hq
 have hp:a < s1.heap.objs.size:=by obtain ⟨o,_,e,_⟩:=pl;exact Heap.lt_size e
 have hlen:=rv.length
 refine call_reversed_list pl.isList ?_
 refine Calls.spliced_nil ?_
 have I2:Inv X pins σ H1 { s1 with heap:=s1.heap.push (revObj a ((its.toArray.size:Int) - 1)) }:=I1.kept (t':=s1.toks) fun b o e=>Heap.get?_push_of_some _ e
 refine fQ (I.ok.hd hc) (items:=its.toArray) (Nat.ne_of_lt hp) ⟨_,Heap.get?_push_size _ rfl,rfl,rfl⟩ (pl.isList.push _) (fun h' tk acc' c' kp e hacc=>?_) (by rw [List.size_toArray];omega)
 have e2:=n9 hacc
 have F:dO X pins H1 s1.heap.objs.size:=I1.lW (Nat.le_refl _) (I1.aH.fresh (Nat.le_refl _))
 obtain ⟨f0,f1,f2,f3,f4,f5⟩:=F
 have hk:∀ b o,s1.heap.get? b=some o→h'.get? b=some o:=fun b o eb=>kp b o (Nat.ne_of_lt (Heap.lt_size eb)) (Heap.get?_push_of_some _ eb)
 refine ⟨.ref _,_,I1.laid (t':=tk) (h':=h') (o:=.lst xs.reverse) hk (by rw [Heap.size_push];exact Nat.le_succ _) ?_,rfl,q _ (I1.aH.fresh (by rw [Heap.size_push];exact Nat.le_succ _))⟩
 refine ⟨by rw [List.length_reverse];exact hz,acc'.toList,c',?_,by simpa using e⟩
 rw [e2]
 simpa using rv.reverse
theorem l9 {ys:List Str}:∀ {us:List Value},Vals (ys.map V.str) us→StrsAre us ys:=by
 induction ys with
 | nil=>intro us r;rw [List.map_nil] at r;cases r;exact .nil
 | cons n ns ih =>
  intro us r
  rw [List.map_cons] at r
  cases r with
  | cons r1 r2 =>
   obtain ⟨t,e⟩:=r1
   subst e
   exact .cons n t (ih r2)
def rJoin (K:PySem.W.Frag):V→List V→Hp→VK→Prop:=fun x vs H Q=>∃ (z:Str) (p:Addr) (zs:List Str),x=.str z∧vs=[.ref p]∧bS K H p (zs.map V.str)∧(zs.map (·.length)).sum+zs.length * z.length≤16777216∧Q (.str (Txt.join z zs)) H
theorem sx:Bj X "str.join" (rJoin X.K):=by
 intro pins s σ H x vs v us Q I rx rv h
 obtain ⟨z,p,zs,rfl,rfl,hq,hz,q⟩:=h
 obtain ⟨t,rfl⟩:=rx
 obtain ⟨u,rfl,ru⟩:=rv.one
 cases ru
 obtain ⟨its,r,pl,_⟩:=I.list hq
 exact PyProof.Rows.join_list pl.isList (by simpa using l9 r) hz fun t' k=>⟨.str _,H,I.tok k,⟨t',rfl⟩,q⟩
def Ca:V→Option Int→Option Int→Hp→VK→Prop:=fun x lo hi H Q=>∃ z,x=.str z∧z.length≤sizeLine∧Q (.str (Txt.slice z lo hi)) H
theorem wU:Am X Ca:=by
 intro pins s σ H x v vl vu lo hi sl Q I rx hs pl pu h
 obtain ⟨z,rfl,hz,q⟩:=h
 obtain ⟨t,rfl⟩:=rx
 refine ⟨"str",_,F.slot_str_getitem.lookup,typeIs_str _ _ _,?_⟩
 have fin:∀ t' k,EP X pins σ Q (.str (Txt.slice z lo hi) t') { s with toks:=k }:=fun t' k=>⟨.str _,H,I.tok k,⟨t',rfl⟩,q⟩
 cases pl with
 | none =>
  cases pu with
  | none=>exact wpAny_getItem_str_slice (l:=none) (u:=none) (st:=none) hs rfl (post_val_or_str ⟨Nat.le_trans (Txt.slice_le z _ _) hz,fin⟩)
  | int j uj=>exact wpAny_getItem_str_slice (l:=none) (u:=some (j,uj)) (st:=none) hs rfl (post_val_or_str ⟨Nat.le_trans (Txt.slice_le z _ _) hz,fin⟩)
 | int i ui =>
  cases pu with
  | none=>exact wpAny_getItem_str_slice (l:=some (i,ui)) (u:=none) (st:=none) hs rfl (post_val_or_str ⟨Nat.le_trans (Txt.slice_le z _ _) hz,fin⟩)
  | int j uj=>exact wpAny_getItem_str_slice (l:=some (i,ui)) (u:=some (j,uj)) (st:=none) hs rfl (post_val_or_str ⟨Nat.le_trans (Txt.slice_le z _ _) hz,fin⟩)
theorem gm:fe X (binaryOp .Mult) (fun x y H Q=>∃ z n,x=.str z∧y=.int n∧MulOk z n∧Q (.str (Txt.mul z n)) H):=by
 intro pins s σ H x y v u Q I rx ry h
 obtain ⟨z,n,rfl,rfl,ok,q⟩:=h
 obtain ⟨t,rfl⟩:=rx
 obtain ⟨t',rfl⟩:=ry
 exact SB.mul ok fun t' k=>⟨.str _,H,I.tok k,⟨t',rfl⟩,q⟩
def xZ (K:PySem.W.Frag) (te:TE):TE:=fun σ H Q=>te σ H fun x H1=>∃ a xs,x=.ref a∧bS K H1 a xs∧∀ l,H1 l=none→Q (.ref l) (upd H1 l (.lst xs.reverse))
theorem qf {e st:Expr} {te:TE} {p2 pos:Pos} (he:PE X e te) (f9:PE X st (tC (.int (-1)))):PE X (.Subscript e (.Slice none none (some st) p2) pos) (xZ X.K te):=by
 intro pins s σ H Q I h
 refine Subscript_ (ba (he pins s σ H _ I h) fun v s1 ⟨x,H1,I1,r1,a,xs,ex,hq,q⟩=>?_)
 subst ex
 cases r1
 refine wpAny_Slice ?_
 rw [evalPart_none]
 refine wpAny_pure ?_
 refine wpAny_pure ?_
 rw [evalPart_some]
 refine ba (f9 pins s1 σ H1 (fun x H'=>x=.int (-1)∧H'=H1) I1 ⟨rfl,rfl⟩) fun u s2 ⟨x,H2,I2,r2,ex,eH⟩=>?_
 subst ex eH
 obtain ⟨t,rfl⟩:=r2
 obtain ⟨its,r,ht,hz⟩:=I2.list hq
 have hlen:=r.length
 have I3:Inv X pins σ H2 { s2 with heap:=s2.heap.push { cls:=.type "slice",data:=.fields #[.none,.none,.int (-1) t] } }:=I2.kept (t':=s2.toks) fun b ob q=>Heap.get?_push_of_some _ q
 show wpAny (model X.prog X.w) X.A (subscriptTail e (.Slice none none (some st) p2) (.ref a) (.ref s2.heap.objs.size)) (EP X pins σ Q) X.xe { s2 with heap:=s2.heap.push { cls:=.type "slice",data:=.fields #[.none,.none,.int (-1) t] } }
 refine tail_any (ops:=[.ref a,.ref s2.heap.objs.size]) (ht.isList.push _).typeIs slot_list_getitem.lookup ?_ (by with_unfolding_all rfl)
 refine wpAny_getItem_list_slice (ht.isList.push _) (Heap.IsSliceOf.new ..) .none .none (.int (-1) t) (by decide) ?_ (by rw [List.size_toArray];omega)
 rw [PySem.W.krv_pick]
 refine ⟨.ref _,_,I3.laid (t':=s2.toks) (o:=.lst xs.reverse) (fun b ob q=>Heap.get?_push_of_some _ q) (Nat.le_refl _) ?_,rfl,q _ (I3.aH.fresh (Nat.le_refl _))⟩
 exact ⟨by rw [List.length_reverse];exact hz,_,0,by simpa using r.reverse,Heap.get?_push_size _ rfl⟩
end
end L2
namespace L2
open PySem PySem.Spec PyProof.Rows
theorem D0 {H:Hp} {a:Addr} {o u:HO}:upd (upd H a o) a u=upd H a u:=uh
theorem d8 {K:PySem.W.Frag} {nt:Nat} {us:List Nat} {σ:St} {ti:TT} {te:TE} {a:Addr} {xs:List V} {H1:Hp} {Q:VK} (p:V→Bool) (f:V→V) (hx:bS K H1 a xs) (hz:xs.length≤sizeLine) (Hd:0 < nt)
  (hp:∀ x∈xs,∀ (H:Hp) (k:Bool→Hp→Prop),k (p x) H→ti ((lift nt us σ).set 0 (some x)) H k)
  (he:∀ x∈xs,p x=true→∀ (H:Hp) (k:VK),k (f x) H→te ((lift nt us σ).set 0 (some x)) H k)
  (hQ:∀ D,H1 D=none→Q (.ref D) (upd H1 D (.lst ((xs.filter p).map f)))):lS nt us σ (ck 0) ti te (we K a) H1 Q:=by
 intro D hD
 have hS:∀ ys,bS K (upd H1 D (.lst ys)) a xs:=fun ys=>cy.seq (fun b o e=>by rw [ag (ak e hD)];exact e) hx
 refine ⟨fun i m ys H2=>i≤xs.length∧m=xs.length - i∧ys=((xs.take i).filter p).map f∧H2=upd H1 D (.lst ys),⟨xs.length,Nat.zero_le _,by simp,by simp,rfl⟩,?_⟩
 rintro i m ys H2 ⟨hi,rfl,rfl,rfl⟩
 refine ⟨ah,?_⟩
 by_cases eu:i < xs.length
 ·refine .inr ⟨⟨xs,xs[i],hS _,by simp [eu]⟩,?_,?_⟩
  ·rw [List.length_map]
   have h1:=List.length_filter_le p (xs.take i)
   rw [List.length_take] at h1
   omega
  ·rintro x H3 ⟨rfl,hy⟩
   have hc':xs[i]?=some x:=hy xs (hS _)
   have hm:=List.mem_of_getElem? hc'
   refine ⟨pO Hd,hp x hm _ _ ?_⟩
   cases e:p x with
   | true =>
    rw [if_pos rfl]
    refine he x hm e _ _ ⟨ah,xs.length - (i+1),by omega,eu,rfl,?_,D0⟩
    rw [List.take_add_one,hc',List.filter_append,List.map_append]
    simp [e]
   | false =>
    rw [if_neg Bool.false_ne_true]
    refine ⟨xs.length - (i+1),by omega,eu,rfl,?_,rfl⟩
    rw [List.take_add_one,hc',List.filter_append,List.map_append]
    simp [e]
 ·have e:i=xs.length:=by omega
  subst e
  refine .inl ⟨⟨xs,hS _,Nat.le_refl _⟩,?_⟩
  have:=hQ D hD
  rw [List.take_of_length_le (Nat.le_refl _)]
  exact this
theorem cy.upd {H:Hp} {a:Addr} {o:HO} (h:H a=none):cy H (upd H a o):=fun b u e=>by rw [ag (ak e h)];exact e
theorem cy.za {H H':Hp} {a:Addr} {o:HO} (s:cy H H') (h:H a=none):cy H (L2.upd H' a o):=fun b u e=>by rw [ag (ak e h)];exact s b u e
section
variable {X:Cx}
theorem nA {j p pos}:PE X (.UnaryOp .USub (.Constant (.int 1) j p) pos) (tC (.int (-1))):=fun pins s σ H Q I h=>zF xg aJ pins s σ H Q I ⟨1,rfl,h⟩
def mR:List Expr→List Str
 | []=>[]
 | .Constant (.str x) _ _::r=>x::mR r
 | _=>[]
def jP:List Expr→Bool
 | []=>true
 | .Constant (.str _) _ _::r=>jP r
 | _=>false
def z6 (zs:List Str):TA:=fun _ H Q=>Q (zs.map V.str) H
theorem nI:∀ {es:List Expr},jP es=true→PA X es (z6 (mR es))
 | [],h=>dI
 | e::r,h=>by
  cases e with
  | Constant c j pos =>
   cases c with
   | str x=>exact bJ bN (nI (es:=r) h)
   | _=>cases h
  | _=>cases h
def pX:Stmt→List Expr
 | .Assign _ (.List es _) _=>es
 | .Assign _ (.BinOp _ _ (.List es _) _) _=>es
 | _=>[]
def rep1:Stmt→List Expr→Stmt
 | .Assign t (.List _ p) q,es=>.Assign t (.List es p) q
 | .Assign t (.BinOp a o (.List _ p) r) q,es=>.Assign t (.BinOp a o (.List es p) r) q
 | s,_=>s
def ow:Stmt:=.Pass ⟨0,0,0,0⟩
def zc (b:List Stmt) (i:Nat) (es:List Expr):List Stmt:=b.set i (rep1 (b.getD i ow) es)
end
end L2
namespace PySem
open Sem (wp)
section
variable {prog:Program} {w:World} {A:Around} {E:Value→Shared→Prop} {h:Heap} {g:Array GenState} {d:Drawn} {t:Nat} {os:OsState}
variable {nm q:Str} {C N:Addr} {bs bm Ht:List Value} {G9:Bool} {sn:List Str} {sub:List Value} {ab:Bool} {col:Option Bool} {dd:Option Addr} {k0 k1 k2 k3 k5:Option Value} {B Bn newId Hv Cw Ho:String} {Hr:List Value}
end
end PySem
namespace PySem
open Sem (wp)
section
variable {M:Model} {A:Around} {E:Value→Shared→Prop} {s:Shared}
end
end PySem
namespace L2
open PySem PySem.Spec PyProof.Rows
section
variable {P:Program} {w:World} {H:Hp} {h:Heap} {ea C d:Addr} {dd:Option Addr} {fr:Bool} {fs:List (Str×V)}
end
section
variable {X:Cx} {pins:List (Addr×Obj)} {σ:St} {H:Hp} {s:Shared} {C f:Addr} {k:Nat} {fd:FuncData} {ps:List Str} {sp:Sp} {x:Str} {p pos:Pos} {e:Expr} {es:List Expr} {t:TA}
end
end L2
namespace L2
open PySem PySem.Spec PyProof.Rows
section
variable {X:Cx} {pins:List (Addr×Obj)} {σ:St} {H:Hp} {s:Shared} {ea C d:Addr} {dd:Option Addr} {fr:Bool} {fs:List (Str×V)} {f:Str} {v:V} {A:Around} {E:Value→Shared→Prop}
end
end L2
namespace L2
open PySem PySem.Spec PyProof.Rows
section
variable {K:PySem.W.Frag}
end
section
variable {X:Cx} {pins:List (Addr×Obj)} {σ:St} {H:Hp} {s:Shared} {ea C d:Addr} {dd:Option Addr} {fr:Bool} {fs:List (Str×V)} {f:Str} {v:V} {A:Around} {E:Value→Shared→Prop}
end
end L2
namespace L2
open PySem PySem.Spec PyProof.Rows
section
variable {X:Cx} {pins:List (Addr×Obj)} {σ:St} {H:Hp} {s:Shared} {ea C T:Addr} {dd:Option Addr} {fr:Bool} {A:Around} {E:Value→Shared→Prop} {h':Heap}
end
section
variable {X:Cx} {pins:List (Addr×Obj)} {σ:St} {H:Hp} {s s':Shared} {ea C T:Addr} {dd:Option Addr} {E:XK} {e:Value}
end
section
variable {P:Program} {w:World} {K:PySem.W.Frag} {mg:Str→Option Value} {base:Heap} {N:List Str} {qual:Str} {scope:Scope} {f:Addr} {cd:Value} {A:Around} {outer:List Env} {s:Shared} {H:Hp} {E E':XK}
end
section
variable {X:Cx} {pins:List (Addr×Obj)} {σ:St} {H:Hp} {s:Shared} {ea C:Addr} {dd:Option Addr} {fr:Bool}
end
end L2
namespace L2
open PySem PySem.Spec PyProof.Rows
section
variable {X:Cx} {pins:List (Addr×Obj)} {σ:St} {H:Hp} {s:Shared} {ev:Value}
end
section
variable {P:Program} {w:World} {K:PySem.W.Frag} {mg:Str→Option Value} {base:Heap}
end
end L2
namespace L2
open PySem PySem.Spec PyProof.Rows
section
variable {X:Cx}
def uN (i j:Int):Prop:=0 < j∧j < 9223372036854775808
theorem gh:fe X (binaryOp .FloorDiv) (rI uN fun i j=>.int (i / j)):=Bd fun i j _ _ _ _ _ hc q=>by
 have h1:(0:Int) < j:=hc.1
 have h2:j < 9223372036854775808:=hc.2
 refine floordiv_int (by omega) (by rw [Int.fdiv_eq_ediv_of_nonneg i (by omega)];exact q) (.inl (PyProof.noPylong_of_log2 ?_))
 have h3:j.natAbs < 2 ^ 63:=by
  have:(2:Nat) ^ 63=9223372036854775808:=by decide
  omega
 have h4:j.natAbs.log2 < 63:=(Nat.log2_lt (by omega)).mpr h3
 omega
end
end L2
namespace aR
open PySem L2
abbrev kS:Key:=Sum.inr "seed"
abbrev kN:Key:=Sum.inr "number"
abbrev kL:Key:=Sum.inr "left"
theorem sn:¬ kS=kN:=by decide +kernel
theorem sl:¬ kS=kL:=by decide +kernel
theorem nl:¬ kN=kL:=by decide +kernel
def a5 (a b:Int) (l:Addr):List (Key×V):=[(kS,.int a),(kN,.int b),(kL,.ref l)]
theorem qN (a b:Int) (l:Addr):dh (a5 a b l) (kS)=some (.int a):=cE rfl
theorem lD (a b:Int) (l:Addr):dh (a5 a b l) (kN)=some (.int b):=by
 unfold a5
 rw [bI sn]
 exact cE rfl
theorem pA (a b:Int) (l:Addr):dh (a5 a b l) (kL)=some (.ref l):=by
 unfold a5
 rw [bI sl,bI nl]
 exact cE rfl
theorem rG (a b c:Int) (l:Addr):putK (a5 a b l) (kS) (.int c)=a5 c b l:=by
 unfold a5 putK
 simp only [List.any_cons,List.any_nil,List.map_cons,List.map_nil,decide_true,Bool.true_or,if_true,if_neg (Ne.symm sn),if_neg (Ne.symm sl)]
theorem lU (a b c:Int) (l:Addr):putK (a5 a b l) (kN) (.int c)=a5 a c l:=by
 unfold a5 putK
 simp only [List.any_cons,List.any_nil,List.map_cons,List.map_nil,decide_true,Bool.true_or,Bool.or_true,if_true,if_neg sn,if_neg (Ne.symm nl)]
theorem wL (a b:Int) (l:Addr):eB [] (a5 a b l)=a5 a b l:=by
 have e1:putK [] kS (V.int a)=[(kS,V.int a)]:=gA _ gE
 have e2:putK [(kS,V.int a)] kN (V.int b)=[(kS,V.int a),(kN,V.int b)]:=gA _ (by rw [bI sn];exact gE)
 have e3:putK [(kS,V.int a),(kN,V.int b)] kL (V.ref l)=[(kS,V.int a),(kN,V.int b),(kL,V.ref l)]:=gA _ (by rw [bI sl,bI nl];exact gE)
 unfold eB a5
 simp only [List.foldl_cons,List.foldl_nil]
 rw [e1,e2,e3]
section
variable {H:Hp} {d l:Addr} {a b:Int}
theorem gH (h:H d=some (.dK (a5 a b l))):dq H d (.str "seed") (some (.int a)):=by
 have q:=dq.k (k:=kS) h
 rw [qN] at q
 exact q
theorem g7 (h:H d=some (.dK (a5 a b l))):dq H d (.str "number") (some (.int b)):=by
 have q:=dq.k (k:=kN) h
 rw [lD] at q
 exact q
theorem kP (h:H d=some (.dK (a5 a b l))):dq H d (.str "left") (some (.ref l)):=by
 have q:=dq.k (k:=kL) h
 rw [pA] at q
 exact q
theorem nT {c:Int} (h:H d=some (.dK (a5 a b l))):fB H d (.str "seed") (.int c) (upd H d (.dK (a5 c b l))):=by
 have q:=fB.k (k:=kS) (v:=.int c) h (by show 3 < sizeLine;decide)
 rw [rG] at q
 exact q
theorem fH {c:Int} (h:H d=some (.dK (a5 a b l))):fB H d (.str "number") (.int c) (upd H d (.dK (a5 a c l))):=by
 have q:=fB.k (k:=kN) (v:=.int c) h (by show 3 < sizeLine;decide)
 rw [lU] at q
 exact q
end
structure At (H:Hp) (d l:Addr):Prop where
 ex:∃ (a b:Int) (ns:List Int),H d=some (.dK (a5 a b l))∧H l=some (.lst (ns.map V.int))∧0≤a∧a < 2147483647∧0≤b∧∀ n∈ns,0≤n
def yl (d l:Addr) (H H':Hp):Prop:=∀ c o,H c=some o→c≠d→c≠l→H' c=some o
theorem yl.refl (d l:Addr) (H:Hp):yl d l H H:=fun _ _ h _ _=>h
theorem At.ne {H:Hp} {d l:Addr} (h:At H d l):d≠l:=by
 obtain ⟨a,b,ns,h1,h2,r⟩:=h.ex
 exact qh h1 h2 (by intro z;cases z)
def mh:Sp:=fun vs H Q _=>∃ (d l:Addr) (m:Int),vs=[.ref d,.int m]∧At H d l∧0 < m∧m < 9223372036854775808∧∀ (r:Int) (H':Hp),0≤r→r < m→At H' d l→yl d l H H'→Q (.int r) H'
def mH (K:PySem.W.Frag):Sp:=fun vs H Q _=>∃ (a:Addr) (ns:List Int) (base:Int),vs=[.ref a,.int base]∧bS K H a (ns.map V.int)∧ns.length≤63∧0≤base∧base < 1000000∧∀ (d l:Addr) (H':Hp),H d=none→H l=none→At H' d l→cy H H'→Q (.ref d) H'
section
variable {P:Program} {w:World} {K:PySem.W.Frag} {mg:Str→Option Value} {base:Heap}
abbrev nD:List Str:=["_law_deal_here","_law_many","_law_number","_law_one","_law_other"]
def kI:TS :=
 gK (fA (ee (aM 0) (tC (.str "number"))) (ck 2))
  (gK (zB (iH (ef (jW fun i j=>.bl (decide (j < i))) (aM 2) (tC (.int 0))))
    (gK (k6 (aM 0) (tC (.str "number")) (ef (rI uN fun i j=>.int (i / j)) (aM 2) (aM 1))) (ue (ef (rI (fun _ j=>0 < j) fun i j=>.int (i % j)) (aM 2) (aM 1)))) vk)
  (gK (fA (ef (rI (fun _ j=>0 < j) fun i j=>.int (i % j)) (ef (jW fun i j=>.int (i+j)) (ef (rI js fun i j=>.int (i * j)) (ee (aM 0) (tC (.str "seed"))) (tC (.int 48271))) (tC (.int 7919))) (tC (.int 2147483647))) (ck 3))
  (gK (k6 (aM 0) (tC (.str "seed")) (ef (rI (fun _ j=>0 < j) fun i j=>.int (i % j)) (ef (jW fun i j=>.int (i+j)) (ef (rI js fun i j=>.int (i * j)) (aM 3) (tC (.int 40692))) (tC (.int 104729))) (tC (.int 2147483399))))
  (gK (fA (ef (rI (fun _ j=>0 < j) fun i j=>.int (i % j)) (ef (rI js fun i j=>.int (i * j)) (ee (aM 0) (tC (.str "seed"))) (ee (aM 0) (tC (.str "seed")))) (tC (.int 2147483563))) (ck 4))
  (ue (ef (rI (fun _ j=>0 < j) fun i j=>.int (i % j)) (ef (jW fun i j=>.int (i+j)) (ef (rI js fun i j=>.int (i * j)) (ef (rI (fun _ j=>0 < j) fun i j=>.int (i % j)) (ef (rI js fun i j=>.int (i * j)) (aM 3) (aM 3)) (tC (.int 2147483629))) (tC (.int 2147483563))) (aM 4)) (aM 1)))))))
def AK (K:PySem.W.Frag):TS :=
 gK (pd (zQ (iH (ef Fu (ee (aM 0) (tC (.str "number"))) (tC (.int 0)))) (iH (ef (jW fun i j=>.bl (decide (j < i))) (uU (fun xs H Q=>∃ p ys,xs=[.ref p]∧(bS K H p ys∨dw K H p ys)∧Q (.int ys.length) H) (jc (ee (aM 0) (tC (.str "left"))) qQ)) (tC (.int 0)))))
  (k6 (aM 0) (tC (.str "number")) (vZ K "list" xt (ee (aM 0) (tC (.str "left")))))) kI
theorem t8 {st:Stmt} {f:Addr} {fd:FuncData} (F:cq K "_law_draw" "_law_draw" st f fd) (sc:aD nD ["_law_deal_here","_law_many"] (af st))
  (hb:∀ (bW:Value) (A:Around) (outer:List Env) (s:Shared) (H:Hp) (E:XK),(A.deeper (PyProof.Rows.envOfC "_law_draw" (af st) s.heap.objs.size f bW)).units+1 < cLine →
   ic (ij bz P w K mg base nD "_law_draw" (af st) f bW A outer s H E).uP (ao st) (AK K)) :
  aw P w K mg base bz 1 f fd ["_law_deal_here","_law_many"] mh:=by
 refine F.ok sc (fun vs H Q E h=>?_) (fun bW A outer s H vs Q E hr h=>?_)
 ·obtain ⟨d,l,m,rfl,_⟩:=h
  rfl
 ·obtain ⟨d,l,m,rfl,D,hm,hm2,k⟩:=h
  refine ⟨_,hb _ _ _ _ _ _ (kC hr),?_⟩
  obtain ⟨a0,b0,ns0,oV,hl0,ha0,ha0',hb0,hns0⟩:=D.ex
  have ndl:d≠l:=D.ne
  -- while
  refine ⟨fun μ σ H1=>∃ (b:Int) (ns:List Int),σ=[some (.ref d),some (.int m),none,none,none]∧H1 d=some (.dK (a5 a0 b l))∧H1 l=some (.lst (ns.map V.int))∧0≤b∧(∀ n∈ns,0≤n)∧yl d l H H1∧μ=ns.length,
   ⟨ns0.length,b0,ns0,rfl,oV,hl0,hb0,hns0,yl.refl _ _ _,rfl⟩,?_⟩
  rintro μ σ H1 ⟨b,ns,rfl,hd,hl,hb,uc,bt,rfl⟩
  -- behind the loop
  have rest:kI
    { nx:=fun _ H'=>Q .aS H',rt:=Q } [some (.ref d),some (.int m),none,none,none] H1:=by
   refine ⟨_,rfl,d,_,rfl,g7 hd,?_⟩
   refine ⟨_,rfl,_,_,rfl,rfl,_,rfl,xQ (fun hpos=>?_) (fun hpos=>?_)⟩
   ·have hpos:0 < b:=of_decide_eq_true hpos
    refine ⟨_,rfl,_,rfl,_,_,rfl,rfl,⟨hm,hm2⟩,_,rfl,d,_,rfl,fH hd,?_⟩
    refine ⟨_,rfl,_,rfl,_,_,rfl,rfl,hm,?_⟩
    refine k (b % m) _ (Int.emod_nonneg _ (by omega)) (Int.emod_lt_of_pos _ hm) ⟨a0,b / m,ns,ah,by rw [ag (Ne.symm ndl)];exact hl,ha0,ha0',Int.ediv_nonneg hb (by omega),uc⟩ fun c o e h1 h2=>?_
    rw [ag h1]
    exact bt c o e h1 h2
   ·refine ⟨_,rfl,d,_,rfl,gH hd,_,_,rfl,rfl,.inr ⟨by decide,by decide⟩,_,_,rfl,rfl,_,_,rfl,rfl,(by show (0:Int) < 2147483647;decide),?_⟩
    have h1:0≤(a0 * 48271+7919) % 2147483647:=Int.emod_nonneg _ (by decide)
    have h2:(a0 * 48271+7919) % 2147483647 < 2147483647:=Int.emod_lt_of_pos _ (by decide)
    refine ⟨_,rfl,_,_,rfl,rfl,.inr ⟨by decide,by decide⟩,_,_,rfl,rfl,_,_,rfl,rfl,(by show (0:Int) < 2147483399;decide),_,rfl,d,_,rfl,nT hd,?_⟩
    have h3:0≤((a0 * 48271+7919) % 2147483647 * 40692+104729) % 2147483399:=Int.emod_nonneg _ (by decide)
    have h4:((a0 * 48271+7919) % 2147483647 * 40692+104729) % 2147483399 < 2147483399:=Int.emod_lt_of_pos _ (by decide)
    refine ⟨_,rfl,d,_,rfl,gH ah,_,rfl,d,_,rfl,gH ah,_,_,rfl,rfl,.inl ⟨by omega,by omega⟩,_,_,rfl,rfl,(by show (0:Int) < 2147483563;decide),?_⟩
    refine ⟨_,rfl,_,rfl,_,_,rfl,rfl,.inl ⟨by omega,by omega⟩,_,_,rfl,rfl,(by show (0:Int) < 2147483629;decide),_,_,rfl,rfl,.inr ⟨by decide,by decide⟩,_,rfl,_,_,rfl,rfl,_,rfl,_,_,rfl,rfl,hm,?_⟩
    refine k _ _ (Int.emod_nonneg _ (by omega)) (Int.emod_lt_of_pos _ hm) ⟨_,b,ns,ah,by rw [ag (Ne.symm ndl)];exact hl,h3,by omega,hb,uc⟩ fun c o e h1 h2=>?_
    rw [ag h1]
    exact bt c o e h1 h2
  refine ⟨_,rfl,d,_,rfl,g7 hd,rfl,_,rfl,?_⟩
  refine xQ (fun h0=>?_) (fun h0=>?_)
  ·refine ⟨_,rfl,d,_,rfl,kP hd,l,_,rfl,.inl (bS.of hl),_,_,rfl,rfl,_,rfl,?_⟩
   refine xQ (fun h1=>?_) (fun h1=>?_)
   ·have h1:(0:Int) < ((ns.map V.int).length:Int):=of_decide_eq_true h1
    rw [List.length_map] at h1
    obtain ⟨init,x,rfl⟩:∃ init x,ns=init++[x]:=by
     rcases List.eq_nil_or_concat ns with e | ⟨i,x,e⟩
     ·subst e;simp at h1
     ·exact ⟨i,x,by simpa using e⟩
    refine ⟨fun σ' H'=>∃ (b:Int) (ns:List Int),σ'=[some (.ref d),some (.int m),none,none,none]∧H' d=some (.dK (a5 a0 b l))∧H' l=some (.lst (ns.map V.int))∧0≤b∧(∀ n∈ns,0≤n)∧yl d l H H'∧ns.length < (init++[x]).length,?_,?_⟩
    ·rintro σ' H' ⟨b',ns',e1,e2,e3,e4,e5,e6,e7⟩
     exact ⟨ns'.length,e7,b',ns',e1,e2,e3,e4,e5,e6,rfl⟩
    ·refine ⟨_,rfl,d,_,rfl,kP hd,.inl ⟨rfl,_,bS.of hl⟩,l,_,.int x,rfl,rfl,hl,by simp,?_⟩
     have uE:(upd H1 l (.lst ((init++[x]).map V.int).dropLast)) d=some (.dK (a5 a0 b l)):=by rw [ag ndl];exact hd
     refine ⟨_,rfl,d,_,rfl,fH uE,?_⟩
     refine ⟨x,init,rfl,ah,?_,uc x (by simp),fun n hn=>uc n (by simp [hn]),fun c o e h1 h2=>?_,by simp⟩
     ·rw [ag (Ne.symm ndl),ah,List.map_append,List.map_cons,List.map_nil,List.dropLast_concat]
     ·rw [ag h1,ag h2]
      exact bt c o e h1 h2
   ·exact rest
  ·exact rest
abbrev nL:List Str:=["_law_script","_law_base","_law_some","_law_number","_law_one"]
def C0:List V→Hp→VK→Prop:=fun xs H Q=>∃ i j,xs=[.int i,.int j]∧Q (.int (if j > i then j else i)) H
def Ak (K:PySem.W.Frag):TS :=
 gK (fA (kZ 1 [] (nQ K (Gv (Aa K) (aM 0) (pQ (aM 1)) (pQ (tC (.int 63))))) (ck 0) uS (uU C0 (jc (aM 0) (jc (ef (jW fun i j=>.int (i - j)) (tC (.int 0)) (aM 0)) qQ)))) (ck 2))
 (gK (fA (ef (jW fun i j=>.int (i+j)) (tC (.int 7919)) (aM 1)) (ck 3))
 (gK (z7 (nQ K (aM 2)) (ck 4) (fA (ef (rI (fun _ j=>0 < j) fun i j=>.int (i % j)) (ef (jW fun i j=>.int (i+j)) (ef (rI js fun i j=>.int (i * j)) (aM 3) (tC (.int 48271))) (ef (rI (fun _ j=>0 < j) fun i j=>.int (i % j)) (aM 4) (tC (.int 2147483629)))) (tC (.int 2147483647))) (ck 3)))
 (ue (uG [(tC (.str "seed"),aM 3),(tC (.str "number"),tC (.int 0)),(tC (.str "left"),j2 K (kZ 1 [] (nQ K (aM 2)) (ck 0) (iH (ef (jW fun i j=>.bl (decide (j≤i))) (aM 0) (ef (rI AO fun i j=>.int (i ^ j.toNat)) (tC (.int 10)) (tC (.int 18))))) (aM 0)))]))))
theorem tJ (ns:List Int) (lo hi:Option Int):∃ ms:List Int,gP (ns.map V.int) lo hi=ms.map V.int∧ms.length≤ns.length:=by
 refine ⟨(ns.drop (HT.bw ns.length 0 lo)).take (HT.bw ns.length ns.length hi - HT.bw ns.length 0 lo),?_,?_⟩
 ·unfold gP
  rw [List.length_map,← List.map_drop,← List.map_take]
 ·rw [List.length_take,List.length_drop]
  omega
def fP (i:Int):Int:=if 0 - i > i then 0 - i else i
theorem uq (i:Int):0≤fP i:=by
 unfold fP
 split<;>omega
def u5:V→V
 | .int i=>.int (fP i)
 | v=>v
def vI:V→Bool
 | .int i=>decide ((10:Int) ^ (18:Int).toNat≤i)
 | _=>false
theorem tH {st:Stmt} {f:Addr} {fd:FuncData} (F:cq K "_law_deal" "_law_deal" st f fd) (sc:aD nL ["_law_script","_law_base"] (af st))
  (hb:∀ (bW:Value) (A:Around) (outer:List Env) (s:Shared) (H:Hp) (E:XK),ic (ij bz P w K mg base nL "_law_deal" (af st) f bW A outer s H E).uP (ao st) (Ak K)) :
  aw P w K mg base bz 1 f fd ["_law_script","_law_base"] (mH K):=by
 refine F.ok sc (fun vs H Q E h=>?_) (fun bW A outer s H vs Q E hr h=>?_)
 ·obtain ⟨a,ns,bs,rfl,_⟩:=h
  rfl
 ·obtain ⟨a,ns,bs,rfl,hS,hn,hb0,hb1,k⟩:=h
  refine ⟨_,hb _ _ _ _ _ _,?_⟩
  obtain ⟨ms,ems,hms⟩:=tJ ns (some bs) (some 63)
  refine ⟨_,rfl,_,rfl,_,rfl,_,rfl,a,_,rfl,hS,fun p hp=>⟨p,rfl,⟨_,bS.of ah⟩,?_⟩⟩
  rw [ems]
  refine d8 (xs:=ms.map V.int) (fun _=>true) u5 (bS.of ah) (by rw [List.length_map];exact Nat.le_trans (Nat.le_trans hms hn) (by decide)) (by decide) (fun x hx H1 k1 q=>q) (fun x hx _ H1 k1 q=>?_) (fun D hD=>?_)
  ·obtain ⟨i,_,rfl⟩:=List.mem_map.mp hx
   exact ⟨_,rfl,_,rfl,_,_,rfl,rfl,_,_,rfl,q⟩
  ·have hD0:H D=none:=(cy.upd hp).free hD
   have e1:((ms.map V.int).filter fun _=>true).map u5=(ms.map fP).map V.int:=by
    rw [List.filter_eq_self.mpr (by simp),List.map_map,List.map_map]
    rfl
   rw [e1]
   have s1:cy H (upd (upd H p (.lst (ms.map V.int))) D (.lst ((ms.map fP).map V.int))):=(cy.upd hp).trans (cy.upd hD)
   generalize hH2:upd (upd H p (.lst (ms.map V.int))) D (.lst ((ms.map fP).map V.int))=H2 at s1
   have hD2:H2 D=some (.lst ((ms.map fP).map V.int)):=by rw [← hH2];exact ah
   -- number=7919+base
   refine ⟨_,rfl,_,_,rfl,rfl,?_⟩
   -- for
   refine ⟨_,rfl,D,rfl,⟨_,bS.of hD2⟩,qp (K:=K) (a:=D) (xs:=(ms.map fP).map V.int) (fun i σ H3=>∃ (n:Int) (v:Option V),σ=[some (.ref a),some (.int bs),some (.ref D),some (.int n),v]∧0≤n∧n < 2147483647∧H3=H2)
    ⟨7919+bs,none,rfl,by omega,by omega,rfl⟩ (fun i σ H3 _ ⟨_,_,_,_,_,e⟩=>by rw [e];exact bS.of hD2) ?_ ?_⟩
   ·rintro i y σ H3 hi ⟨n,v,rfl,h0,h1,rfl⟩
    obtain ⟨j,_,rfl⟩:=List.mem_map.mp (List.mem_of_getElem? hi)
    refine ⟨_,rfl,_,_,rfl,rfl,.inr ⟨by decide,by decide⟩,_,rfl,_,_,rfl,rfl,(by show (0:Int) < 2147483629;decide),_,_,rfl,rfl,_,_,rfl,rfl,(by show (0:Int) < 2147483647;decide),?_⟩
    exact ⟨_,_,rfl,Int.emod_nonneg _ (by decide),Int.emod_lt_of_pos _ (by decide),rfl⟩
   ·rintro σ H3 ⟨n,v,rfl,h0,h1,rfl⟩
    -- the dict
    intro d hd
    have oV:H d=none:=s1.free hd
    have hDd:(upd H3 d (.dK [])) D=some (.lst ((ms.map fP).map V.int)):=by rw [ag (ak hD2 hd)];exact hD2
    refine ⟨_,rfl,_,rfl,D,rfl,⟨_,bS.of hDd⟩,?_⟩
    refine d8 (xs:=(ms.map fP).map V.int) vI id (bS.of hDd) (by rw [List.length_map,List.length_map];exact Nat.le_trans (Nat.le_trans hms hn) (by decide)) (by decide) (fun x hx H1 k1 q=>?_) (fun x hx _ H1 k1 q=>⟨_,rfl,q⟩) (fun D2 hD2'=>?_)
    ·obtain ⟨i,_,rfl⟩:=List.mem_map.mp hx
     exact ⟨_,rfl,_,_,rfl,rfl,⟨by decide,by decide,by decide⟩,_,_,rfl,rfl,_,rfl,q⟩
    ·refine ⟨D2,_,rfl,bS.of ah,fun l hl=>?_⟩
     have ndD2:d≠D2:=ak ah hD2'
     have ndl:d≠l:=ak (H:=upd (upd H3 d (.dK [])) D2 _) (by rw [ag ndD2];exact ah) hl
     refine ⟨by rw [ag ndl,ag ndD2];exact ah,a5 n 0 l,rfl,(by show 3≤15;decide),?_⟩
     rw [wL]
     have hD20:H D2=none:=(s1.trans (cy.upd hd)).free hD2'
     have hl0:H l=none:=((s1.trans (cy.upd hd)).trans (cy.upd hD2')).free hl
     have e3:∃ ks:List Int,((((ms.map fP).map V.int).filter vI).map id).reverse=ks.map V.int∧∀ n∈ks,0≤n:=by
      refine ⟨((ms.map fP).filter fun i=>vI (.int i)).reverse,?_,?_⟩
      ·rw [List.map_id,List.filter_map,List.map_reverse]
       rfl
      ·intro n hn'
       obtain ⟨i,_,rfl⟩:=List.mem_map.mp (List.mem_filter.mp (List.mem_reverse.mp hn')).1
       exact uq i
     obtain ⟨ks,e3,hks⟩:=e3
     rw [e3]
     refine k d l _ oV hl0 ⟨n,0,ks,ah,by rw [ag (Ne.symm ndl)];exact ah,h0,h1,Int.le_refl _,hks⟩ ?_
     exact (((s1.trans (cy.upd hd)).trans (cy.upd hD2')).za hl0).za oV
end
end aR
namespace aR
open PySem L2
theorem dY (c:Nat):(⟨#[c]⟩:Str).length=1:=rfl
theorem aW (x y:Str):(x++y).length=x.length+y.length:=by
 first
  | exact Str.length_append x y
  | (show (x.cps++y.cps).size=x.cps.size+y.cps.size;exact Array.size_append)
theorem join_ones:∀ (cs:List Nat),(Txt.join ("":Str) (cs.map fun c=>(⟨#[c]⟩:Str))).length≤cs.length
 | []=>Nat.le_refl _
 | [c]=>Nat.le_refl _
 | c::d::r=>by
  have ih:=join_ones (d::r)
  have e:(Txt.join ("":Str) ((c::d::r).map fun c=>(⟨#[c]⟩:Str)))=(⟨#[c]⟩:Str)++("":Str)++Txt.join ("":Str) ((d::r).map fun c=>(⟨#[c]⟩:Str)):=by
   unfold Txt.join
   rw [PySem.StrLaws.glued_eq_join,PySem.StrLaws.glued_eq_join]
   rfl
  rw [e,aW,aW]
  have:("":Str).length=0:=rfl
  rw [dY]
  show _≤(d::r).length+1
  omega
theorem k4:∀ (cs:List Nat),((cs.map fun c=>(⟨#[c]⟩:Str)).map (·.length)).sum=cs.length
 | []=>rfl
 | c::r=>by
  rw [List.map_cons,List.map_cons,List.sum_cons,k4 r,List.length_cons]
  have:(⟨#[c]⟩:Str).length=1:=rfl
  omega
abbrev Av:Str:="abcdefghijklmnopqrstuvwxyz"
def near:List Str:=["lets","asks","maker","tabs","too","news","zeros","casey","madex","defa","num","askedx"]
end aR
namespace aR
open PySem L2
end aR
namespace DL
open PySem PySem.Spec L2
open PyProof.Rows hiding St
inductive D where
 | aS | bl (b:Bool) | int (i:Int) | str (x:Str) | eK (a:Addr) | ty (n:String)
 | tup (ds:List D) | lst (ds:List D) | mE (ks:List Key) (vs:List D) | dA (ks:List (List Key)) (vs:List D)
def TupAt (_K:PySem.W.Frag) (H:Hp) (M:Addr→Prop) (a:Addr) (xs:List V):Prop:=M a∧H a=some (.tup xs)
theorem TupAt.sq {K:PySem.W.Frag} {H:Hp} {M:Addr→Prop} {a:Addr} {xs:List V} (h:TupAt K H M a xs):dw K H a xs:=.of h.2
section
variable (K:PySem.W.Frag) (H:Hp) (M:Addr→Prop)
mutual
def Rep:D→V→Prop
 | .aS,v=>v=.aS
 | .bl b,v=>v=.bl b
 | .int i,v=>v=.int i
 | .str x,v=>v=.str x
 | .eK a,v=>v=.ref a
 | .ty n,v=>v=.ty n
 | .tup ds,v=>∃ a xs,v=.ref a∧TupAt K H M a xs∧ai ds xs
 | .lst ds,v=>∃ a xs,v=.ref a∧(M a∧H a=some (.lst xs))∧ai ds xs
 | .mE ks vs,v=>∃ (a:Addr) (kvs:List (Key×V)),v=.ref a∧(M a∧H a=some (.dK kvs))∧kvs.map (·.1)=ks∧ai vs (kvs.map (·.2))
 | .dA ks vs,v=>∃ (a:Addr) (kvs:List (List Key×V)),v=.ref a∧(M a∧H a=some (.dT kvs))∧kvs.map (·.1)=ks∧ai vs (kvs.map (·.2))
def ai:List D→List V→Prop
 | [],xs=>xs=[]
 | d::ds,xs=>∃ x r,xs=x::r∧Rep d x∧ai ds r
end
def bh:D→HO→Prop
 | .lst ds,.lst xs=>ai K H M ds xs
 | .mE ks vs,.dK kvs=>kvs.map (·.1)=ks∧ai K H M vs (kvs.map (·.2))
 | .dA ks vs,.dT kvs=>kvs.map (·.1)=ks∧ai K H M vs (kvs.map (·.2))
 | _,_=>False
end
section
variable {K:PySem.W.Frag} {H H':Hp} {M M':Addr→Prop}
theorem TupAt.mono (hM:∀ b,M b→M' b) (hH:∀ b o,M b→H b=some o→H' b=some o) {a:Addr} {xs:List V} (h:TupAt K H M a xs):TupAt K H' M' a xs:=⟨hM a h.1,hH a _ h.1 h.2⟩
mutual
theorem Rep.mono (hM:∀ b,M b→M' b) (hH:∀ b o,M b→H b=some o→H' b=some o):∀ (d:D) (v:V),Rep K H M d v→Rep K H' M' d v
 | .aS,v,h=>h
 | .bl b,v,h=>h
 | .int i,v,h=>h
 | .str x,v,h=>h
 | .eK a,v,h=>h
 | .ty n,v,h=>h
 | .tup ds,v,h=>by
  obtain ⟨a,xs,e,t,r⟩:=h
  exact ⟨a,xs,e,t.mono hM hH,ai.mono hM hH ds xs r⟩
 | .lst ds,v,h=>by
  obtain ⟨a,xs,e,⟨m,t⟩,r⟩:=h
  exact ⟨a,xs,e,⟨hM a m,hH a _ m t⟩,ai.mono hM hH ds xs r⟩
 | .mE ks vs,v,h=>by
  obtain ⟨a,xs,e,⟨m,t⟩,k,r⟩:=h
  exact ⟨a,xs,e,⟨hM a m,hH a _ m t⟩,k,ai.mono hM hH vs _ r⟩
 | .dA ks vs,v,h=>by
  obtain ⟨a,xs,e,⟨m,t⟩,k,r⟩:=h
  exact ⟨a,xs,e,⟨hM a m,hH a _ m t⟩,k,ai.mono hM hH vs _ r⟩
theorem ai.mono (hM:∀ b,M b→M' b) (hH:∀ b o,M b→H b=some o→H' b=some o):∀ (ds:List D) (vs:List V),ai K H M ds vs→ai K H' M' ds vs
 | [],vs,h=>h
 | d::ds,vs,h=>by
  obtain ⟨x,r,e,h1,h2⟩:=h
  exact ⟨x,r,e,Rep.mono hM hH d x h1,ai.mono hM hH ds r h2⟩
end
theorem bh.mono (hM:∀ b,M b→M' b) (hH:∀ b o,M b→H b=some o→H' b=some o) {d:D} {o:HO} (h:bh K H M d o):bh K H' M' d o:=by
 unfold bh at h ⊢
 split at h
 ·exact ai.mono hM hH _ _ h
 ·exact ⟨h.1,ai.mono hM hH _ _ h.2⟩
 ·exact ⟨h.1,ai.mono hM hH _ _ h.2⟩
 ·exact h.elim
theorem ai.length:∀ {ds:List D} {vs:List V},ai K H M ds vs→vs.length=ds.length
 | [],vs,h=>by
  have h:vs=[]:=h
  rw [h];rfl
 | d::ds,vs,h=>by
  obtain ⟨x,r,e,h1,h2⟩:=h
  rw [e,List.length_cons,List.length_cons,ai.length h2]
theorem ai.get:∀ {ds:List D} {vs:List V} {i:Nat} {d:D},ai K H M ds vs→ds[i]?=some d→∃ v,vs[i]?=some v∧Rep K H M d v
 | [],vs,i,d,h,e=>by simp at e
 | c::ds,vs,0,d,h,e=>by
  obtain ⟨x,r,rfl,h1,h2⟩:=h
  simp at e
  subst e
  exact ⟨x,rfl,h1⟩
 | c::ds,vs,i+1,d,h,e=>by
  obtain ⟨x,r,rfl,h1,h2⟩:=h
  obtain ⟨v,h3,h4⟩:=ai.get (i:=i) (d:=d) h2 (by simpa using e)
  exact ⟨v,by simpa using h3,h4⟩
theorem ai.append:∀ {ds es:List D} {vs ws:List V},ai K H M ds vs→ai K H M es ws→ai K H M (ds++es) (vs++ws)
 | [],es,vs,ws,h,h'=>by
  have h:vs=[]:=h
  rw [h]
  exact h'
 | d::ds,es,vs,ws,h,h'=>by
  obtain ⟨x,r,rfl,h1,h2⟩:=h
  exact ⟨x,r++ws,rfl,h1,ai.append h2 h'⟩
theorem ai.take:∀ {ds:List D} {vs:List V} (n:Nat),ai K H M ds vs→ai K H M (ds.take n) (vs.take n)
 | [],vs,n,h=>by
  have h:vs=[]:=h
  rw [h]
  simp [ai]
 | d::ds,vs,0,h=>by simp [ai]
 | d::ds,vs,n+1,h=>by
  obtain ⟨x,r,rfl,h1,h2⟩:=h
  exact ⟨x,r.take n,rfl,h1,ai.take n h2⟩
theorem ai.drop:∀ {ds:List D} {vs:List V} (n:Nat),ai K H M ds vs→ai K H M (ds.drop n) (vs.drop n)
 | [],vs,n,h=>by
  have h:vs=[]:=h
  rw [h]
  simp [ai]
 | d::ds,vs,0,h=>h
 | d::ds,vs,n+1,h=>by
  obtain ⟨x,r,rfl,h1,h2⟩:=h
  exact ai.drop n h2
theorem ai.one {d:D} {v:V} (h:Rep K H M d v):ai K H M [d] [v]:=⟨v,[],rfl,h,rfl⟩
theorem ai.reverse:∀ {ds:List D} {vs:List V},ai K H M ds vs→ai K H M ds.reverse vs.reverse
 | [],vs,h=>by
  have h:vs=[]:=h
  rw [h]
  rfl
 | d::ds,vs,h=>by
  obtain ⟨x,r,rfl,h1,h2⟩:=h
  rw [List.reverse_cons,List.reverse_cons]
  exact ai.append (ai.reverse h2) (ai.one h1)
theorem ai.set {d:D} {v:V} (r:Rep K H M d v):∀ {ds:List D} {vs:List V} (i:Nat),ai K H M ds vs→ai K H M (ds.set i d) (vs.set i v)
 | [],vs,i,h=>by
  have h:vs=[]:=h
  rw [h]
  rfl
 | c::ds,vs,0,h=>by
  obtain ⟨x,r',rfl,h1,h2⟩:=h
  exact ⟨v,r',rfl,r,h2⟩
 | c::ds,vs,i+1,h=>by
  obtain ⟨x,r',rfl,h1,h2⟩:=h
  exact ⟨x,r'.set i v,rfl,h1,ai.set r i h2⟩
end
structure mq where
 own:Addr→Prop
 inv:Hp→Prop
 loc:∀ H H',inv H→(∀ b o,(own b∨∃ φ,o=HO.ext φ)→H b=some o→H' b=some o)→inv H'
 qE:∀ H b,inv H→own b→∃ o,H b=some o
 nt:∀ H b xs,inv H→own b→H b≠some (.tup xs)
 lz:List Addr:=[]
def mq.no:mq:=⟨fun _=>False,fun _=>True,fun _ _ _ _=>trivial,fun _ _ _ h=>h.elim,fun _ _ _ _ h=>h.elim,[]⟩
def Nu (H:Hp) (b:Addr):Prop:=H b=none∨∃ xs,H b=some (.tup xs)
def bg (d l:Addr):mq where
 own:=fun b=>b=d∨b=l
 inv:=fun H=>aR.At H d l
 loc:=fun H H' h k=>by
  obtain ⟨a,b,ns,h1,h2,r⟩:=h.ex
  exact ⟨a,b,ns,k _ _ (.inl (.inl rfl)) h1,k _ _ (.inl (.inr rfl)) h2,r⟩
 qE:=fun H b h e=>by
  obtain ⟨a,_,ns,h1,h2,r⟩:=h.ex
  rcases e with rfl | rfl
  ·exact ⟨_,h1⟩
  ·exact ⟨_,h2⟩
 nt:=fun H b xs h e=>by
  obtain ⟨a,_,ns,h1,h2,r⟩:=h.ex
  rcases e with rfl | rfl
  ·rw [h1];intro z;cases z
  ·rw [h2];intro z;cases z
structure Ent where
 g:mq
 M0:Addr→Prop
 H0:Hp
structure Base (c:Ent) (M:Addr→Prop) (H:Hp):Prop where
 fG:c.g.inv H
 fr:∀ b o,c.H0 b=some o→¬ c.g.own b→H b=some o
 md:∀ b,M b→∃ o,H b=some o
 mo:∀ b,M b→¬ c.g.own b
 m0:∀ b,c.M0 b→M b
 mn:∀ b,M b→c.M0 b∨Nu c.H0 b
inductive Sl where
 | no | dat (d:D) | own (k:Nat)
structure DS where
 sl:List Sl
 os:List (Option D)
def cJ (s:DS) (as:List Addr) (b:Addr):Prop:=∃ (k:Nat) (d:D),s.os[k]?=some (some d)∧as[k]?=some b
structure ar (K:PySem.W.Frag) (c:Ent) (M:Addr→Prop) (s:DS) (as:List Addr) (σ:St) (H:Hp):Prop where
 base:Base c M H
 len:s.sl.length=σ.length
 cZ:as.length=s.os.length
 dat:∀ (i:Nat) (d:D),s.sl[i]?=some (.dat d)→∃ v,σ[i]?=some (some v)∧Rep K H M d v
 own:∀ (i k:Nat),s.sl[i]?=some (.own k)→∃ a,as[k]?=some a∧σ[i]?=some (some (.ref a))
 obj:∀ (k:Nat) (d:D) (a:Addr),s.os[k]?=some (some d)→as[k]?=some a→(∃ o,H a=some o∧bh K H M d o)∧¬ M a∧¬ c.g.own a∧c.H0 a=none
 inj:∀ (k l:Nat) (d e:D) (a:Addr),s.os[k]?=some (some d)→s.os[l]?=some (some e)→as[k]?=some a→as[l]?=some a→k=l
 lt:∀ (k:Nat) (a:Addr),c.g.lz[k]?=some a→as[k]?=some a
structure Ext (c:Ent) (as:List Addr) (M:Addr→Prop) (s:DS) (H:Hp) (M':Addr→Prop) (s':DS) (H':Hp):Prop where
 sub:∀ b,M b→M' b
 new:∀ b,M' b→M b∨Nu H b∨cJ s as b
 keep:∀ b o,H b=some o→¬ c.g.own b→¬ cJ s as b→H' b=some o
 eX:∀ b,cJ s' as b→cJ s as b
section
variable {K:PySem.W.Frag} {c:Ent} {M M' M1 M2:Addr→Prop} {s s' s1 s2:DS} {as:List Addr} {σ:St} {H H' H1 H2:Hp} {a p:Addr} {o:HO} {d:D} {v:V}
theorem ar.nM (L:ar K c M s as σ H) (h:cJ s as a):¬ M a∧¬ c.g.own a∧c.H0 a=none∧∃ o,H a=some o:=by
 obtain ⟨k,d,h1,h2⟩:=h
 obtain ⟨⟨o,q,_⟩,q1,q2,q3⟩:=L.obj k d a h1 h2
 exact ⟨q1,q2,q3,o,q⟩
theorem Base.o6 (B:Base c M H) (h:H a=none):c.H0 a=none:=by
 cases e:c.H0 a with
 | none=>rfl
 | some o =>
  exfalso
  by_cases q:c.g.own a
  ·obtain ⟨o',h'⟩:=c.g.qE H a B.fG q
   rw [h] at h'
   cases h'
  ·have:=B.fr a o e q
   rw [h] at this
   cases this
theorem Ext.pZ (E:Ext c as M s H M' s' H') (L:ar K c M s as σ H):∀ b o,M b→H b=some o→H' b=some o:=fun b o m h =>
 E.keep b o h (L.base.mo b m) fun q=>(L.nM q).1 m
theorem Ext.rep (E:Ext c as M s H M' s' H') (L:ar K c M s as σ H) (r:Rep K H M d v):Rep K H' M' d v:=Rep.mono E.sub (E.pZ L) d v r
theorem Ext.ki (E:Ext c as M s H M' s' H') (L:ar K c M s as σ H) {ds:List D} {vs:List V} (r:ai K H M ds vs):ai K H' M' ds vs:=ai.mono E.sub (E.pZ L) ds vs r
theorem Ext.refl:Ext c as M s H M s H:=⟨fun _ h=>h,fun _ h=>.inl h,fun _ _ h _ _=>h,fun _ h=>h⟩
theorem Ext.trans (E1:Ext c as M s H M1 s1 H1) (B1:Base c M1 H1) (E2:Ext c as M1 s1 H1 M2 s2 H2):Ext c as M s H M2 s2 H2 where
 sub:=fun b h=>E2.sub b (E1.sub b h)
 new:=fun b h=>by
  rcases E2.new b h with h | h | h
  ·exact E1.new b h
  ·cases q:H b with
   | none=>exact .inr (.inl (.inl q))
   | some o =>
    by_cases g:c.g.own b
    ·rcases h with h | ⟨xs,h⟩
     ·obtain ⟨o',h'⟩:=c.g.qE H1 b B1.fG g
      rw [h] at h'
      cases h'
     ·exact absurd h (c.g.nt H1 b xs B1.fG g)
    ·by_cases w:cJ s as b
     ·exact .inr (.inr w)
     ·have:=E1.keep b o q g w
      rcases h with h | ⟨xs,h⟩
      ·rw [h] at this
       cases this
      ·rw [h] at this
       cases this
       exact .inr (.inl (.inr ⟨xs,q⟩))
  ·exact .inr (.inr (E1.eX b h))
 keep:=fun b o h g w=>E2.keep b o (E1.keep b o h g w) g fun q=>w (E1.eX b q)
 eX:=fun b h=>E1.eX b (E2.eX b h)
theorem ar.laid (L:ar K c M s as σ H) (hp:H p=none):ar K c M s as σ (upd H p o):=by
 have kp:∀ b u,H b=some u→upd H p o b=some u:=fun b u e=>by rw [ag (ak e hp)];exact e
 refine ⟨⟨c.g.loc H _ L.base.fG fun b u _ e=>kp b u e,fun b u e g=>kp b u (L.base.fr b u e g),fun b m=>?_,L.base.mo,L.base.m0,L.base.mn⟩,L.len,L.cZ,fun i d e=>?_,L.own,fun k d a e1 e2=>?_,L.inj,L.lt⟩
 ·obtain ⟨u,e⟩:=L.base.md b m
  exact ⟨u,kp b u e⟩
 ·obtain ⟨v,h1,h2⟩:=L.dat i d e
  exact ⟨v,h1,Rep.mono (fun _ h=>h) (fun b u _ e=>kp b u e) d v h2⟩
 ·obtain ⟨⟨u,q,r⟩,q1⟩:=L.obj k d a e1 e2
  exact ⟨⟨u,kp _ _ q,bh.mono (fun _ h=>h) (fun b u _ e=>kp b u e) r⟩,q1⟩
theorem Ext.laid (hp:H p=none):Ext c as M s H M s (upd H p o):=⟨fun _ h=>h,fun _ h=>.inl h,fun b u e _ _=>by rw [ag (ak e hp)];exact e,fun _ h=>h⟩
theorem ar.xp (L:ar K c M s as σ H) (ha:H a=some o) (g:¬ c.g.own a) (w:¬ cJ s as a) (h0:Nu c.H0 a):ar K c (fun b=>M b∨b=a) s as σ H:=by
 have mk:∀ b u,M b→H b=some u→H b=some u:=fun _ _ _ e=>e
 refine ⟨⟨L.base.fG,L.base.fr,fun b m=>?_,fun b m=>?_,fun b m=>.inl (L.base.m0 b m),fun b m=>?_⟩,L.len,L.cZ,fun i d e=>?_,L.own,fun k d b e1 e2=>?_,L.inj,L.lt⟩
 ·rcases m with m | rfl
  ·exact L.base.md b m
  ·exact ⟨o,ha⟩
 ·rcases m with m | rfl
  ·exact L.base.mo b m
  ·exact g
 ·rcases m with m | rfl
  ·exact L.base.mn b m
  ·exact .inr h0
 ·obtain ⟨v,h1,h2⟩:=L.dat i d e
  exact ⟨v,h1,Rep.mono (fun _ h=>.inl h) mk d v h2⟩
 ·obtain ⟨⟨u,q,r⟩,q1,q2⟩:=L.obj k d b e1 e2
  refine ⟨⟨u,q,bh.mono (fun _ h=>.inl h) mk r⟩,fun m=>?_,q2⟩
  rcases m with m | rfl
  ·exact q1 m
  ·exact w ⟨k,d,e1,e2⟩
theorem ar.grown (L:ar K c M s as σ H) (ha:H a=some o) (g:¬ c.g.own a) (w:¬ cJ s as a) (h0:c.H0 a=none):ar K c (fun b=>M b∨b=a) s as σ H:=L.xp ha g w (.inl h0)
theorem bh.xm {xs:List V} (h:bh K H M d (.tup xs)):False:=by cases d<;>exact h
theorem bh.next {φ:Heap→Prop} (h:bh K H M d (.ext φ)):False:=by cases d<;>exact h
theorem ar.fresh (L:ar K c M s as σ H) (hp:H p=none):ar K c (fun b=>M b∨b=p) s as σ (upd H p o):=by
 refine (L.laid (o:=o) hp).grown ah (fun g=>?_) (fun w=>?_) (L.base.o6 hp)
 ·obtain ⟨u,e⟩:=c.g.qE H p L.base.fG g
  rw [hp] at e
  cases e
 ·obtain ⟨_,_,_,u,e⟩:=L.nM w
  rw [hp] at e
  cases e
theorem Ext.fresh (hp:H p=none):Ext c as M s H (fun b=>M b∨b=p) s (upd H p o):=⟨fun _ h=>.inl h,fun b h=>by
 rcases h with h | rfl
 ·exact .inl h
 ·exact .inr (.inl (.inl hp)),fun b u e _ _=>by rw [ag (ak e hp)];exact e,fun _ h=>h⟩
theorem w9 (hp:H p=none) (r:Rep K H M d v):Rep K (upd H p o) (fun b=>M b∨b=p) d v:=Rep.mono (fun _ h=>.inl h) (fun b u _ e=>by rw [ag (ak e hp)];exact e) d v r
theorem eS (hp:H p=none) {ds:List D} {vs:List V} (r:ai K H M ds vs):ai K (upd H p o) (fun b=>M b∨b=p) ds vs:=ai.mono (fun _ h=>.inl h) (fun b u _ e=>by rw [ag (ak e hp)];exact e) ds vs r
theorem bh.rep (h:bh K H M d o) (ha:H a=some o) (m:M a):Rep K H M d (.ref a):=by
 unfold bh at h
 split at h
 ·exact ⟨a,_,rfl,⟨m,ha⟩,h⟩
 ·exact ⟨a,_,rfl,⟨m,ha⟩,h.1,h.2⟩
 ·exact ⟨a,_,rfl,⟨m,ha⟩,h.1,h.2⟩
 ·exact h.elim
end
abbrev bj:=DS→(D→DS→Prop)→Prop
abbrev iI:=DS→(Bool→DS→Prop)→Prop
abbrev dm:=DS→(List D→DS→Prop)→Prop
structure ky where
 nx:DS→Prop
 rt:D→Prop
 rf:D→Prop:=fun _=>False
 bk:DS→Prop:=fun _=>False
 ct:DS→Prop:=fun _=>False
 rs:D→DS→Prop:=fun _ _=>False
abbrev ff:=ky→DS→Prop
section
variable (K:PySem.W.Frag) (c:Ent)
def tE (t:bj):TE:=fun σ H Q=>∃ M s as R,ar K c M s as σ H∧t s R∧∀ d s',R d s'→∀ M' H' v,ar K c M' s' as σ H'→Ext c as M s H M' s' H'→Rep K H' M' d v→Q v H'
def tN (t:bj):TE:=fun σ H Q=>∃ M s as R,ar K c M s as σ H∧t s R∧∀ d s',R d s'→∀ M' H' a o,ar K c M' s' as σ H'→Ext c as M s H M' s' H'→H' a=some o→bh K H' M' d o→¬ M' a→¬ c.g.own a→¬ cJ s' as a→c.H0 a=none→(H a=none∨cJ s as a)→Q (.ref a) H'
def tT (t:iI):TT:=fun σ H Q=>∃ M s as R,ar K c M s as σ H∧t s R∧∀ b s',R b s'→∀ M' H',ar K c M' s' as σ H'→Ext c as M s H M' s' H'→Q b H'
def tA (n:Nat) (t:dm):TA:=fun σ H Q=>∃ M s as R,ar K c M s as σ H∧t s R∧∀ ds s',R ds s'→∀ M' H' vs,ar K c M' s' as σ H'→Ext c as M s H M' s' H'→ai K H' M' ds vs→ds.length=n→Q vs H'
def bX (M:Addr→Prop) (H:Hp) (M':Addr→Prop) (H':Hp):Prop:=∀ b,M b→M' b∧∀ o,H b=some o→H' b=some o
structure nR (M:Addr→Prop) (H:Hp) (R:ky) (E:Ends):Prop where
 nx:∀ s as M' σ H',R.nx s→ar K c M' s as σ H'→bX M H M' H'→E.nx σ H'
 bk:∀ s as M' σ H',R.bk s→ar K c M' s as σ H'→bX M H M' H'→E.bk σ H'
 ct:∀ s as M' σ H',R.ct s→ar K c M' s as σ H'→bX M H M' H'→E.ct σ H'
 rt:∀ d M' H' v,R.rt d→Base c M' H'→Rep K H' M' d v→E.rt v H'
 rf:∀ d M' H' a o,R.rf d→Base c M' H'→H' a=some o→bh K H' M' d o→¬ M' a→¬ c.g.own a→c.H0 a=none→E.rt (.ref a) H'
 rs:∀ d s as M' σ H' v,R.rs d s→ar K c M' s as σ H'→Rep K H' M' d v→E.rt v H'
def tS (t:ff):TS:=fun E σ H=>∃ M s as R,ar K c M s as σ H∧t R s∧nR K c M H R E
end
structure DE (X:Cx) (c:Ent) (e:Expr) (t:bj):Prop where
 pe:PE X e (tE X.K c t)
structure DN (X:Cx) (c:Ent) (e:Expr) (t:bj):Prop where
 pe:PE X e (tN X.K c t)
structure DT (X:Cx) (c:Ent) (e:Expr) (t:iI):Prop where
 pt:PT X e (tT X.K c t)
structure DW (X:Cx) (c:Ent) (e:Expr) (t:iI):Prop where
 pw:PW X e (tT X.K c t)
structure DA (X:Cx) (c:Ent) (es:List Expr) (t:dm):Prop where
 pa:PA X es (tA X.K c es.length t)
structure ot (X:Cx) (c:Ent) (st:Stmt) (t:ff):Prop where
 ps:PS X st (tS X.K c t)
structure oZ (X:Cx) (c:Ent) (st:List Stmt) (t:ff):Prop where
 ps:ic X st (tS X.K c t)
section
variable {X:Cx}
theorem _root_.L2.PE.imp {e:Expr} {t t':TE} (h:PE X e t) (w:∀ σ H Q,t' σ H Q→t σ H Q):PE X e t':=fun pins s σ H Q I q=>h pins s σ H Q I (w σ H Q q)
theorem _root_.L2.PT.imp {e:Expr} {t t':TT} (h:PT X e t) (w:∀ σ H Q,t' σ H Q→t σ H Q):PT X e t':=fun pins s σ H Q I q=>h pins s σ H Q I (w σ H Q q)
theorem _root_.L2.PW.imp {e:Expr} {t t':TT} (h:PW X e t) (w:∀ σ H Q,t' σ H Q→t σ H Q):PW X e t':=fun wh pins s σ H Q I q=>h wh pins s σ H Q I (w σ H Q q)
theorem _root_.L2.PA.imp {es:List Expr} {t t':TA} (h:PA X es t) (w:∀ σ H Q,t' σ H Q→t σ H Q):PA X es t':=fun pos pins s σ H Q I q=>h pos pins s σ H Q I (w σ H Q q)
theorem _root_.L2.PS.imp {st:Stmt} {t t':TS} (h:PS X st t) (w:∀ E σ H,t' E σ H→t E σ H):PS X st t':=fun pins s σ H E I q=>h pins s σ H E I (w E σ H q)
theorem _root_.L2.ic.imp {st:List Stmt} {t t':TS} (h:ic X st t) (w:∀ E σ H,t' E σ H→t E σ H):ic X st t':=fun pins s σ H E I q=>h pins s σ H E I (w E σ H q)
end
end DL
namespace DL
open PySem PySem.Spec L2
open PyProof.Rows hiding St
section
variable {X:Cx} {c:Ent} {a b e:Expr} {es:List Expr} {ta tb te:bj} {t:dm} {pos:Pos}
theorem Ext.plus {as:List Addr} {M M':Addr→Prop} {s s':DS} {H H':Hp} {a:Addr} (E:Ext c as M s H M' s' H') (n:H a=none∨cJ s as a):Ext c as M s H (fun b=>M' b∨b=a) s' H' :=
 ⟨fun b h=>.inl (E.sub b h),fun b h=>by
  rcases h with h | rfl
  ·exact E.new b h
  ·exact .inr (n.imp .inl id),E.keep,E.eX⟩
theorem DN.de (h:DN X c e te):DE X c e te:=⟨h.pe.imp fun σ H Q ⟨M,s,as,R,L,q,k⟩ =>
 ⟨M,s,as,R,L,q,fun d s' r M' H' a o L' E ha ro nm ng nw h0 hn =>
  k d s' r _ H' (.ref a) (L'.grown ha ng nw h0) (E.plus hn) ((ro.mono (fun _ h=>.inl h) fun _ _ _ e=>e).rep ha (.inr rfl))⟩⟩
def GH (i:Nat):bj:=fun s Q=>∃ d,s.sl[i]?=some (.dat d)∧Q d s
theorem dv {i:Nat} (h:PE X e (aM i)):DE X c e (GH i):=⟨h.imp fun σ H Q ⟨M,s,as,R,L,⟨d,e,q⟩,k⟩=>by
 obtain ⟨v,h1,h2⟩:=L.dat i d e
 exact ⟨v,h1,k d s q M H v L .refl h2⟩⟩
def AG (d:D):bj:=fun s Q=>Q d s
def Co:D→V→Prop
 | .aS,v=>v=.aS
 | .bl b,v=>v=.bl b
 | .int i,v=>v=.int i
 | .str x,v=>v=.str x
 | .eK a,v=>v=.ref a
 | .ty n,v=>v=.ty n
 | _,_=>False
theorem Co.rep {d:D} {v:V} {K:PySem.W.Frag} {H:Hp} {M:Addr→Prop} (h:Co d v):Rep K H M d v:=by
 cases d<;>first | exact h | exact h.elim
theorem dc {d:D} {v:V} (h:PE X e (tC v)) (r:Co d v):DE X c e (AG d):=⟨h.imp fun σ H Q ⟨M,s,as,R,L,q,k⟩=>k d s q M H v L .refl r.rep⟩
theorem av {i j}:DE X c (.Constant (.int i) j pos) (AG (.int i)):=dc aJ rfl
theorem nZ {i j}:DE X c (.Constant (.bool i) j pos) (AG (.bl i)):=dc Ad rfl
theorem nE {j}:DE X c (.Constant .none j pos) (AG .aS):=dc xl rfl
theorem aI {i j}:DE X c (.Constant (.str i) j pos) (AG (.str i)):=dc bN rfl
def yz:dm:=fun s Q=>Q [] s
def vE (ta:bj) (tr:dm):dm:=fun s Q=>ta s fun d s1=>tr s1 fun ds s2=>Q (d::ds) s2
theorem ae:DA X c [] yz:=⟨dI.imp fun σ H Q ⟨M,s,as,R,L,q,k⟩=>k [] s q M H [] L .refl rfl rfl⟩
theorem aa (ha:DE X c e te) (hr:DA X c es t) (hs:starEach (e::es) X.env=(false,eval e X.env)::starEach es X.env:=by rfl):DA X c (e::es) (vE te t) :=
 ⟨(bJ ha.pe hr.pa hs).imp fun σ H Q ⟨M,s,as,R,L,q,k⟩ =>
   ⟨M,s,as,_,L,q,fun d s1 q1 M1 H1 x L1 E1 r1=>⟨M1,s1,as,_,L1,q1,fun ds s2 q2 M2 H2 xs Lb E2 r2 hl =>
    k _ s2 q2 M2 H2 _ Lb (E1.trans L1.base E2) ⟨x,xs,rfl,E2.rep L1 r1,r2⟩ (by rw [List.length_cons,List.length_cons,hl])⟩⟩⟩
def zS (t:dm):bj:=fun s Q=>t s fun ds s1=>Q (.tup ds) s1
def yK (t:dm):bj:=fun s Q=>t s fun ds s1=>Q (.lst ds) s1
theorem Bc {n:Nat} (h:(n≤1000:Bool)=true):n≤sizeLine:=Nat.le_trans (of_decide_eq_true h) (by decide)
theorem bV {x1} (h:DA X c es t) (hn:(es.length≤1000:Bool)=true:=by rfl):DE X c (.Tuple es x1 pos) (zS t):=⟨(vM h.pa).imp fun σ H Q ⟨M,s,as,R,L,q,k⟩ =>
 ⟨M,s,as,_,L,q,fun ds s1 q1 M1 H1 xs L1 E1 r1 hl=>⟨by rw [r1.length,hl];exact Bc hn,fun p hp =>
  k _ s1 q1 _ _ _ (L1.fresh hp) (E1.trans L1.base (Ext.fresh hp)) ⟨p,xs,rfl,⟨.inr rfl,ah⟩,eS hp r1⟩⟩⟩⟩
theorem notM {K:PySem.W.Frag} {M:Addr→Prop} {s:DS} {as:List Addr} {σ:St} {H:Hp} {p:Addr} (L:ar K c M s as σ H) (hp:H p=none):¬ M p∧¬ c.g.own p∧¬ cJ s as p∧c.H0 p=none:=by
 refine ⟨fun m=>?_,fun g=>?_,fun w=>?_,L.base.o6 hp⟩
 ·obtain ⟨u,e⟩:=L.base.md p m
  rw [hp] at e
  cases e
 ·obtain ⟨u,e⟩:=c.g.qE H p L.base.fG g
  rw [hp] at e
  cases e
 ·obtain ⟨_,_,_,u,e⟩:=L.nM w
  rw [hp] at e
  cases e
theorem eF {K:PySem.W.Frag} {as:List Addr} {M M1:Addr→Prop} {s s1:DS} {σ:St} {H H1:Hp} {p:Addr} {o:HO} {Q:VK} {d:D} (L:ar K c M s as σ H) (L1:ar K c M1 s1 as σ H1) (E1:Ext c as M s H M1 s1 H1) (hp:H1 p=none) (r:bh K H1 M1 d o)
  (k:∀ M' H' a o,ar K c M' s1 as σ H'→Ext c as M s H M' s1 H'→H' a=some o→bh K H' M' d o→¬ M' a→¬ c.g.own a→¬ cJ s1 as a→c.H0 a=none→(H a=none∨cJ s as a)→Q (.ref a) H'):Q (.ref p) (upd H1 p o):=by
 obtain ⟨n1,n2,n3,n4⟩:=notM L1 hp
 refine k M1 (upd H1 p o) p o (L1.laid hp) (E1.trans L1.base (Ext.laid hp)) ah (r.mono (fun _ h=>h) fun b u _ e=>by rw [ag (ak e hp)];exact e) n1 n2 n3 n4 ?_
 cases q:H p with
 | none=>exact .inl rfl
 | some u =>
  by_cases w:cJ s as p
  ·exact .inr w
  ·have:=E1.keep p u q n2 w
   rw [hp] at this
   cases this
theorem iq (h:DA X c es t) (hn:(es.length≤1000:Bool)=true:=by rfl):DN X c (.List es pos) (yK t):=⟨(wo h.pa).imp fun σ H Q ⟨M,s,as,R,L,q,k⟩ =>
 ⟨M,s,as,_,L,q,fun ds s1 q1 M1 H1 xs L1 E1 r1 hl=>⟨by rw [r1.length,hl];exact Bc hn,fun p hp =>
  eF L L1 E1 hp (d:=.lst ds) r1 (k _ s1 q1)⟩⟩⟩
def Gh (C:D→(D→Prop)→Prop) (ta:bj):bj:=fun s Q=>ta s fun a s1=>C a fun d=>Q d s1
def yW (C:D→D→(D→Prop)→Prop) (ta tb:bj):bj:=fun s Q=>ta s fun a s1=>tb s1 fun b s2=>C a b fun d=>Q d s2
def jX (X:Cx) (c:Ent) (r:R2) (C:D→D→(D→Prop)→Prop):Prop:=∀ (M:Addr→Prop) (s:DS) (as:List Addr) (σ:St) (H:Hp) (x y:V) (dx dy:D) (k:D→Prop) (Q:VK),ar X.K c M s as σ H→Rep X.K H M dx x→Rep X.K H M dy y→C dx dy k →
 (∀ d,k d→∀ M' H' v,ar X.K c M' s as σ H'→Ext c as M s H M' s H'→Rep X.K H' M' d v→Q v H')→r x y H Q
theorem sI {r:R2} {C:D→D→(D→Prop)→Prop} (k:jX X c r C) {σ:St} {H:Hp} {Q:VK}:tE X.K c (yW C ta tb) σ H Q→ef r (tE X.K c ta) (tE X.K c tb) σ H Q:=fun ⟨M,s,as,R,L,q,kk⟩ =>
 ⟨M,s,as,_,L,q,fun da s1 q1 M1 H1 x L1 E1 r1=>⟨M1,s1,as,_,L1,q1,fun db s2 q2 M2 H2 y Lb E2 r2 =>
  k M2 s2 as σ H2 x y da db (fun d=>R d s2) Q Lb (E2.rep L1 r1) r2 q2 fun d rd M' H' v L' E' rv=>kk d s2 rd M' H' v L' ((E1.trans L1.base E2).trans Lb.base E') rv⟩⟩
theorem cL {op:Operator} {r:R2} {C:D→D→(D→Prop)→Prop} (ho:fe X (binaryOp op) r) (k:jX X c r C) (ha:DE X c a ta) (hb:DE X c b tb):DE X c (.BinOp a op b pos) (yW C ta tb):=⟨(bo ho ha.pe hb.pe).imp fun _ _ _=>sI k⟩
theorem zk {op:CmpOp} {r:R2} {C:D→D→(D→Prop)→Prop} (ho:fe X (compareOp op) r) (k:jX X c r C) (ha:DE X c a ta) (hb:DE X c b tb) (hm:behindInMarks op b=false):DE X c (.Compare a [op] [b] pos) (yW C ta tb):=⟨(sJ ho ha.pe hb.pe hm).imp fun _ _ _=>sI k⟩
theorem cF {r:R2} {C:D→D→(D→Prop)→Prop} (ho:yB X r) (k:jX X c r C) (ha:DE X c a ta) (hb:DE X c b tb) (hs:nH b):DE X c (.Subscript a b pos) (yW C ta tb):=⟨(zO ho ha.pe hb.pe hs).imp fun _ _ _=>sI k⟩
def Bg (t:bj):iI:=fun s Q=>t s fun d s1=>∃ k,d=.bl k∧Q k s1
theorem ju {t:bj} {t':TE} (h:∀ {σ H Q},tE X.K c t σ H Q→t' σ H Q) {σ:St} {H:Hp} {Q:Bool→Hp→Prop}:tT X.K c (Bg t) σ H Q→iH t' σ H Q:=fun ⟨M,s,as,R,L,q,kk⟩ =>
 h ⟨M,s,as,_,L,q,fun d s1 ⟨k,e,r⟩ M' H' v L' E' rv=>by
  subst e
  exact ⟨k,rv,kk k s1 r M' H' L' E'⟩⟩
theorem bC {op:CmpOp} {r:R2} {C:D→D→(D→Prop)→Prop} (ho:fe X (compareOp op) r) (k:jX X c r C) (ha:DE X c a ta) (hb:DE X c b tb) (hm:behindInMarks op b=false):DT X c (.Compare a [op] [b] pos) (Bg (yW C ta tb)) :=
 ⟨(dU ho ha.pe hb.pe hm).imp fun _ _ _=>ju (sI k)⟩
theorem jB (h:DE X c e te) (he:∀ whole,isTrue e X.env whole=(do let v ← whole;standAt e.pos;holding [v] (truthy v)):=by intro _;rfl):DT X c e (Bg te):=⟨(xE h.pe he).imp fun _ _ _=>ju fun q=>q⟩
def zK (t u:iI):iI:=fun s Q=>t s fun b s1=>if b=true then u s1 Q else Q false s1
def torD (t u:iI):iI:=fun s Q=>t s fun b s1=>if b=true then Q true s1 else u s1 Q
theorem DW.dt {t:iI} (h:DW X c e t):DT X c e t:=⟨h.pw.pt⟩
section
variable {tA tB:iI} {rest:List Expr}
theorem sy (h:DT X c a tA):DW X c (.BoolOp .And [a] pos) tA:=⟨pw_and1 h.pt⟩
theorem wV (h:DT X c a tA):DW X c (.BoolOp .Or [a] pos) tA:=⟨pw_or1 h.pt⟩
theorem wD (ha:DT X c a tA) (hb:DW X c (.BoolOp .And (b::rest) pos) tB):DW X c (.BoolOp .And (a::b::rest) pos) (zK tA tB):=⟨(pw_and ha.pt hb.pw).imp fun σ H Q ⟨M,s,as,R,L,q,k⟩ =>
 ⟨M,s,as,_,L,q,fun x s1 r M1 H1 L1 E1=>by
  cases x with
  | true=>exact mm ⟨M1,s1,as,_,L1,(by simpa using r),fun y s2 r2 M2 H2 Lb E2=>k y s2 r2 M2 H2 Lb (E1.trans L1.base E2)⟩
  | false=>exact lI (k false s1 (by simpa using r) M1 H1 L1 E1)⟩⟩
theorem zb (ha:DT X c a tA) (hb:DW X c (.BoolOp .Or (b::rest) pos) tB):DW X c (.BoolOp .Or (a::b::rest) pos) (torD tA tB):=⟨(pw_or ha.pt hb.pw).imp fun σ H Q ⟨M,s,as,R,L,q,k⟩ =>
 ⟨M,s,as,_,L,q,fun x s1 r M1 H1 L1 E1=>by
  cases x with
  | true=>exact mm (k true s1 (by simpa using r) M1 H1 L1 E1)
  | false=>exact lI ⟨M1,s1,as,_,L1,(by simpa using r),fun y s2 r2 M2 H2 Lb E2=>k y s2 r2 M2 H2 Lb (E1.trans L1.base E2)⟩⟩⟩
end
end
end DL
namespace DL
open PySem PySem.Spec L2
open PyProof.Rows hiding St
section
variable {K:PySem.W.Frag} {c:Ent} {M M' M1:Addr→Prop} {s s' s1:DS} {as:List Addr} {σ:St} {H H' H1:Hp} {a p:Addr} {o:HO} {d:D} {v:V}
theorem bX.refl:bX M H M H:=fun b m=>⟨m,fun _ e=>e⟩
theorem bX.trans {M2:Addr→Prop} {H2:Hp} (g1:bX M H M1 H1) (g2:bX M1 H1 M2 H2):bX M H M2 H2:=fun b m=>⟨(g2 b (g1 b m).1).1,fun o e=>(g2 b (g1 b m).1).2 o ((g1 b m).2 o e)⟩
theorem Ext.grow (E:Ext c as M s H M' s' H') (L:ar K c M s as σ H):bX M H M' H':=fun b m=>⟨E.sub b m,fun o e=>E.pZ L b o m e⟩
theorem bX.ki (G:bX M H M' H') {ds:List D} {vs:List V} (r:ai K H M ds vs):ai K H' M' ds vs:=ai.mono (fun b m=>(G b m).1) (fun b o m e=>(G b m).2 o e) ds vs r
theorem nR.grow {R:ky} {E:Ends} (k:nR K c M H R E) (G:bX M H M1 H1):nR K c M1 H1 R E :=
 ⟨fun s as M' σ H' r L g=>k.nx s as M' σ H' r L (G.trans g),fun s as M' σ H' r L g=>k.bk s as M' σ H' r L (G.trans g),fun s as M' σ H' r L g=>k.ct s as M' σ H' r L (G.trans g),k.rt,k.rf,k.rs⟩
def DS.set (s:DS) (i:Nat) (x:Sl):DS:=⟨s.sl.set i x,s.os⟩
def DS.put (s:DS) (k:Nat) (d:D):DS:=⟨s.sl,s.os.set k (some d)⟩
theorem bK {α:Type} {l:List α} {i j:Nat} {x y:α} (h:(l.set i x)[j]?=some y):(i=j∧j < l.length∧y=x)∨(i≠j∧l[j]?=some y):=by
 by_cases e:i=j
 ·subst e
  by_cases hl:i < l.length
  ·rw [List.getElem?_set_self hl] at h
   exact .inl ⟨rfl,hl,(Option.some.inj h).symm⟩
  ·rw [List.getElem?_eq_none (by rw [List.length_set];omega)] at h
   cases h
 ·rw [List.getElem?_set_ne e] at h
  exact .inr ⟨e,h⟩
theorem ar.ux (L:ar K c M s as σ H) (i:Nat) (r:Rep K H M d v):ar K c M (s.set i (.dat d)) as (σ.set i (some v)) H where
 base:=L.base
 len:=by show (s.sl.set i _).length=_;rw [List.length_set,List.length_set];exact L.len
 cZ:=L.cZ
 dat:=fun j e h=>by
  rcases bK h with ⟨rfl,hl,q⟩ | ⟨ne,q⟩
  ·cases q
   exact ⟨v,List.getElem?_set_self (by rw [← L.len];exact hl),r⟩
  ·obtain ⟨w,h1,h2⟩:=L.dat j e q
   exact ⟨w,by rw [List.getElem?_set_ne ne];exact h1,h2⟩
 own:=fun j k h=>by
  rcases bK h with ⟨rfl,hl,q⟩ | ⟨ne,q⟩
  ·cases q
  ·obtain ⟨w,h1,h2⟩:=L.own j k q
   exact ⟨w,h1,by rw [List.getElem?_set_ne ne];exact h2⟩
 obj:=L.obj
 inj:=L.inj
 lt:=L.lt
def noRef (k:Nat):Nat→List Sl→Bool
 | _,[]=>true
 | 0,_::r=>noRef k (r.length+1) r
 | i+1,.own j::r=>(j != k)&&noRef k i r
 | i+1,_::r=>noRef k i r
theorem i6 {k:Nat}:∀ {l:List Sl} {i j:Nat},l.length≤i→noRef k i l=true→l[j]?≠some (.own k)
 | [],i,j,hl,h,e=>by simp at e
 | x::r,0,j,hl,h,e=>by simp at hl
 | x::r,i+1,0,hl,h,e=>by
  simp at e
  subst e
  simp [noRef] at h
 | x::r,i+1,j+1,hl,h,e=>by
  refine i6 (l:=r) (i:=i) (j:=j) (by simpa using hl) ?_ (by simpa using e)
  cases x with
  | own q=>simp [noRef] at h;exact h.2
  | no=>exact h
  | dat q=>exact h
theorem kn {k:Nat}:∀ {l:List Sl} {i j:Nat},noRef k i l=true→i≠j→l[j]?≠some (.own k)
 | [],i,j,h,ne,e=>by simp at e
 | x::r,0,0,h,ne,e=>ne rfl
 | x::r,0,j+1,h,ne,e=>by
  have e':r[j]?=some (.own k):=by simpa using e
  exact i6 (l:=r) (i:=r.length+1) (by omega) h e'
 | x::r,i+1,0,h,ne,e=>by
  simp at e
  subst e
  simp [noRef] at h
 | x::r,i+1,j+1,h,ne,e=>by
  refine kn (l:=r) (i:=i) (j:=j) ?_ (by omega) (by simpa using e)
  cases x with
  | own q=>simp [noRef] at h;exact h.2
  | no=>exact h
  | dat q=>exact h
theorem ar.Ez (L:ar K c M s as σ H) (i k:Nat) (hk:k < s.os.length) (nr:noRef k i s.sl=true) (ha:H a=some o) (r:bh K H M d o) (nm:¬ M a) (ng:¬ c.g.own a) (nw:¬ cJ s as a) (h0:c.H0 a=none) (eu:c.g.lz.length≤k) :
  ar K c M ⟨s.sl.set i (.own k),s.os.set k (some d)⟩ (as.set k a) (σ.set i (some (.ref a))) H where
 base:=L.base
 len:=by show (s.sl.set i _).length=_;rw [List.length_set,List.length_set];exact L.len
 cZ:=by show (as.set k a).length=(s.os.set k _).length;rw [List.length_set,List.length_set];exact L.cZ
 dat:=fun j e h=>by
  rcases bK h with ⟨rfl,hl,q⟩ | ⟨ne,q⟩
  ·cases q
  ·obtain ⟨w,h1,h2⟩:=L.dat j e q
   exact ⟨w,by rw [List.getElem?_set_ne ne];exact h1,h2⟩
 own:=fun j l h=>by
  rcases bK h with ⟨rfl,hl,q⟩ | ⟨ne,q⟩
  ·cases q
   exact ⟨a,List.getElem?_set_self (by rw [L.cZ];exact hk),List.getElem?_set_self (by rw [← L.len];exact hl)⟩
  ·obtain ⟨w,h1,h2⟩:=L.own j l q
   refine ⟨w,?_,by rw [List.getElem?_set_ne ne];exact h2⟩
   have:k≠l:=fun z=>by
    subst z
    exact kn nr ne q
   rw [List.getElem?_set_ne this]
   exact h1
 obj:=fun l e b h1 h2=>by
  rcases bK h1 with ⟨rfl,hl,q⟩ | ⟨ne,q⟩
  ·cases q
   rw [List.getElem?_set_self (by rw [L.cZ];exact hl)] at h2
   cases h2
   exact ⟨⟨o,ha,r⟩,nm,ng,h0⟩
  ·rw [List.getElem?_set_ne ne] at h2
   exact L.obj l e b q h2
 inj:=fun l m e f b h1 h2 g1 g2=>by
  rcases bK h1 with ⟨rfl,hl,q⟩ | ⟨ne,q⟩
  ·rcases bK h2 with ⟨rfl,hl',q'⟩ | ⟨ne',q'⟩
   ·rfl
   ·rw [List.getElem?_set_self (by rw [L.cZ];exact hl)] at g1
    cases g1
    rw [List.getElem?_set_ne ne'] at g2
    exact absurd ⟨m,f,q',g2⟩ nw
  ·rcases bK h2 with ⟨rfl,hl',q'⟩ | ⟨ne',q'⟩
   ·rw [List.getElem?_set_self (by rw [L.cZ];exact hl')] at g2
    cases g2
    rw [List.getElem?_set_ne ne] at g1
    exact absurd ⟨l,e,q,g1⟩ nw
   ·rw [List.getElem?_set_ne ne] at g1
    rw [List.getElem?_set_ne ne'] at g2
    exact L.inj l m e f b q q' g1 g2
 lt:=fun l b h=>by
  have h1:=L.lt l b h
  have hl:l < c.g.lz.length:=(List.getElem?_eq_some_iff.mp h).1
  rw [List.getElem?_set_ne (by omega)]
  exact h1
theorem ar.jd {d0:D} {k:Nat} (L:ar K c M s as σ H) (hk:s.os[k]?=some (some d0)) (ha:as[k]?=some a) (r:bh K H M d o):ar K c M (s.put k d) as σ (upd H a o):=by
 obtain ⟨⟨o0,q0,r0⟩,nm,ng,h0⟩:=L.obj k d0 a hk ha
 have kp:∀ b u,b≠a→H b=some u→upd H a o b=some u:=fun b u ne e=>by rw [ag ne];exact e
 have km:∀ b u,M b→H b=some u→upd H a o b=some u:=fun b u m e=>kp b u (fun z=>nm (z▸m)) e
 refine ⟨⟨c.g.loc H _ L.base.fG fun b u g e=>kp b u (fun z=>g.elim (fun g=>ng (z▸g)) fun ⟨φ,f⟩=>by subst f;rw [z,q0] at e;cases e;exact r0.next) e,fun b u e g=>?_,fun b m=>?_,L.base.mo,L.base.m0,L.base.mn⟩,L.len,?_,fun i e h=>?_,L.own,fun l e b h1 h2=>?_,fun l m e f b h1 h2 g1 g2=>?_,L.lt⟩
 ·exact kp b u (fun z=>by rw [z,h0] at e;cases e) (L.base.fr b u e g)
 ·obtain ⟨u,e⟩:=L.base.md b m
  exact ⟨u,km b u m e⟩
 ·show as.length=(s.os.set k _).length
  rw [List.length_set]
  exact L.cZ
 ·obtain ⟨w,h1,h2⟩:=L.dat i e h
  exact ⟨w,h1,Rep.mono (fun _ m=>m) km e w h2⟩
 ·rcases bK h1 with ⟨rfl,hl,q⟩ | ⟨ne,q⟩
  ·cases q
   rw [ha] at h2
   cases h2
   exact ⟨⟨o,ah,r.mono (fun _ m=>m) km⟩,nm,ng,h0⟩
  ·obtain ⟨⟨u,q1,q2⟩,q3⟩:=L.obj l e b q h2
   refine ⟨⟨u,kp b u (fun z=>?_) q1,q2.mono (fun _ m=>m) km⟩,q3⟩
   subst z
   exact ne (L.inj k l d0 e b hk q ha h2)
 ·have back:∀ {l:Nat} {e:D},(s.put k d).os[l]?=some (some e)→∃ e',s.os[l]?=some (some e'):=fun {l e} h=>by
   rcases bK h with ⟨rfl,hl,q⟩ | ⟨ne,q⟩
   ·exact ⟨d0,hk⟩
   ·exact ⟨e,q⟩
  obtain ⟨e',q1⟩:=back h1
  obtain ⟨f',q2⟩:=back h2
  exact L.inj l m e' f' b q1 q2 g1 g2
theorem Ext.jd {d0:D} {k:Nat} (hk:s.os[k]?=some (some d0)) (ha:as[k]?=some a):Ext c as M s H M (s.put k d) (upd H a o) where
 sub:=fun _ m=>m
 new:=fun _ m=>.inl m
 keep:=fun b u e g w=>by
  have ne:b≠a:=fun z=>by
   subst z
   exact w ⟨k,d0,hk,ha⟩
  rw [ag ne]
  exact e
 eX:=fun b ⟨l,e,h1,h2⟩=>by
  rcases bK h1 with ⟨rfl,hl,q⟩ | ⟨ne,q⟩
  ·exact ⟨k,d0,hk,h2⟩
  ·exact ⟨l,e,q,h2⟩
theorem ar.slot {i k:Nat} {d0:D} (L:ar K c M s as σ H) (hi:s.sl[i]?=some (.own k)) (hk:s.os[k]?=some (some d0)):∃ a o,as[k]?=some a∧σ[i]?=some (some (.ref a))∧H a=some o∧bh K H M d0 o:=by
 obtain ⟨a,h1,h2⟩:=L.own i k hi
 obtain ⟨⟨o,q1,q2⟩,_⟩:=L.obj k d0 a hk h1
 exact ⟨a,o,h1,h2,q1,q2⟩
end
section
variable {X:Cx} {c:Ent} {a b e:Expr} {es:List Expr} {ta tb te:bj} {st:Stmt} {Az:List Stmt} {t u:ff} {pos:Pos}
def wR:ff:=fun R s=>R.nx s
def AI (t u:ff):ff:=fun R s=>t { R with nx:=u R } s
theorem bB:oZ X c [] wR:=⟨nC.imp fun E σ H ⟨M,s,as,R,L,q,k⟩=>k.nx s as M σ H q L .refl⟩
theorem aj (h1:ot X c st t) (h2:oZ X c Az u):oZ X c (st::Az) (AI t u):=⟨(aZ h1.ps h2.ps).imp fun E σ H ⟨M,s,as,R,L,q,k⟩ =>
 ⟨M,s,as,{ R with nx:=u R },L,q,⟨fun s' as' M' σ' H' r L' G=>⟨M',s',as',R,L',r,k.grow G⟩,k.bk,k.ct,k.rt,k.rf,k.rs⟩⟩⟩
theorem au (h1:ot X c st t):oZ X c [st] t:=⟨dg h1.ps⟩
def vT (te:bj):ff:=fun R s=>te s fun _ s1=>R.nx s1
theorem gM (he:DE X c e te) (hs:swapsWith e none pos.line X.env=pure false:=by rfl):ot X c (.Expr e pos) (vT te):=⟨(sA he.pe hs).imp fun E σ H ⟨M,s,as,R,L,q,k⟩ =>
 ⟨M,s,as,_,L,q,fun d s1 r M' H' v L' E' rv=>k.nx s1 as M' σ H' r L' (E'.grow L)⟩⟩
def yY (te:bj):ff:=fun R s=>te s fun d _=>R.rt d
theorem a6 (he:DE X c e te):ot X c (.Return (some e) pos) (yY te):=⟨(gp he.pe).imp fun E σ H ⟨M,s,as,R,L,q,k⟩ =>
 ⟨M,s,as,_,L,q,fun d s1 r M' H' v L' E' rv=>k.rt d M' H' v r L'.base rv⟩⟩
def Bz (tc:iI) (t u:ff):ff:=fun R s=>tc s fun b s1=>if b=true then t R s1 else u R s1
theorem dk {x:Expr} {l r:List Stmt} {tc:iI} (hc:DT X c x tc) (ha:oZ X c l t) (hb:oZ X c r u):ot X c (.If x l r pos) (Bz tc t u):=⟨(vz hc.pt ha.ps hb.ps).imp fun E σ H ⟨M,s,as,R,L,q,k⟩ =>
 ⟨M,s,as,_,L,q,fun b s1 r M' H' L' E'=>by
  cases b with
  | true=>exact mm ⟨M',s1,as,R,L',by simpa using r,k.grow (E'.grow L)⟩
  | false=>exact lI ⟨M',s1,as,R,L',by simpa using r,k.grow (E'.grow L)⟩⟩⟩
def uJ (i:Nat) (te:bj):ff:=fun R s=>te s fun d s1=>R.nx (s1.set i (.dat d))
theorem wY {i:Nat} {Gz:TE} (h:∀ {σ H Q},tE X.K c te σ H Q→Gz σ H Q) {E:Ends} {σ:St} {H:Hp}:tS X.K c (uJ i te) E σ H→fA Gz (ck i) E σ H:=fun ⟨M,s,as,R,L,q,k⟩ =>
 h ⟨M,s,as,_,L,q,fun d s1 r M' H' v L' E' rv=>k.nx _ as M' _ H' r (L'.ux i rv) (E'.grow L)⟩
theorem bT {i:Nat} (h:PS X st (fA (tE X.K c te) (ck i))):ot X c st (uJ i te):=⟨h.imp fun E σ H=>wY fun q=>q⟩
def ltB {α:Type}:Nat→List α→Bool
 | 0,[]=>false
 | _+1,[]=>false
 | 0,_::_=>true
 | k+1,_::r=>ltB k r
theorem qq {α:Type}:∀ {k:Nat} {l:List α},ltB k l=true→k < l.length
 | 0,[],h=>by cases h
 | _+1,[],h=>by cases h
 | 0,_::_,_=>by simp
 | k+1,_::r,h=>by
  have:=qq (k:=k) (l:=r) h
  simp
  omega
def zM (i k:Nat) (te:bj):ff:=fun R s=>te s fun d s1=>(ltB k s1.os=true∧noRef k i s1.sl=true)∧R.nx ⟨s1.sl.set i (.own k),s1.os.set k (some d)⟩
theorem jq {i k:Nat} (h:PS X st (fA (tN X.K c te) (ck i))) (eu:c.g.lz.length≤k:=by first | exact Nat.zero_le _ | exact Nat.le_refl _ | exact Nat.succ_le_succ (Nat.zero_le _)):ot X c st (zM i k te):=⟨h.imp fun E σ H ⟨M,s,as,R,L,q,kk⟩ =>
 ⟨M,s,as,_,L,q,fun d s1 ⟨⟨hk,nr⟩,r⟩ M' H' a o L' E' ha ro nm ng nw h0 hn=>kk.nx _ _ M' _ H' r (L'.Ez i k (qq hk) nr ha ro nm ng nw h0 eu) (E'.grow L)⟩⟩
abbrev jY:=D→DS→(DS→Prop)→Prop
abbrev ma:=List D→DS→(DS→Prop)→Prop
def tG (K:PySem.W.Frag) (c:Ent) (n:Nat) (g:jY):TG:=fun v σ H Q=>∃ M s as d R,ar K c M s as σ H∧Rep K H M d v∧g d s R∧∀ s',R s'→∀ σ',ar K c M s' as σ' H→(∀ i,n≤i→σ'[i]?=σ[i]?)→s'.os=s.os→Q σ' H
def Hc (K:PySem.W.Frag) (c:Ent) (n:Nat) (g:ma):tq:=fun vs σ H Q=>∃ M s as ds R,ar K c M s as σ H∧ai K H M ds vs∧g ds s R∧∀ s',R s'→∀ σ',ar K c M s' as σ' H→(∀ i,n≤i→σ'[i]?=σ[i]?)→s'.os=s.os→Q σ' H
structure DG (X:Cx) (c:Ent) (n:Nat) (tg:Expr) (g:jY):Prop where
 pg:PG X tg (tG X.K c n g)
structure Be (X:Cx) (c:Ent) (n:Nat) (ts:List Expr) (g:ma):Prop where
 pg:vh X ts (Hc X.K c n g)
theorem _root_.L2.PG.imp {tg:Expr} {t t':TG} (h:PG X tg t) (w:∀ v σ H Q,t' v σ H Q→t v σ H Q):PG X tg t':=fun pins s σ H v u Q I r q=>h pins s σ H v u Q I r (w v σ H Q q)
theorem _root_.L2.vh.imp {tg:List Expr} {t t':tq} (h:vh X tg t) (w:∀ v σ H Q,t' v σ H Q→t v σ H Q):vh X tg t':=fun pins s σ H v u Q I r q=>h pins s σ H v u Q I r (w v σ H Q q)
section
variable {n:Nat} {tg:Expr} {u3:List Expr} {g:jY} {gs:ma}
def yc (i:Nat):jY:=fun d s Q=>Q (s.set i (.dat d))
theorem bD {i:Nat} (h:PG X tg (ck i)) (hi:i < n):DG X c n tg (yc i):=⟨h.imp fun v σ H Q ⟨M,s,as,d,R,L,r,q,k⟩=>k _ q _ (L.ux i r) (fun j hj=>List.getElem?_set_ne (by omega)) rfl⟩
def Aj:ma:=fun ds s Q=>ds=[]∧Q s
def xW (g:jY) (gs:ma):ma:=fun ds s Q=>∃ d r,ds=d::r∧g d s fun s1=>gs r s1 Q
theorem uZ:Be X c n [] Aj:=⟨sa.imp fun v σ H Q ⟨M,s,as,ds,R,L,r,⟨e,q⟩,k⟩=>by
 subst e
 exact ⟨r,k s q σ L (fun _ _=>rfl) rfl⟩⟩
theorem jh (h1:DG X c n tg g) (h2:Be X c n u3 gs) (hs:(assignEach (tg::u3) X.env).map (·.2)=assign tg X.env::(assignEach u3 X.env).map (·.2):=by rfl):Be X c n (tg::u3) (xW g gs) :=
 ⟨(pS h1.pg h2.pg hs).imp fun v σ H Q ⟨M,s,as,ds,R,L,r,⟨d,dr,e,q⟩,k⟩=>by
   subst e
   obtain ⟨x,xr,rfl,r1,r2⟩:=r
   exact ⟨x,xr,rfl,M,s,as,d,_,L,r1,q,fun s1 q1 σ1 L1 e1 o1=>⟨M,s1,as,dr,R,L1,r2,q1,fun s2 q2 σ2 Lb e2 o2=>k s2 q2 σ2 Lb (fun i hi=>(e2 i hi).trans (e1 i hi)) (o2.trans o1)⟩⟩⟩
def Af (m:Nat) (gs:ma):jY:=fun d s Q=>∃ ds,d=.tup ds∧ds.length=m∧gs ds s Q
theorem vc {k m:Nat} (hc:X.calm=true) (h:Be X c n u3 gs) (hn:(assignEach u3 X.env).length=m:=by rfl) (f9:(assignEach u3 X.env).findIdx? (·.1)=none:=by rfl):DG X c n (.Tuple u3 k pos) (Af m gs) :=
 ⟨(vQ hc h.pg hn f9).imp fun v σ H Q ⟨M,s,as,d,R,L,r,⟨ds,e,hl,q⟩,kk⟩=>by
   subst e
   obtain ⟨a,xs,rfl,t,r⟩:=r
   exact ⟨a,xs,rfl,t.sq,r.length.trans hl,M,s,as,ds,R,L,r,q,kk⟩⟩
def zI (te:bj) (g:jY):ff:=fun R s=>te s fun d s1=>g d s1 R.nx
theorem Ag (he:DE X c e te) (hg:DG X c n tg g) (hs:swapsWithSole [tg] e pos.line X.env=pure false:=by rfl) (hw:swappedStores [tg] e X.env=pure none:=by rfl)
  (h1:(assignEach [tg] X.env).map (·.2)=[assign tg X.env]:=by rfl):ot X c (.Assign [tg] e pos) (zI te g):=⟨(pY he.pe hg.pg hs hw h1).imp fun E σ H ⟨M,s,as,R,L,q,k⟩ =>
 ⟨M,s,as,_,L,q,fun d s1 r M' H' v L' E' rv=>⟨M',s1,as,d,_,L',rv,r,fun s2 q2 σ2 Lb _ _=>k.nx s2 as M' σ2 H' q2 Lb (E'.grow L)⟩⟩⟩
end
def G8 (K:PySem.W.Frag) (M:Addr→Prop) (H:Hp) (d:D) (x:V) (H':Hp):Prop :=
 (H'=H∧Rep K H M d x)∨∃ p o,H p=none∧H'=upd H p o∧Rep K H' (fun b=>M b∨b=p) d x
def vK (K:PySem.W.Frag) (M:Addr→Prop) (H:Hp) (ds:List D) (J:It):Prop:=∀ M1 H1,bX M H M1 H1 →
 (∀ i,ds.length≤i→J.stop i H1)∧∀ i d,ds[i]?=some d→J.go i H1∧∀ x H2,J.yk i H1 x H2→G8 K M1 H1 d x H2
def tI (K:PySem.W.Frag) (c:Ent) (t:dm):TI:=fun σ H R=>∃ M s as R0,ar K c M s as σ H∧t s R0∧∀ ds s',R0 ds s'→∀ M' H' J,ar K c M' s' as σ H'→Ext c as M s H M' s' H'→vK K M' H' ds J→ds.length≤sizeLine→R J H'
structure DI (X:Cx) (c:Ent) (tg iter:Expr) (t:dm):Prop where
 pi:PI X tg iter (tI X.K c t)
def ig (g:jY) (tb:ff) (R:ky):List D→DS→Prop
 | [],s=>R.nx s
 | x::xs,s=>g x s fun s1=>tb { R with nx:=fun s'=>ig g tb R xs s',ct:=fun s'=>ig g tb R xs s',bk:=R.nx } s1
def zH (ti:dm) (g:jY) (tb:ff):ff:=fun R s=>ti s fun xs s1=>ig g tb R xs s1
theorem drop_cons {α:Type} {l:List α} {i:Nat} {x:α} (h:l[i]?=some x):l.drop i=x::l.drop (i+1):=by
 obtain ⟨hl,e⟩:=List.getElem?_eq_some_iff.mp h
 rw [List.drop_eq_getElem_cons hl,e]
theorem mU {n:Nat} {tg iter:Expr} {body:List Stmt} {ti:dm} {g:jY} {tb:ff} (hp:PassesOwn (model X.prog X.w) X.A X.env X.xe) (hc:X.calm=true) (hi:DI X c tg iter ti) (hg:DG X c n tg g) (hb:oZ X c body tb)
  (hs:∀ x,foldedSetIterable iter X.env x=pure x:=by intro _;rfl):ot X c (.For tg iter body [] pos) (zH ti g tb):=⟨(rP hp hc hi.pi hg.pg hb.ps hs).imp fun E σ H ⟨M,s,as,R,L,q,k⟩=>by
 refine ⟨M,s,as,_,L,q,fun xs s1 q1 M1 H1 J L1 E1 io hlen=>?_⟩
 refine ⟨fun i m σ' H'=>i≤xs.length∧m=xs.length - i∧∃ M' s' as',ar X.K c M' s' as' σ' H'∧bX M1 H1 M' H'∧ig g tb R (xs.drop i) s',⟨_,Nat.zero_le _,rfl,M1,s1,as,L1,.refl,q1⟩,?_⟩
 rintro i m σ' H' ⟨hi,rfl,M',s',as',L',G',q'⟩
 obtain ⟨h1,h2⟩:=io M' H' G'
 by_cases eu:i < xs.length
 ·refine .inr ?_
  have hx:xs[i]?=some xs[i]:=List.getElem?_eq_getElem eu
  obtain ⟨hgo,hy⟩:=h2 i _ hx
  rw [drop_cons hx] at q'
  have next:∀ s2 as2 M2 σ2 H2,ig g tb R (xs.drop (i+1)) s2→ar X.K c M2 s2 as2 σ2 H2→bX M1 H1 M2 H2→∃ m',m' < xs.length - i∧(i+1≤xs.length∧m'=xs.length - (i+1)∧∃ M' s' as',ar X.K c M' s' as' σ2 H2∧bX M1 H1 M' H2∧ig g tb R (xs.drop (i+1)) s') :=
   fun s2 as2 M2 σ2 H2 f L2 G2=>⟨xs.length - (i+1),by omega,eu,rfl,M2,s2,as2,L2,G2,f⟩
  refine ⟨hgo,fun σ2 H2=>∃ s2 as2 M2,ig g tb R (xs.drop (i+1)) s2∧ar X.K c M2 s2 as2 σ2 H2∧bX M1 H1 M2 H2,fun σ2 H2 ⟨s2,as2,M2,f,L2,G2⟩=>next s2 as2 M2 σ2 H2 f L2 G2,fun x H2 y=>?_⟩
  have go:∀ M2,ar X.K c M2 s' as' σ' H2→Rep X.K H2 M2 xs[i] x→bX M1 H1 M2 H2→bX M H M2 H2→tG X.K c n g x σ' H2 fun σ2 H2=>tS X.K c tb { nx:=fun σ2 H2=>∃ s2 as2 M2,ig g tb R (xs.drop (i+1)) s2∧ar X.K c M2 s2 as2 σ2 H2∧bX M1 H1 M2 H2,rt:=E.rt,bk:=E.nx,ct:=fun σ2 H2=>∃ s2 as2 M2,ig g tb R (xs.drop (i+1)) s2∧ar X.K c M2 s2 as2 σ2 H2∧bX M1 H1 M2 H2 } σ2 H2:=fun M2 L2 r2 G2 G0 =>
   ⟨M2,s',as',_,_,L2,r2,q',fun s3 q3 σ3 L3 _ _=>⟨M2,s3,as',_,L3,q3,⟨fun s4 as4 M4 σ4 H4 f L4 G4=>⟨s4,as4,M4,f,L4,G2.trans G4⟩,fun s4 as4 M4 σ4 H4 f L4 G4=>k.nx s4 as4 M4 σ4 H4 f L4 (G0.trans G4),fun s4 as4 M4 σ4 H4 f L4 G4=>⟨s4,as4,M4,f,L4,G2.trans G4⟩,k.rt,k.rf,k.rs⟩⟩⟩
  rcases hy x H2 y with ⟨rfl,r⟩ | ⟨p,o,hp,rfl,r⟩
  ·exact go M' L' r G' ((E1.grow L).trans G')
  ·have G2:bX M' H' (fun b=>M' b∨b=p) (upd H' p o):=fun b mb=>⟨.inl mb,fun u e=>by rw [ag (ak e hp)];exact e⟩
   exact go _ (L'.fresh hp) r (G'.trans G2) (((E1.grow L).trans G').trans G2)
 ·have e:i=xs.length:=by omega
  subst e
  rw [List.drop_length] at q'
  exact .inl ⟨h1 _ (Nat.le_refl _),k.nx s' as' M' σ' H' q' L' ((E1.grow L).trans G')⟩⟩
def sG (tc:iI) (tb:ff):ff:=fun R s=>∃ W:Nat→DS→Prop,(∃ m,W m s)∧∀ m s,W m s→tc s fun b s1=>if b=true then tb { R with nx:=fun s'=>∃ m',m' < m∧W m' s',ct:=fun s'=>∃ m',m' < m∧W m' s',bk:=R.nx } s1 else R.nx s1
theorem uw {x:Expr} {body:List Stmt} {tc:iI} {tb:ff} (hp:PassesOwn (model X.prog X.w) X.A X.env X.xe) (hc:DT X c x tc) (hb:oZ X c body tb):ot X c (.While x body [] pos) (sG tc tb):=⟨(k7 hp hc.pt hb.ps).imp fun E σ H ⟨M,s,as,R,L,⟨W,⟨m0,w0⟩,turn⟩,k⟩=>by
 refine ⟨fun m σ' H'=>∃ M' s' as',ar X.K c M' s' as' σ' H'∧bX M H M' H'∧W m s',⟨m0,M,s,as,L,.refl,w0⟩,?_⟩
 rintro m σ' H' ⟨M',s',as',L',G',w'⟩
 refine ⟨M',s',as',_,L',turn m s' w',fun b s1 q1 M1 H1 L1 E1=>?_⟩
 cases b with
 | true =>
  refine mm ⟨fun σ2 H2=>∃ s2 as2 M2,(∃ m',m' < m∧W m' s2)∧ar X.K c M2 s2 as2 σ2 H2∧bX M H M2 H2,fun σ2 H2 ⟨s2,as2,M2,⟨m',hm,w2⟩,L2,G2⟩=>⟨m',hm,M2,s2,as2,L2,G2,w2⟩,?_⟩
  have G1:=G'.trans (E1.grow L')
  exact ⟨M1,s1,as',{ R with nx:=fun s'=>∃ m',m' < m∧W m' s',ct:=fun s'=>∃ m',m' < m∧W m' s',bk:=R.nx },L1,by simpa using q1,⟨fun s4 as4 M4 σ4 H4 f L4 G4=>⟨s4,as4,M4,f,L4,G1.trans G4⟩,fun s4 as4 M4 σ4 H4 f L4 G4=>k.nx s4 as4 M4 σ4 H4 f L4 (G1.trans G4),fun s4 as4 M4 σ4 H4 f L4 G4=>⟨s4,as4,M4,f,L4,G1.trans G4⟩,k.rt,k.rf,k.rs⟩⟩
 | false=>exact lI (k.nx s1 as' M1 σ' H1 (by simpa using q1) L1 (G'.trans (E1.grow L')))⟩
end
def cW (K:PySem.W.Frag) (g:mq) (t:List D→(D→Prop)→Prop):Sp:=fun vs H Q _=>∃ M ds R,Base ⟨g,M,H⟩ M H∧ai K H M ds vs∧t ds R∧∀ d,R d→∀ M' H' v,Base ⟨g,M,H⟩ M' H'→Rep K H' M' d v→Q v H'
section
variable {K:PySem.W.Frag} {c:Ent} {M M' M1:Addr→Prop} {s s' s1:DS} {as:List Addr} {σ:St} {H H' H1:Hp}
theorem Base.here (B:Base c M H):Base ⟨c.g,M,H⟩ M H:=⟨B.fG,fun _ _ e _=>e,B.md,B.mo,fun _ m=>m,fun _ m=>.inl m⟩
theorem Base.uV (B:Base c M H):Base ⟨.no,M,H⟩ M H:=⟨trivial,fun _ _ e _=>e,B.md,fun _ _ h=>h,fun _ m=>m,fun _ m=>.inl m⟩
theorem Base.uA (B:Base c M H) (B':Base ⟨.no,M,H⟩ M' H'):Base ⟨c.g,M,H⟩ M' H' where
 fG:=c.g.loc H H' B.fG fun b o _ e=>B'.fr b o e fun z=>z
 fr:=fun b o e _=>B'.fr b o e fun z=>z
 md:=B'.md
 mo:=fun b m g=>by
  rcases B'.mn b m with m | n | ⟨xs,n⟩
  ·exact B.mo b m g
  ·obtain ⟨o,e⟩:=c.g.qE H b B.fG g
   have n:H b=none:=n
   rw [n] at e
   cases e
  ·exact c.g.nt H b xs B.fG g n
 m0:=B'.m0
 mn:=B'.mn
theorem ar.after (L:ar K c M s as σ H) (B:Base ⟨c.g,M,H⟩ M' H'):ar K c M' s as σ H' where
 base:=⟨B.fG,fun b o e g=>B.fr b o (L.base.fr b o e g) g,B.md,B.mo,fun b m=>B.m0 b (L.base.m0 b m),fun b m=>by
  rcases B.mn b m with m | n | ⟨xs,n⟩
  ·exact L.base.mn b m
  ·exact .inr (.inl (L.base.o6 n))
  ·have n:H b=some (.tup xs):=n
   refine .inr ?_
   cases e:c.H0 b with
   | none=>exact .inl e
   | some o =>
    have:=L.base.fr b o e fun g=>c.g.nt H b xs L.base.fG g n
    rw [n] at this
    cases this
    exact .inr ⟨xs,e⟩⟩
 len:=L.len
 cZ:=L.cZ
 dat:=fun i d e=>by
  obtain ⟨v,h1,h2⟩:=L.dat i d e
  exact ⟨v,h1,Rep.mono B.m0 (fun b o m e=>B.fr b o e (L.base.mo b m)) d v h2⟩
 own:=L.own
 obj:=fun k d a h1 h2=>by
  obtain ⟨⟨o,q1,q2⟩,nm,ng,h0⟩:=L.obj k d a h1 h2
  refine ⟨⟨o,B.fr a o q1 ng,q2.mono B.m0 fun b o m e=>B.fr b o e (L.base.mo b m)⟩,fun m=>?_,ng,h0⟩
  rcases B.mn a m with m | n | ⟨xs,n⟩
  ·exact nm m
  ·have n:H a=none:=n
   rw [n] at q1
   cases q1
  ·have n:H a=some (.tup xs):=n
   rw [n] at q1
   cases q1
   exact q2.xm
 inj:=L.inj
 lt:=L.lt
theorem Ext.after (B:Base ⟨c.g,M,H⟩ M' H'):Ext c as M s H M' s H':=⟨B.m0,fun b m=>by
 rcases B.mn b m with m | n
 ·exact .inl m
 ·exact .inr (.inl n),fun b o e g _=>B.fr b o e g,fun _ h=>h⟩
end
section
variable {X:Cx} {c:Ent} {k:Nat} {f:Addr} {fd:FuncData} {ps:List Str} {t:List D→(D→Prop)→Prop} {x:Str} {p pos:Pos} {e:Expr} {es:List Expr} {ta:dm}
def gC (t:List D→(D→Prop)→Prop) (ta:dm):bj:=fun s Q=>ta s fun ds s1=>t ds fun d=>Q d s1
theorem ou {σ:St} {H:Hp} {Q:VK} {n:Nat} {E:XK}:tE X.K c (gC t ta) σ H Q→rL (cW X.K c.g t) [] E (tA X.K c n ta) σ H Q:=fun ⟨M,s,as,R,L,q,kk⟩ =>
 ⟨M,s,as,_,L,q,fun ds s1 q1 M1 H1 vs L1 E1 r1 hl=>⟨M1,ds,_,L1.base.here,by rw [List.append_nil];exact r1,q1,fun d rd M' H' v B rv=>kk d s1 rd M' H' v (L1.after B) (E1.trans L1.base (Ext.after B)) rv⟩⟩
theorem sS {σ:St} {H:Hp} {Q:VK} {n:Nat} {E:XK}:tE X.K c (gC t ta) σ H Q→rL (cW X.K .no t) [] E (tA X.K c n ta) σ H Q:=fun ⟨M,s,as,R,L,q,kk⟩ =>
 ⟨M,s,as,_,L,q,fun ds s1 q1 M1 H1 vs L1 E1 r1 hl=>⟨M1,ds,_,L1.base.uV,by rw [List.append_nil];exact r1,q1,fun d rd M' H' v B rv=>kk d s1 rd M' H' v (L1.after (L1.base.uA B)) (E1.trans L1.base (Ext.after (L1.base.uA B))) rv⟩⟩
section
variable (hr:bH k X.A) (hg:Gl X x) (hm:X.mg x=some (.ref f)) (hk:PySem.W.keepIn X.K (.ref f)=true) (hb:Binds X.K fd ps []) (ha:DA X c (e::es) ta)
include hr hg hm hk hb ha
theorem aO (F:aw X.prog X.w X.K X.mg X.base bz k f fd ps (cW X.K c.g t)) (jG:(x == ("__debug__":Str))=false:=by decide) (he:starEach (e::es) X.env=(false,eval e X.env)::starEach es X.env:=by rfl) (fg:(backTo pos (starEach es X.env)).any (·.1)=false:=by rfl) :
  DE X c (.Call (.Name x p) (e::es) [] pos) (gC t ta):=⟨(fV F hr hg hm hk hb .nil (E:=E0) ir ha.pa jG he fg).imp fun _ _ _=>ou⟩
theorem cO (F:aw X.prog X.w X.K X.mg X.base bz k f fd ps (cW X.K .no t)) (jG:(x == ("__debug__":Str))=false:=by decide) (he:starEach (e::es) X.env=(false,eval e X.env)::starEach es X.env:=by rfl) (fg:(backTo pos (starEach es X.env)).any (·.1)=false:=by rfl) :
  DE X c (.Call (.Name x p) (e::es) [] pos) (gC t ta):=⟨(fV F hr hg hm hk hb .nil (E:=E0) ir ha.pa jG he fg).imp fun _ _ _=>sS⟩
end
end
def cm (n nos:Nat) (ds:List D):DS:=⟨ds.map .dat++List.replicate (n - ds.length) .no,List.replicate nos none⟩
theorem eE {K:PySem.W.Frag} {g:mq} {M:Addr→Prop} {H:Hp} {N:List Str} {nos:Nat} {ds:List D} {vs:List V} (B:Base ⟨g,M,H⟩ M H) (r:ai K H M ds vs) (hg:g.lz=[]):ar K ⟨g,M,H⟩ M (cm N.length nos ds) (List.replicate nos 0) (L2.start N vs) H where
 base:=B
 len:=by
  have:=r.length
  show (ds.map Sl.dat++List.replicate (N.length - ds.length) Sl.no).length=(vs.map some++List.replicate (N.length - vs.length) none).length
  simp [this]
 cZ:=by simp [cm]
 dat:=fun i d h=>by
  have hl:=r.length
  by_cases hi:i < ds.length
  ·have h':(ds.map Sl.dat)[i]?=some (.dat d):=by
    rw [cm,List.getElem?_append_left (by simpa using hi)] at h
    exact h
   rw [List.getElem?_map] at h'
   obtain ⟨e,h1,h2⟩:=Option.map_eq_some_iff.mp h'
   cases h2
   obtain ⟨v,q1,q2⟩:=r.get h1
   refine ⟨v,?_,q2⟩
   rw [L2.start,List.getElem?_append_left (by simp;omega),List.getElem?_map,q1]
   rfl
  ·rw [cm,List.getElem?_append_right (by simpa using hi)] at h
   have:=List.getElem?_eq_some_iff.mp h
   obtain ⟨_,e⟩:=this
   simp at e
 own:=fun i k h=>by
  by_cases hi:i < ds.length
  ·rw [cm,List.getElem?_append_left (by simpa using hi),List.getElem?_map] at h
   obtain ⟨e,h1,h2⟩:=Option.map_eq_some_iff.mp h
   cases h2
  ·rw [cm,List.getElem?_append_right (by simpa using hi)] at h
   obtain ⟨_,e⟩:=List.getElem?_eq_some_iff.mp h
   simp at e
 obj:=fun k d a h=>by
  obtain ⟨_,e⟩:=List.getElem?_eq_some_iff.mp h
  simp [cm] at e
 inj:=fun k l d e a h=>by
  obtain ⟨_,e⟩:=List.getElem?_eq_some_iff.mp h
  simp [cm] at e
 lt:=fun k a h=>by
  have h:g.lz[k]?=some a:=h
  rw [hg] at h
  cases h
section
variable {P:Program} {w:World} {K:PySem.W.Frag} {mg:Str→Option Value} {base:Heap}
theorem r9 {x qual:Str} {st:Stmt} {f:Addr} {fd:FuncData} {N ps:List Str} {k nos:Nat} {g:mq} {t:List D→(D→Prop)→Prop} (F:cq K x qual st f fd) (S:aD N ps (af st)) (len:∀ ds R,t ds R→ds.length=ps.length)
  (hb:∀ (bW:Value) (A:Around) (outer:List Env) (s:Shared) (H:Hp) (E:XK) (M:Addr→Prop),bH k (A.deeper (envOfC qual (af st) s.heap.objs.size f bW)) →
   ∃ tb,oZ (ij bz P w K mg base N qual (af st) f bW A outer s H E).uP ⟨g,M,H⟩ (ao st) tb∧∀ ds R,t ds R→tb { nx:=fun _=>R .aS,rt:=R } (cm N.length nos ds)) (hg:g.lz=[]:=by rfl):aw P w K mg base bz (k+1) f fd ps (cW K g t):=by
 refine F.ok S (fun vs H Q E h=>?_) fun bW A outer s H vs Q E hr h=>?_
 ·obtain ⟨M,ds,R,B,r,q,_⟩:=h
  rw [r.length]
  exact len ds R q
 ·obtain ⟨M,ds,R,B,r,q,kk⟩:=h
  obtain ⟨tb,h1,h2⟩:=hb bW A outer s H E M hr
  exact ⟨_,h1.ps,M,_,_,_,eE B r hg,h2 ds R q,⟨fun s as M' σ H' r L _=>kk .aS r M' H' .aS L.base rfl,fun _ _ _ _ _ z=>z.elim,fun _ _ _ _ _ z=>z.elim,fun d M' H' v r B' rv=>kk d r M' H' v B' rv,fun _ _ _ _ _ z=>z.elim,fun _ _ _ _ _ _ _ z=>z.elim⟩⟩
end
end DL
namespace DL
open PySem PySem.Spec L2
open PyProof.Rows hiding St
section
variable {K:PySem.W.Frag} {c:Ent} {M M' M1 M3 M6:Addr→Prop} {s s' s1 s6:DS} {as:List Addr} {σ σ4:St} {H H' H1 H3 H6:Hp} {a p q:Addr} {o:HO} {d:D} {v:V}
def dJ (nt:Nat) (us:List Nat) (s:DS):DS:=⟨List.replicate nt .no++us.map fun j=>s.sl.getD j .no,s.os⟩
theorem iT {nt:Nat} {us:List Nat} {i:Nat} {x:Sl} (hx:x≠.no) (h:(dJ nt us s).sl[i]?=some x):∃ j,us[i - nt]?=some j∧nt≤i∧s.sl[j]?=some x:=by
 by_cases hi:i < nt
 ·rw [dJ,List.getElem?_append_left (by simpa using hi)] at h
  obtain ⟨_,e⟩:=List.getElem?_eq_some_iff.mp h
  simp at e
  exact absurd e.symm hx
 ·rw [dJ,List.getElem?_append_right (by simpa using hi)] at h
  simp only [List.length_replicate] at h
  rw [List.getElem?_map] at h
  obtain ⟨j,h1,h2⟩:=Option.map_eq_some_iff.mp h
  refine ⟨j,h1,by omega,?_⟩
  rw [List.getD_eq_getElem?_getD] at h2
  cases e:s.sl[j]? with
  | none=>rw [e] at h2;exact absurd h2.symm hx
  | some y=>rw [e] at h2;exact congrArg some h2
theorem kO {nt:Nat} {us:List Nat} {i j:Nat} {v:V} (hj:us[i - nt]?=some j) (hi:nt≤i) (h:σ[j]?=some (some v)):(L2.lift nt us σ)[i]?=some (some v):=by
 rw [L2.lift,List.getElem?_append_right (by simpa using hi),List.length_replicate,List.getElem?_map,hj,Option.map_some,h]
 rfl
theorem ar.inner (L:ar K c M s as σ H) (nt:Nat) (us:List Nat):ar K c M (dJ nt us s) as (L2.lift nt us σ) H where
 base:=L.base
 len:=by simp [dJ,L2.lift]
 cZ:=L.cZ
 dat:=fun i d h=>by
  obtain ⟨j,h1,h2,h3⟩:=iT (by intro z;cases z) h
  obtain ⟨v,g1,g2⟩:=L.dat j d h3
  exact ⟨v,kO h1 h2 g1,g2⟩
 own:=fun i k h=>by
  obtain ⟨j,h1,h2,h3⟩:=iT (by intro z;cases z) h
  obtain ⟨v,g1,g2⟩:=L.own j k h3
  exact ⟨v,g1,kO h1 h2 g2⟩
 obj:=L.obj
 inj:=L.inj
 lt:=L.lt
theorem ar.outer (L:ar K c M s as σ H) (E:Ext c as M s1 H M6 s6 H6) (hs:s1.os=s.os) (L6:ar K c M6 s6 as σ4 H6):ar K c M6 ⟨s.sl,s6.os⟩ as σ H6 where
 base:=L6.base
 len:=L.len
 cZ:=L6.cZ
 dat:=fun i d h=>by
  obtain ⟨v,g1,g2⟩:=L.dat i d h
  have E':Ext c as M s H M6 s6 H6:=⟨E.sub,fun b m=>by
   rcases E.new b m with h | h | ⟨k,e,h1,h2⟩
   ·exact .inl h
   ·exact .inr (.inl h)
   ·exact .inr (.inr ⟨k,e,by rw [← hs];exact h1,h2⟩),fun b o e g w=>E.keep b o e g fun ⟨k,e,h1,h2⟩=>w ⟨k,e,by rw [← hs];exact h1,h2⟩,fun b w=>by
   obtain ⟨k,e,h1,h2⟩:=E.eX b w
   exact ⟨k,e,by rw [← hs];exact h1,h2⟩⟩
  exact ⟨v,g1,E'.rep L g2⟩
 own:=L.own
 obj:=L6.obj
 inj:=L6.inj
 lt:=L6.lt
theorem Ext.os {s2 Gw:DS} (E:Ext c as M s H M' s' H') (hs:s.os=s2.os) (rR:s'.os=Gw.os):Ext c as M s2 H M' Gw H':=⟨E.sub,fun b m=>by
   rcases E.new b m with h | h | ⟨k,e,h1,h2⟩
   ·exact .inl h
   ·exact .inr (.inl h)
   ·exact .inr (.inr ⟨k,e,by rw [← hs];exact h1,h2⟩),fun b o e g w=>E.keep b o e g fun ⟨k,e,h1,h2⟩=>w ⟨k,e,by rw [← hs];exact h1,h2⟩,fun b ⟨k,e,h1,h2⟩=>by
   obtain ⟨k,e,h1,h2⟩:=E.eX b ⟨k,e,by rw [rR];exact h1,h2⟩
   exact ⟨k,e,by rw [← hs];exact h1,h2⟩⟩
theorem ar.wr {ys:List V} (L:ar K c M s as σ H) (hq:H q=some (.lst ys)) (nm:¬ M q) (ng:¬ c.g.own q) (nw:¬ cJ s as q) (h0:c.H0 q=none):ar K c M s as σ (upd H q o):=by
 have kp:∀ b u,b≠q→H b=some u→upd H q o b=some u:=fun b u ne e=>by rw [ag ne];exact e
 have km:∀ b u,M b→H b=some u→upd H q o b=some u:=fun b u m e=>kp b u (fun z=>nm (z▸m)) e
 refine ⟨⟨c.g.loc H _ L.base.fG fun b u g e=>kp b u (fun z=>g.elim (fun g=>ng (z▸g)) fun ⟨φ,f⟩=>by subst f;rw [z,hq] at e;cases e) e,fun b u e g=>kp b u (fun z=>by rw [z,h0] at e;cases e) (L.base.fr b u e g),fun b m=>?_,L.base.mo,L.base.m0,L.base.mn⟩,L.len,L.cZ,fun i e h=>?_,L.own,fun l e b h1 h2=>?_,L.inj,L.lt⟩
 ·obtain ⟨u,e⟩:=L.base.md b m
  exact ⟨u,km b u m e⟩
 ·obtain ⟨w,h1,h2⟩:=L.dat i e h
  exact ⟨w,h1,Rep.mono (fun _ m=>m) km e w h2⟩
 ·obtain ⟨⟨u,q1,q2⟩,q3⟩:=L.obj l e b h1 h2
  refine ⟨⟨u,kp b u (fun z=>?_) q1,q2.mono (fun _ m=>m) km⟩,q3⟩
  subst z
  exact nw ⟨l,e,h1,h2⟩
theorem Ext.wr (hn:H q=none) (E:Ext c as M s H M' s' H'):Ext c as M s H M' s' (upd H' q o):=⟨E.sub,E.new,fun b u e g w=>by
 rw [ag (ak e hn)]
 exact E.keep b u e g w,E.eX⟩
theorem rq (L:ar K c M s as σ H) (E1:Ext c as M s H M1 s1 H1) (ng:¬ c.g.own a) (hn:H1 a=none):H a=none∨cJ s as a:=by
 cases q:H a with
 | none=>exact .inl rfl
 | some u =>
  by_cases w:cJ s as a
  ·exact .inr w
  ·have:=E1.keep a u q ng w
   rw [hn] at this
   cases this
end
def bE (nt:Nat) (us:List Nat) (g:jY) (ti:iI) (te:bj):List D→List D→DS→(List D→DS→Prop)→Prop
 | [],acc,s,Q=>Q acc s
 | x::xs,acc,s,Q=>g x (dJ nt us s) fun s1=>ti s1 fun b s2=>if b=true then te s2 fun y s3=>bE nt us g ti te xs (acc++[y]) ⟨s.sl,s3.os⟩ Q else bE nt us g ti te xs acc ⟨s.sl,s2.os⟩ Q
def pW (nt:Nat) (us:List Nat) (tx:dm) (g:jY) (ti:iI) (te:bj):bj:=fun s Q=>tx s fun xs s1=>bE nt us g ti te xs [] s1 fun ys s2=>Q (.lst ys) s2
structure Gs (X:Cx) (c:Ent) (ifs:List Expr) (t:iI):Prop where
 G5:yw X ifs (tT X.K c t)
section
variable {X:Cx} {c:Ent} {e:Expr} {pos:Pos}
def br:iI:=fun s Q=>Q true s
theorem c5:Gs X c [] br:=⟨fun pins s σ H Q I ⟨M,s',as,R,L,q,k⟩=>mP pins s σ H Q I (k true s' q M H L .refl)⟩
end
section
variable {X:Cx} {c:Ent} {ts:List Str} {us:List Nat} {scope:Scope} {tg elt iter:Expr} {ifs:List Expr} {pos:Pos} {tx:dm} {g:jY} {ti:iI} {te:bj}
theorem sU {σ:St} {H:Hp} {Q:VK}:tN X.K c (pW ts.length us tx g ti te) σ H Q→kZ ts.length us (tI X.K c tx) (tG X.K c ts.length g) (tT X.K c ti) (tE X.K c te) σ H Q:=fun ⟨M,s,as,R,L,q,k⟩=>by
 refine ⟨M,s,as,_,L,q,fun xs s1 q1 M1 H1 J L1 E1 io hlen=>?_⟩
 intro A hA
 obtain ⟨n1,n2,n3,n4⟩:=notM L1 hA
 refine ⟨fun i m ys H2=>i≤xs.length∧m=xs.length - i∧ys.length≤i∧∃ M' s' zs,ar X.K c M' s' as σ H2∧Ext c as M1 s1 H1 M' s' H2∧H2 A=some (.lst ys)∧ai X.K H2 M' zs ys∧¬ M' A∧bE ts.length us g ti te (xs.drop i) zs s' fun ys s2=>R (.lst ys) s2,
  ⟨_,Nat.zero_le _,rfl,Nat.le_refl _,M1,s1,[],L1.laid hA,Ext.laid hA,ah,rfl,n1,q1⟩,?_⟩
 rintro i m ys H2 ⟨hi,rfl,hy,M',s',zs,L',E',hD,rz,nm,q'⟩
 have nw:∀ {oN:DS},(∀ b,cJ oN as b→cJ s' as b)→¬ cJ oN as A:=fun h w=>n3 (E'.eX A (h A w))
 refine ⟨hD,?_⟩
 have G':bX M1 H1 M' H2:=E'.grow L1
 obtain ⟨h1,h2⟩:=io M' H2 G'
 by_cases eu:i < xs.length
 ·refine .inr ?_
  have hx:xs[i]?=some xs[i]:=List.getElem?_eq_getElem eu
  obtain ⟨hgo,hyl⟩:=h2 i _ hx
  rw [drop_cons hx] at q'
  refine ⟨hgo,by omega,fun x H3 y=>?_⟩
  have go:∀ M3,ar X.K c M3 s' as σ H3→Rep X.K H3 M3 xs[i] x→Ext c as M' s' H2 M3 s' H3→H3 A=some (.lst ys)→¬ M3 A→tG X.K c ts.length g x (L2.lift ts.length us σ) H3 fun σ4 H4=>pD (L2.lift ts.length us σ) σ4∧tT X.K c ti σ4 H4 fun b H5 =>
    if b=true then tE X.K c te σ4 H5 fun y H6=>H6 A=some (.lst ys)∧∃ m',m' < xs.length - i∧(i+1≤xs.length∧m'=xs.length - (i+1)∧(ys++[y]).length≤i+1∧∃ M' s' zs,ar X.K c M' s' as σ (upd H6 A (.lst (ys++[y])))∧Ext c as M1 s1 H1 M' s' (upd H6 A (.lst (ys++[y])))∧upd H6 A (.lst (ys++[y])) A=some (.lst (ys++[y]))∧ai X.K (upd H6 A (.lst (ys++[y]))) M' zs (ys++[y])∧¬ M' A∧bE ts.length us g ti te (xs.drop (i+1)) zs s' fun ys s2=>R (.lst ys) s2)
    else ∃ m',m' < xs.length - i∧(i+1≤xs.length∧m'=xs.length - (i+1)∧ys.length≤i+1∧∃ M' s' zs,ar X.K c M' s' as σ H5∧Ext c as M1 s1 H1 M' s' H5∧H5 A=some (.lst ys)∧ai X.K H5 M' zs ys∧¬ M' A∧bE ts.length us g ti te (xs.drop (i+1)) zs s' fun ys s2=>R (.lst ys) s2):=by
   intro M3 L3 r3 E3 hD3 nm3
   refine ⟨M3,_,as,_,_,L3.inner ts.length us,r3,q',fun s4 q4 σ4 L4 e4 o4=>⟨fun j v hj=>?_,M3,s4,as,_,L4,q4,fun b s5 r5 M5 H5 L5 E5=>?_⟩⟩
   ·by_cases hjn:j < ts.length
    ·rw [L2.lift,List.getElem?_append_left (by simpa using hjn)] at hj
     obtain ⟨_,e⟩:=List.getElem?_eq_some_iff.mp hj
     simp at e
    ·rw [e4 j (by omega)]
     exact hj
   ·have E5':Ext c as M3 s' H3 M5 ⟨s'.sl,s5.os⟩ H5:=E5.os o4 rfl
    have L5':ar X.K c M5 ⟨s'.sl,s5.os⟩ as σ H5:=L3.outer E5 o4 L5
    have F5:Ext c as M' s' H2 M5 ⟨s'.sl,s5.os⟩ H5:=E3.trans L3.base E5'
    have hD5:H5 A=some (.lst ys):=E5'.keep A _ hD3 n2 (nw fun _ h=>h)
    have nm5:¬ M5 A:=fun m=>by
     rcases E5'.new A m with m | (m | ⟨_,m⟩) | m
     ·exact nm3 m
     ·rw [hD3] at m
      cases m
     ·rw [hD3] at m
      cases m
     ·exact nw (fun _ h=>h) m
    cases b with
    | false =>
     rw [if_neg Bool.false_ne_true] at r5
     refine lI ?_
     exact ⟨xs.length - (i+1),by omega,eu,rfl,by omega,M5,_,zs,L5',E'.trans L'.base F5,hD5,F5.ki L' rz,nm5,r5⟩
    | true =>
     rw [if_pos rfl] at r5
     refine mm ?_
     refine ⟨M5,s5,as,_,L5,r5,fun y s6 r6 M6 H6 v L6 E6 rv=>?_⟩
     have E6':Ext c as M5 ⟨s'.sl,s5.os⟩ H5 M6 ⟨s'.sl,s6.os⟩ H6:=E6.os rfl rfl
     have L6':ar X.K c M6 ⟨s'.sl,s6.os⟩ as σ H6:=L5'.outer E6 rfl L6
     have F6:Ext c as M' s' H2 M6 ⟨s'.sl,s6.os⟩ H6:=F5.trans L5'.base E6'
     have hD6:H6 A=some (.lst ys):=E6'.keep A _ hD5 n2 (nw F5.eX)
     have nm6:¬ M6 A:=fun m=>by
      rcases E6'.new A m with m | (m | ⟨_,m⟩) | m
      ·exact nm5 m
      ·rw [hD5] at m
       cases m
      ·rw [hD5] at m
       cases m
      ·exact nw F5.eX m
     have kM:∀ b u,M6 b→H6 b=some u→upd H6 A (.lst (ys++[v])) b=some u:=fun b u mb e=>by
      have ne:b≠A:=fun z=>by
       subst z
       exact nm6 mb
      rw [ag ne]
      exact e
     refine ⟨hD6,xs.length - (i+1),by omega,eu,rfl,by simp;omega,M6,_,zs++[y],L6'.wr hD6 nm6 n2 (nw F6.eX) n4,(E'.trans L'.base F6).wr hA,ah,?_,nm6,r6⟩
     exact ai.mono (fun _ h=>h) kM _ _ ((F6.ki L' rz).append (ai.one rv))
  rcases hyl x H3 y with ⟨rfl,r⟩ | ⟨p,o,hp,rfl,r⟩
  ·exact go M' L' r .refl hD nm
  ·have hpA:A≠p:=ak hD hp
   exact go _ (L'.fresh hp) r (Ext.fresh hp) (by rw [ag hpA];exact hD) fun m=>by
    rcases m with m | m
    ·exact nm m
    ·exact hpA m
 ·have e:i=xs.length:=by omega
  subst e
  rw [List.drop_length] at q'
  refine .inl ⟨h1 _ (Nat.le_refl _),k _ s' q' M' H2 A _ L' (E1.trans L1.base E') hD rz nm n2 (nw fun _ h=>h) n4 (rq L E1 n2 hA)⟩
theorem c9 (S:aL X ts us scope) (hc:X.calm=true) (hi:DI X c tg iter tx)
  (hg:∀ C s H fp,DG (X.comp ts us scope C s H fp) c ts.length tg g) (vR:∀ C s H fp,Gs (X.comp ts us scope C s H fp) c ifs ti) (he:∀ C s H fp,DE (X.comp ts us scope C s H fp) c elt te)
  (hs:∀ x,foldedSetIterable iter X.env x=pure x:=by intro _;rfl):DN X c (.ListComp elt [⟨tg,iter,ifs,0⟩] scope pos) (pW ts.length us tx g ti te) :=
 ⟨(nN S hc hi.pi (fun C s H fp=>(hg C s H fp).pg) (fun C s H fp=>(vR C s H fp).G5) (fun C s H fp=>(he C s H fp).pe) hs).imp fun _ _ _=>sU⟩
end
end DL
namespace HT
open PySem PyProof.Rows
variable {prog:Program} {w:World} {A:Around} {E:Value→Shared→Prop} {s:Shared}
theorem d4 {t sl:Addr} {items:Array Value} {vl vu:Value} {lo hi:Option Int} {Q:Value→Shared→Prop} (ht:IsTup s.heap t items) (hs:s.heap.IsSliceOf sl vl vu .none) (pl:IsPart vl lo) (pu:IsPart vu hi)
  (hw:bw items.size 0 lo=0∧bw items.size items.size hi=items.size)
  (h:Q (.ref t) s):wpAny (model prog w) A (getItem (.ref t) (.ref sl)) Q E s:=by
 obtain ⟨os,hos,hcs,hds⟩:=id hs
 have hTs:s.TypeIs (.ref sl) "slice":=⟨os,hos,hcs⟩
 unfold getItem
 try with_reducible refine wpAny_holding ?_
 first | refine wpAny_bind (wpAny_pure ?_) | skip
 refine wpAny_bind (wpAny_sequenceKey ht.typeIs (by decide) ?_)
 refine wpAny_bind (wpAny_callSpecial?_slot (name:=Str.ofString "__getitem__") ht.typeIs PyProof.Rows.slot_tuple_getitem
  (wpAny_call_entry PyProof.Rows.slot_tuple_getitem ht.typeIs entry_tuple_getitem ?_ (args_tuple_getitem _ _)))
 show wpAny _ _ (Builtin.Tuple.tupleItemsOf (.ref t) >>= _) _ _ s
 refine wpAny_bind (tupleItemsOf_ ht ?_)
 refine wpAny_bind (wpAny_typeOf hTs ?_)
 rw [if_pos (by decide)]
 refine wpAny_bind (c4 hs pl pu ?_)
 have hno:(((bw items.size 0 lo:Nat):Int) == 0&&(1:Int) == 1&&(bw items.size items.size hi - bw items.size 0 lo) == items.size)=true:=by
  rw [hw.1,hw.2]
  simp
 show wpAny _ _ (if (((bw items.size 0 lo:Nat):Int) == 0&&(1:Int) == 1&&(bw items.size items.size hi - bw items.size 0 lo) == items.size)=true then _ else _) _ _ s
 rw [if_pos hno]
 refine wpAny_bind (m:=Builtin.Tuple.tupleIsExact (.ref t)) (wpAny_bind (wpAny_typeOf ht.typeIs (wpAny_pure ?_)))
 rw [if_pos (by decide)]
 exact wpAny_bind (wpAny_rule (wpAny_pure ⟨_,rfl,wpAny_pure h⟩))
end HT
namespace L2
open PySem PySem.Spec PyProof.Rows
section
variable {X:Cx}
def y4 (K:PySem.W.Frag):V→Option Int→Option Int→Hp→VK→Prop:=fun x lo hi H Q=>∃ a xs,x=.ref a∧dw K H a xs ∧
 ((HT.bw xs.length 0 lo=0∧HT.bw xs.length xs.length hi=xs.length)→Q (.ref a) H)∧(¬ (HT.bw xs.length 0 lo=0∧HT.bw xs.length xs.length hi=xs.length)→∀ p,H p=none→Q (.ref p) (upd H p (.tup (gP xs lo hi))))
theorem sd:Am X (y4 X.K):=by
 intro pins s σ H x v vl vu lo hi sl Q I rx hs pl pu h
 obtain ⟨a,xs,rfl,hx,q1,q2⟩:=h
 by_cases hw:HT.bw xs.length 0 lo=0∧HT.bw xs.length xs.length hi=xs.length
 ·cases rx
  obtain ⟨its,r,ht,hz⟩:=I.tuple hx
  have hlen:its.toArray.size=xs.length:=by rw [List.size_toArray];exact r.length.symm
  exact ⟨"tuple",_,PyProof.Rows.slot_tuple_getitem.lookup,ht.typeIs,HT.d4 ht hs pl pu (by rw [hlen];exact hw) ⟨.ref a,H,I,rfl,q1 hw⟩⟩
 ·exact xy pins s σ H _ v vl vu lo hi sl Q I rx hs pl pu ⟨a,xs,rfl,hx,hw,q2 hw⟩
def CS (K:PySem.W.Frag) (tl:TE):TI:=fun σ H R=>tl σ H fun x H1=>∃ a,x=.ref a∧((∃ xs,bS K H1 a xs∧(xs.length≤sizeLine→R (we K a) H1))∨∃ xs,dw K H1 a xs∧(xs.length≤sizeLine→R (Gr K a) H1))
theorem xU {tg l:Expr} {tl:TE} (hl:PE X l tl):PI X tg l (CS X.K tl):=by
 intro pins s σ H R I h
 refine ba (hl pins s σ H _ I h) fun v s1 ⟨x,H1,I1,r1,q1⟩=>?_
 obtain ⟨a,e,q1⟩:=q1
 subst e
 cases r1
 have fp:∀ b∈[s1.heap.objs.size],dO X pins H1 b:=fun b hb=>by
  have e:b=s1.heap.objs.size:=by simpa using hb
  subst e
  exact I1.lW (Nat.le_refl _) (I1.aH.fresh (Nat.le_refl _))
 rcases q1 with ⟨xs,hq,q⟩ | ⟨xs,hq,q⟩
 ·obtain ⟨its,rv,p,hz⟩:=I1.list hq
  refine wpAny_pyIter_list p.isList ?_
  exact ⟨s1.heap.objs.size,[s1.heap.objs.size],_,_,H1,rfl,I1.kept (t':=s1.toks) fun b o e=>Heap.get?_push_of_some _ e,jb a _,⟨_,Heap.get?_push_size _ rfl,rfl,rfl⟩,fp,q hz⟩
 ·obtain ⟨its,rv,p,hz⟩:=I1.tuple hq
  refine wpAny_pyIter_tuple (show s1.heap.IsTuple a its.toArray from p) ?_
  exact ⟨s1.heap.objs.size,[s1.heap.objs.size],_,_,H1,rfl,I1.kept (t':=s1.toks) fun b o e=>Heap.get?_push_of_some _ e,l3 a _,⟨_,Heap.get?_push_size _ rfl,rfl,rfl⟩,fp,q hz⟩
end
end L2
namespace DL
open PySem PySem.Spec L2
open PyProof.Rows hiding St
section
variable {X:Cx} {c:Ent}
def cI (P:Int→Int→Prop) (f:Int→Int→Int):D→D→(D→Prop)→Prop:=fun a b k=>∃ i j,a=.int i∧b=.int j∧P i j∧k (.int (f i j))
def Hb (f:Int→Int→Int):D→D→(D→Prop)→Prop:=fun a b k=>∃ i j,a=.int i∧b=.int j∧k (.int (f i j))
def GS (f:Int→Int→Bool):D→D→(D→Prop)→Prop:=fun a b k=>∃ i j,a=.int i∧b=.int j∧k (.bl (f i j))
theorem zi {P:Int→Int→Prop} {f:Int→Int→Int}:jX X c (rI P fun i j=>.int (f i j)) (cI P f):=fun M s as σ H x y dx dy k Q L rx ry ⟨i,j,e1,e2,hp,hk⟩ kk=>by
 subst e1;subst e2
 exact ⟨i,j,rx,ry,hp,kk _ hk M H _ L .refl rfl⟩
theorem qb {f:Int→Int→Int}:jX X c (jW fun i j=>.int (f i j)) (Hb f):=fun M s as σ H x y dx dy k Q L rx ry ⟨i,j,e1,e2,hk⟩ kk=>by
 subst e1;subst e2
 exact ⟨i,j,rx,ry,kk _ hk M H _ L .refl rfl⟩
theorem As {f:Int→Int→Bool}:jX X c (jW fun i j=>.bl (f i j)) (GS f):=fun M s as σ H x y dx dy k Q L rx ry ⟨i,j,e1,e2,hk⟩ kk=>by
 subst e1;subst e2
 exact ⟨i,j,rx,ry,kk _ hk M H _ L .refl rfl⟩
def fv:D→V
 | .aS=>.aS
 | .bl b=>.bl b
 | .int i=>.int i
 | .str x=>.str x
 | .ty n=>.ty n
 | .eK a=>.ref a
 | _=>.ref 0
def d6:D→Bool
 | .aS=>true
 | .bl _=>true
 | .int _=>true
 | .str _=>true
 | _=>false
theorem Rep.flat {K:PySem.W.Frag} {H:Hp} {M:Addr→Prop} {d:D} {v:V} (f:d6 d=true) (r:Rep K H M d v):v=fv d:=by
 cases d<;>first | exact r | (cases f)
theorem gY {d:D} (f:d6 d=true):et (fv d)=true:=by
 cases d<;>first | rfl | (cases f)
theorem ai.flat {K:PySem.W.Frag} {H:Hp} {M:Addr→Prop}:∀ {ds:List D} {vs:List V},ds.all d6=true→ai K H M ds vs→vs=ds.map fv∧vs.all et=true
 | [],vs,f,r=>by
  have r:vs=[]:=r
  subst r
  exact ⟨rfl,rfl⟩
 | d::ds,vs,f,r=>by
  obtain ⟨x,xr,rfl,r1,r2⟩:=r
  rw [List.all_cons,Bool.and_eq_true] at f
  obtain ⟨h1,h2⟩:=ai.flat f.2 r2
  have e:=r1.flat f.1
  subst e
  exact ⟨by rw [List.map_cons,h1],by rw [List.all_cons,h2,gY f.1];rfl⟩
def Hm:D→D→(D→Prop)→Prop:=fun a b k=>(d6 a=true∧d6 b=true∧zZ (fv a) (fv b)=true)∧k (.bl (decide (fv a=fv b)))
theorem jL:jX X c Fu Hm:=fun M s as σ H x y dx dy k Q L rx ry ⟨⟨f1,f2,hs⟩,hk⟩ kk=>by
 have e1:=rx.flat f1
 have e2:=ry.flat f2
 subst e1;subst e2
 exact ⟨hs,kk _ hk M H _ L .refl rfl⟩
def GK (neg:Bool):D→D→(D→Prop)→Prop:=fun a b k=>∃ ds,(b=.lst ds∨b=.tup ds)∧(d6 a=true∧ds.all d6=true)∧k (.bl (if neg then !oS (fv a) (ds.map fv) else oS (fv a) (ds.map fv)))
theorem okIn {neg:Bool}:jX X c (ym X.K neg) (GK neg):=fun M s as σ H x y dx dy k Q L rx ry ⟨ds,hb,⟨f1,f2⟩,hk⟩ kk=>by
 have e1:=rx.flat f1
 subst e1
 have go:∀ {p xs},ai X.K H M ds xs→(bS X.K H p xs∨dw X.K H p xs)→ym X.K neg (fv dx) (.ref p) H Q:=fun {p xs} r h=>by
  obtain ⟨e,f⟩:=r.flat f2
  refine ⟨p,xs,rfl,h,gY f1,f,?_⟩
  rw [e]
  exact kk _ hk M H _ L .refl rfl
 rcases hb with rfl | rfl
 ·obtain ⟨p,xs,rfl,⟨m,h⟩,r⟩:=ry
  exact go r (.inl (.of h))
 ·obtain ⟨p,xs,rfl,h,r⟩:=ry
  exact go r (.inr h.sq)
theorem ai.at {K:PySem.W.Frag} {H:Hp} {M:Addr→Prop} {ds:List D} {vs:List V} {i:Int} {d:D} (r:ai K H M ds vs) (h:jU ds i=some d):∃ v,jU vs i=some v∧Rep K H M d v:=by
 unfold jU at h ⊢
 rw [r.length]
 cases e:p5 ds.length i with
 | none=>rw [e] at h;cases h
 | some j =>
  rw [e] at h
  exact r.get h
def Cj:D→D→(D→Prop)→Prop:=fun a b k=>∃ ds i d,a=.tup ds∧b=.int i∧jU ds i=some d∧k d
def Cn:D→D→(D→Prop)→Prop:=fun a b k=>∃ ds i d,a=.lst ds∧b=.int i∧jU ds i=some d∧k d
def FD:D→D→(D→Prop)→Prop:=fun a b k=>∃ z i ch,a=.str z∧b=.int i∧z.length≤sizeLine∧jU z.cps.toList i=some ch∧k (.str ⟨#[ch]⟩)
theorem cR:jX X c (zR X.K) Cj:=fun M s as σ H x y dx dy k Q L rx ry ⟨ds,i,d,e1,e2,h,hk⟩ kk=>by
 subst e1;subst e2
 obtain ⟨p,xs,rfl,t,r⟩:=rx
 obtain ⟨v,h1,h2⟩:=r.at h
 exact ⟨p,xs,i,v,rfl,ry,t.sq,h1,kk _ hk M H _ L .refl h2⟩
theorem i7:jX X c (z8 X.K) Cn:=fun M s as σ H x y dx dy k Q L rx ry ⟨ds,i,d,e1,e2,h,hk⟩ kk=>by
 subst e1;subst e2
 obtain ⟨p,xs,rfl,⟨m,t⟩,r⟩:=rx
 obtain ⟨v,h1,h2⟩:=r.at h
 exact ⟨p,xs,i,v,rfl,ry,.of t,h1,kk _ hk M H _ L .refl h2⟩
theorem qw:jX X c zr FD:=fun M s as σ H x y dx dy k Q L rx ry ⟨z,i,ch,e1,e2,hz,h,hk⟩ kk=>by
 subst e1;subst e2
 exact ⟨z,i,ch,rx,ry,hz,h,kk _ hk M H _ L .refl rfl⟩
abbrev u7:=DS→(Option Int→DS→Prop)→Prop
def tO (K:PySem.W.Frag) (c:Ent) (t:u7):TO:=fun σ H Q=>∃ M s as R,ar K c M s as σ H∧t s R∧∀ o s',R o s'→∀ M' H',ar K c M' s' as σ H'→Ext c as M s H M' s' H'→Q o H'
structure DO (X:Cx) (c:Ent) (e:Option Expr) (t:u7):Prop where
 po:PO X e (tO X.K c t)
theorem _root_.L2.PO.imp {e:Option Expr} {t t':TO} (h:PO X e t) (w:∀ σ H Q,t' σ H Q→t σ H Q):PO X e t':=fun pins s σ H Q I q=>h pins s σ H Q I (w σ H Q q)
def Fw:u7:=fun s Q=>Q none s
def yd (te:bj):u7:=fun s Q=>te s fun d s1=>∃ i,d=.int i∧Q (some i) s1
theorem g6:DO X c none Fw:=⟨tZ.imp fun σ H Q ⟨M,s,as,R,L,q,k⟩=>k none s q M H L .refl⟩
theorem gr {e:Expr} {te:bj} (h:DE X c e te):DO X c (some e) (yd te):=⟨(jo h.pe).imp fun σ H Q ⟨M,s,as,R,L,q,k⟩ =>
 ⟨M,s,as,_,L,q,fun d s1 ⟨i,e,r⟩ M' H' v L' E' rv=>by
  subst e
  exact ⟨i,rv,k (some i) s1 r M' H' L' E'⟩⟩⟩
def cutD (xs:List D) (lo hi:Option Int):List D:=(xs.drop (HT.bw xs.length 0 lo)).take (HT.bw xs.length xs.length hi - HT.bw xs.length 0 lo)
theorem ai.cut {K:PySem.W.Frag} {H:Hp} {M:Addr→Prop} {ds:List D} {vs:List V} (lo hi:Option Int) (r:ai K H M ds vs):ai K H M (cutD ds lo hi) (gP vs lo hi):=by
 unfold cutD gP
 rw [r.length]
 exact (r.drop _).take _
def Ex (te:bj) (tl th:u7) (k:List D→Option Int→Option Int→(D→Prop)→D→Prop):bj:=fun s Q=>te s fun a s1=>tl s1 fun l s2=>th s2 fun u s3=>∃ ds,k ds l u (fun d=>Q d s3) a
def Hi:List D→Option Int→Option Int→(D→Prop)→D→Prop:=fun ds l u Q a=>a=.tup ds∧Q (.tup (cutD ds l u))
theorem ke {e:Expr} {lo hi:Option Expr} {te:bj} {tl th:u7} {p2 pos:Pos} (he:DE X c e te) (hl:DO X c lo tl) (hu:DO X c hi th):DE X c (.Subscript e (.Slice lo hi none p2) pos) (Ex te tl th Hi):=⟨(gB sd he.pe hl.po hu.po).imp fun σ H Q ⟨M,s,as,R,L,q,k⟩ =>
 ⟨M,s,as,_,L,q,fun d s1 q1 M1 H1 v L1 E1 rv=>⟨M1,s1,as,_,L1,q1,fun l s2 q2 M2 H2 Lb E2=>⟨M2,s2,as,_,Lb,q2,fun u s3 q3 M3 H3 Lc E3=>by
  obtain ⟨ds,e,q⟩:=q3
  subst e
  have E13:=E2.trans Lb.base E3
  have E0:=E1.trans L1.base E13
  obtain ⟨p,xs,rfl,t,r⟩:=E13.rep L1 rv
  refine ⟨p,xs,rfl,t.sq,fun hw=>?_,fun hw b hb=>?_⟩
  ·have e:cutD ds l u=ds:=by
    unfold cutD
    rw [← r.length,hw.1,hw.2,List.drop_zero,r.length,Nat.sub_zero,List.take_length]
   rw [e] at q
   exact k _ s3 q M3 H3 _ Lc E0 ⟨p,xs,rfl,t,r⟩
  ·exact k _ s3 q _ _ _ (Lc.fresh hb) (E0.trans Lc.base (Ext.fresh hb)) ⟨b,_,rfl,⟨.inr rfl,ah⟩,eS hb (r.cut l u)⟩⟩⟩⟩⟩
def EG:D→(D→Prop)→Prop:=fun a k=>∃ ds,a=.lst ds∧k (.lst ds.reverse)
theorem yF {e st:Expr} {te:bj} {p2 pos:Pos} (he:DE X c e te) (f9:PE X st (tC (.int (-1)))):DN X c (.Subscript e (.Slice none none (some st) p2) pos) (Gh EG te):=⟨(qf he.pe f9).imp fun σ H Q ⟨M,s,as,R,L,q,k⟩ =>
 ⟨M,s,as,_,L,q,fun d s1 ⟨ds,e,q1⟩ M1 H1 v L1 E1 rv=>by
  subst e
  obtain ⟨p,xs,rfl,⟨m,t⟩,r⟩:=rv
  exact ⟨p,xs,rfl,.of t,fun b hb=>eF (d:=.lst _) L L1 E1 hb r.reverse (k _ s1 q1)⟩⟩⟩
def j5 (C:List D→(D→Prop)→Prop) (t:dm):bj:=fun s Q=>t s fun ds s1=>C ds fun d=>Q d s1
def se (X:Cx) (c:Ent) (r:List V→Hp→VK→Prop) (C:List D→(D→Prop)→Prop):Prop:=∀ (M:Addr→Prop) (s:DS) (as:List Addr) (σ:St) (H:Hp) (xs:List V) (ds:List D) (k:D→Prop) (Q:VK),ar X.K c M s as σ H→ai X.K H M ds xs→C ds k →
 (∀ d,k d→∀ M' H' v,ar X.K c M' s as σ H'→Ext c as M s H M' s H'→Rep X.K H' M' d v→Q v H')→r xs H Q
def wg (X:Cx) (c:Ent) (r:List V→Hp→VK→Prop) (C:List D→(D→Prop)→Prop):Prop:=∀ (M:Addr→Prop) (s:DS) (as:List Addr) (σ:St) (H:Hp) (xs:List V) (ds:List D) (k:D→Prop) (Q:VK),ar X.K c M s as σ H→ai X.K H M ds xs→C ds k →
 (∀ d,k d→∀ p o,H p=none→bh X.K H M d o→Q (.ref p) (upd H p o))→r xs H Q
section
variable {x:Str} {p pos:Pos} {e:Expr} {es:List Expr} {t:dm} {id T:String} {r:List V→Hp→VK→Prop} {C:List D→(D→Prop)→Prop}
theorem ve {n:Nat} (k:se X c r C) {σ:St} {H:Hp} {Q:VK}:tE X.K c (j5 C t) σ H Q→uU r (tA X.K c n t) σ H Q:=fun ⟨M,s,as,R,L,q,kk⟩ =>
 ⟨M,s,as,_,L,q,fun ds s1 q1 M1 H1 vs L1 E1 r1 hl=>k M1 s1 as σ H1 vs ds (fun d=>R d s1) Q L1 r1 q1 fun d rd M' H' v L' E' rv=>kk d s1 rd M' H' v L' (E1.trans L1.base E') rv⟩
theorem wI {n:Nat} (k:wg X c r C) {σ:St} {H:Hp} {Q:VK}:tN X.K c (j5 C t) σ H Q→uU r (tA X.K c n t) σ H Q:=fun ⟨M,s,as,R,L,q,kk⟩ =>
 ⟨M,s,as,_,L,q,fun ds s1 q1 M1 H1 vs L1 E1 r1 hl=>k M1 s1 as σ H1 vs ds (fun d=>R d s1) Q L1 r1 q1 fun d rd p o hp ro=>eF L L1 E1 hp ro (kk d s1 rd)⟩
theorem cM (hc:cu X (.builtin id) r) (k:se X c r C) (hg:Gl X x) (hm:X.mg x=none) (hv:bootBuiltins x=some (.builtin id)) (ha:DA X c (e::es) t) (hn:x≠"__name__":=by decide) (jG:(x == ("__debug__":Str))=false:=by decide)
  (he:starEach (e::es) X.env=(false,eval e X.env)::starEach es X.env:=by rfl) (fg:(backTo pos (starEach es X.env)).any (·.1)=false:=by rfl):DE X c (.Call (.Name x p) (e::es) [] pos) (j5 C t):=⟨(eQ hc hg hm hv ha.pa hn jG he fg).imp fun _ _ _=>ve k⟩
theorem cT (hc:cu X (.type T) r) (k:se X c r C) (hg:Gl X x) (hm:X.mg x=none) (hv:bootBuiltins x=some (.type T)) (ha:DA X c (e::es) t) (hn:x≠"__name__":=by decide) (jG:(x == ("__debug__":Str))=false:=by decide)
  (he:starEach (e::es) X.env=(false,eval e X.env)::starEach es X.env:=by rfl) (fg:(backTo pos (starEach es X.env)).any (·.1)=false:=by rfl):DE X c (.Call (.Name x p) (e::es) [] pos) (j5 C t):=⟨(fi hc hg hm hv ha.pa hn jG he fg).imp fun _ _ _=>ve k⟩
theorem qM (hc:cu X (.type T) r) (k:wg X c r C) (hg:Gl X x) (hm:X.mg x=none) (hv:bootBuiltins x=some (.type T)) (ha:DA X c (e::es) t) (hn:x≠"__name__":=by decide) (jG:(x == ("__debug__":Str))=false:=by decide)
  (he:starEach (e::es) X.env=(false,eval e X.env)::starEach es X.env:=by rfl) (fg:(backTo pos (starEach es X.env)).any (·.1)=false:=by rfl):DN X c (.Call (.Name x p) (e::es) [] pos) (j5 C t):=⟨(fi hc hg hm hv ha.pa hn jG he fg).imp fun _ _ _=>wI k⟩
end
theorem bY {K:PySem.W.Frag} {H:Hp} {M:Addr→Prop} {d:D} {vs:List V} (r:ai K H M [d] vs):∃ v,vs=[v]∧Rep K H M d v:=by
 obtain ⟨x,xr,rfl,r1,r2⟩:=r
 have r2:xr=[]:=r2
 subst r2
 exact ⟨x,rfl,r1⟩
theorem qr {K:PySem.W.Frag} {H:Hp} {M:Addr→Prop} {d e:D} {vs:List V} (r:ai K H M [d,e] vs):∃ v w,vs=[v,w]∧Rep K H M d v∧Rep K H M e w:=by
 obtain ⟨x,xr,rfl,r1,r2⟩:=r
 obtain ⟨y,rfl,r3⟩:=bY r2
 exact ⟨x,y,rfl,r1,r3⟩
def Du:List D→(D→Prop)→Prop:=fun as k=>∃ ds,(as=[.lst ds]∨as=[.tup ds])∧k (.int ds.length)
theorem pV:se X c (fun xs H Q=>∃ p ys,xs=[.ref p]∧(bS X.K H p ys∨dw X.K H p ys)∧Q (.int ys.length) H) Du:=fun M s as σ H xs ds k Q L r ⟨es,hb,hk⟩ kk=>by
 rcases hb with rfl | rfl
 ·obtain ⟨v,rfl,p,ys,rfl,⟨m,h⟩,r'⟩:=bY r
  refine ⟨p,ys,rfl,.inl (.of h),?_⟩
  rw [r'.length]
  exact kk _ hk M H _ L .refl rfl
 ·obtain ⟨v,rfl,p,ys,rfl,h,r'⟩:=bY r
  refine ⟨p,ys,rfl,.inr h.sq,?_⟩
  rw [r'.length]
  exact kk _ hk M H _ L .refl rfl
def zv:List D→(D→Prop)→Prop:=fun as k=>∃ z,as=[.str z]∧z.length≤sizeLine∧k (.int z.length)
theorem wZ:se X c (fun xs H Q=>∃ z,xs=[.str z]∧z.length≤sizeLine∧Q (.int z.length) H) zv:=fun M s as σ H xs ds k Q L r ⟨z,e,hz,hk⟩ kk=>by
 subst e
 obtain ⟨v,rfl,e⟩:=bY r
 have e:v=.str z:=e
 subst e
 exact ⟨z,rfl,hz,kk _ hk M H _ L .refl rfl⟩
def Dc:List D→(D→Prop)→Prop:=fun as k=>∃ i j,as=[.int i,.int j]∧k (.int (if j > i then j else i))
theorem z1:se X c (fun xs H Q=>∃ i j,xs=[.int i,.int j]∧Q (.int (if j > i then j else i)) H) Dc:=fun M s as σ H xs ds k Q L r ⟨i,j,e,hk⟩ kk=>by
 subst e
 obtain ⟨v,w,rfl,e1,e2⟩:=qr r
 have e1:v=.int i:=e1
 have e2:w=.int j:=e2
 subst e1;subst e2
 exact ⟨i,j,rfl,kk _ hk M H _ L .refl rfl⟩
def zh:List D→(D→Prop)→Prop:=fun as k=>(∃ i,as=[.int i]∧k (.int i))∨∃ b,as=[.bl b]∧k (.int (if b then 1 else 0))
theorem v7:se X c (fun xs H Q=>(∃ i,xs=[.int i]∧Q (.int i) H)∨∃ k,xs=[.bl k]∧Q (.int (if k then 1 else 0)) H) zh:=fun M s as σ H xs ds k Q L r h kk=>by
 rcases h with ⟨i,rfl,hk⟩ | ⟨i,rfl,hk⟩
 ·obtain ⟨v,rfl,e1⟩:=bY r
  have e1:v=.int i:=e1
  subst e1
  exact .inl ⟨i,rfl,kk _ hk M H _ L .refl rfl⟩
 ·obtain ⟨v,rfl,e1⟩:=bY r
  have e1:v=.bl i:=e1
  subst e1
  exact .inr ⟨i,rfl,kk _ hk M H _ L .refl rfl⟩
def Dg:List D→(D→Prop)→Prop:=fun as k=>∃ ds,(as=[.lst ds]∨as=[.tup ds])∧k (.tup ds)
theorem k9:se X c (fun xs H Q=>∃ p ys,xs=[.ref p]∧((bS X.K H p ys∧∀ l,H l=none→Q (.ref l) (upd H l (.tup ys)))∨(dw X.K H p ys∧Q (.ref p) H))) Dg:=fun M s as σ H xs ds k Q L r ⟨es,hb,hk⟩ kk=>by
 rcases hb with rfl | rfl
 ·obtain ⟨v,rfl,p,ys,rfl,⟨m,h⟩,r'⟩:=bY r
  exact ⟨p,ys,rfl,.inl ⟨.of h,fun l hl=>kk _ hk _ _ _ (L.fresh hl) (Ext.fresh hl) ⟨l,ys,rfl,⟨.inr rfl,ah⟩,eS hl r'⟩⟩⟩
 ·obtain ⟨v,rfl,p,ys,rfl,h,r'⟩:=bY r
  exact ⟨p,ys,rfl,.inr ⟨h.sq,kk _ hk M H _ L .refl ⟨p,ys,rfl,h,r'⟩⟩⟩
def yZ (te:bj):dm:=fun s Q=>te s fun d s1=>∃ ds,(d=.lst ds∨d=.tup ds)∧Q ds s1
theorem gx {tg e:Expr} {te:bj} (he:DE X c e te):DI X c tg e (yZ te):=⟨fun pins s σ H R I ⟨M,s0,as,R0,L,q,k⟩=>xU he.pe pins s σ H R I
 ⟨M,s0,as,_,L,q,fun d s1 ⟨ds,hd,q1⟩ M1 H1 v L1 E1 rv=>by
  rcases hd with rfl | rfl
  ·obtain ⟨p,xs,rfl,⟨m,h⟩,r⟩:=rv
   refine ⟨p,rfl,.inl ⟨xs,.of h,fun hl=>k ds s1 q1 M1 H1 _ L1 E1 (fun M2 H2 G=>?_) (by rw [← r.length];exact hl)⟩⟩
   have h2:H2 p=some (.lst xs):=(G p m).2 _ h
   have r2:=G.ki r
   refine ⟨fun i hi=>⟨xs,.of h2,by rw [r.length];exact hi⟩,fun i d hd=>?_⟩
   obtain ⟨v,g1,g2⟩:=r2.get hd
   refine ⟨⟨xs,v,.of h2,g1⟩,fun x H3 ⟨e,hx⟩=>.inl ⟨e,?_⟩⟩
   have:=hx xs (.of h2)
   rw [g1] at this
   cases this
   exact g2
  ·obtain ⟨p,xs,rfl,h,r⟩:=rv
   refine ⟨p,rfl,.inr ⟨xs,h.sq,fun hl=>k ds s1 q1 M1 H1 _ L1 E1 (fun M2 H2 G=>?_) (by rw [← r.length];exact hl)⟩⟩
   have h2:dw X.K H2 p xs:=(h.mono (fun b m=>(G b m).1) fun b o m e=>(G b m).2 o e).sq
   have r2:=G.ki r
   refine ⟨fun i hi=>⟨xs,h2,by rw [r.length];exact hi⟩,fun i d hd=>?_⟩
   obtain ⟨v,g1,g2⟩:=r2.get hd
   refine ⟨⟨xs,v,h2,g1⟩,fun x H3 ⟨e,hx⟩=>.inl ⟨e,?_⟩⟩
   have:=hx xs h2
   rw [g1] at this
   cases this
   exact g2⟩⟩
def bM (lo:Int) (n:Nat):List D:=(List.range n).map fun i=>.int (lo+(i:Nat))
def zf (t:dm):dm:=fun s Q=>t s fun ds s1=>∃ j:Int,ds=[.int j]∧(-(2 ^ 62)≤j∧j≤16777216)∧Q (bM 0 j.toNat) s1
theorem qS {K:PySem.W.Frag} {M:Addr→Prop} {H:Hp} {lo:Int} {n:Nat}:vK K M H (bM lo n) (AV lo n):=fun M1 H1 G =>
 ⟨fun i hi=>by
  show n≤i
  simpa [bM] using hi,fun i d hd=>by
  unfold bM at hd
  rw [List.getElem?_map] at hd
  obtain ⟨j,h1,h2⟩:=Option.map_eq_some_iff.mp hd
  obtain ⟨hl,e⟩:=List.getElem?_eq_some_iff.mp h1
  simp at hl e
  subst e
  subst h2
  exact ⟨hl,fun x H2 ⟨e,hx⟩=>.inl ⟨e,hx⟩⟩⟩
section
variable {tg a b:Expr} {t:dm} {p pos:Pos}
theorem dB (hg:Gl X "range") (hm:X.mg "range"=none) (ha:DA X c [a] t) (hs:starEach [a] X.env=[(false,eval a X.env)]:=by rfl):DI X c tg (.Call (.Name "range" p) [a] [] pos) (zf t):=⟨fun pins s σ H R I ⟨M,s0,as,R0,L,q,k⟩=>oA hg hm ha.pa hs pins s σ H R I
 ⟨M,s0,as,_,L,q,fun ds s1 ⟨j,e,⟨h1,h2⟩,q1⟩ M1 H1 vs L1 E1 r _=>by
  subst e
  obtain ⟨v,rfl,e⟩:=bY r
  have e:v=.int j:=e
  subst e
  exact ⟨j,rfl,h1,by omega,k _ s1 q1 M1 H1 _ L1 E1 qS (by simp [bM,sizeLine];omega)⟩⟩⟩
end
end
end DL
namespace DL
open PySem PySem.Spec L2
open PyProof.Rows hiding St
section
variable {X:Cx} {c:Ent}
def Gk:D→Bool
 | .lst _=>true
 | _=>false
def sM:D→Bool
 | .mE _ _=>true
 | .dA _ _=>true
 | _=>false
theorem pE {K:PySem.W.Frag} {H:Hp} {M:Addr→Prop} {d:D} {o:HO} (h:Gk d=true) (r:bh K H M d o):∃ xs,o=.lst xs:=by
 cases d<;>first | (cases h;done) | (cases o<;>first | exact ⟨_,rfl⟩ | exact r.elim)
def Bk (i:Nat) (C:D→List D→(D→D→Prop)→Prop) (ta:dm):bj:=fun s Q=>∃ k d0,s.sl[i]?=some (.own k)∧s.os[k]?=some (some d0)∧Gk d0=true∧ta s fun ds s1=>∃ d1,s1.os[k]?=some (some d1)∧C d1 ds fun dr d2=>Q dr (s1.put k d2)
def xJ (X:Cx) (r:V→List V→Hp→VK→Prop) (C:D→List D→(D→D→Prop)→Prop):Prop:=∀ (M:Addr→Prop) (H:Hp) (a:Addr) (o:HO) (d1:D) (ds:List D) (vs:List V) (k:D→D→Prop) (Q:VK),H a=some o→bh X.K H M d1 o→ai X.K H M ds vs→¬ M a→C d1 ds k →
 (∀ dr d2,k dr d2→∀ o' v,bh X.K H M d2 o'→Rep X.K H M dr v→Q v (upd H a o'))→r (.ref a) vs H Q
theorem zt {i n:Nat} {r:V→List V→Hp→VK→Prop} {C:D→List D→(D→D→Prop)→Prop} {ta:dm} (ok:xJ X r C) {σ:St} {H:Hp} {Q:VK}:tE X.K c (Bk i C ta) σ H Q→Gp X.K "list" r (aM i) (tA X.K c n ta) σ H Q:=fun ⟨M,s,as,R,L,⟨k,d0,h1,h2,h3,q⟩,kk⟩=>by
 obtain ⟨a,o,g1,g2,g3,g4⟩:=L.slot h1 h2
 obtain ⟨xs,rfl⟩:=pE h3 g4
 refine ⟨.ref a,g2,.inl ⟨rfl,xs,.of g3⟩,M,s,as,_,L,q,fun ds s1 ⟨d1,e1,q1⟩ M1 H1 vs L1 E1 r1 hl=>?_⟩
 obtain ⟨⟨o1,f1,f2⟩,nm,ng,h0⟩:=L1.obj k d1 a e1 g1
 refine ok M1 H1 a o1 d1 ds vs _ Q f1 f2 r1 nm q1 fun dr d2 hk o' v ro rv=>?_
 have E2:Ext c as M1 s1 H1 M1 (s1.put k d2) (upd H1 a o'):=Ext.jd e1 g1
 exact kk dr _ hk M1 _ v (L1.jd e1 g1 ro) (E1.trans L1.base E2) (E2.rep L1 rv)
def uM:dm:=fun s Q=>Q [] s
theorem wa {i:Nat} {r:V→List V→Hp→VK→Prop} {C:D→List D→(D→D→Prop)→Prop} (ok:xJ X r C) {σ:St} {H:Hp} {Q:VK}:tE X.K c (Bk i C uM) σ H Q→vZ X.K "list" r (aM i) σ H Q:=fun ⟨M,s,as,R,L,⟨k,d0,h1,h2,h3,d1,e1,q1⟩,kk⟩=>by
 obtain ⟨a,o,g1,g2,g3,g4⟩:=L.slot h1 h2
 obtain ⟨xs,rfl⟩:=pE h3 g4
 refine ⟨.ref a,g2,.inl ⟨rfl,xs,.of g3⟩,?_⟩
 obtain ⟨⟨o1,f1,f2⟩,nm,ng,h0⟩:=L.obj k d1 a e1 g1
 refine ok M H a o1 d1 [] [] _ Q f1 f2 rfl nm q1 fun dr d2 hk o' v ro rv=>?_
 have E2:Ext c as M s H M (s.put k d2) (upd H a o'):=Ext.jd e1 g1
 exact kk dr _ hk M _ v (L.jd e1 g1 ro) E2 (E2.rep L rv)
section
variable {o e:Expr} {es:List Expr} {i:Nat} {t:dm} {name:Str} {apos bF:Pos} {id:String} {r:V→List V→Hp→VK→Prop} {C:D→List D→(D→D→Prop)→Prop}
theorem p9 (slot:Slot "list" name id) (xO:typeOf (.builtin id)=pure (.type "method_descriptor")) (hm:A5 X id r) (ok:xJ X r C) (ho:PE X o (aM i)) (ha:DA X c (e::es) t)
  (e8:attributeBase o name X.env (eval o X.env)=eval o X.env:=by rfl)
  (pz:((backTo bF (starEach (e::es) X.env)).all (fun x=>!x.1)&&(backToKw bF (keywordEach [] X.env)).all (fun x=>x.1.isSome)
   && decide ((e::es).length+([]:List Keyword).length+(if ([]:List Keyword).isEmpty then 0 else 1) < 30))=true:=by rfl)
  (dN:(apos.endLine == bF.line)=true:=by rfl) (hs:starEach (e::es) X.env=(false,eval e X.env)::starEach es X.env:=by rfl) (gu:(backTo bF (starEach es X.env)).any (·.1)=false:=by rfl) :
  DE X c (.Call (.Attribute o name apos) (e::es) [] bF) (Bk i C t):=⟨(uR PySem.F.plainAttrs_list slot xO hm ho ha.pa e8 pz dN hs gu).imp fun _ _ _=>zt ok⟩
theorem qG (slot:Slot "list" name id) (xO:typeOf (.builtin id)=pure (.type "method_descriptor")) (hm:A5 X id r) (ok:xJ X r C) (ho:PE X o (aM i))
  (e8:attributeBase o name X.env (eval o X.env)=eval o X.env:=by rfl) (dN:(apos.endLine == bF.line)=true:=by rfl):DE X c (.Call (.Attribute o name apos) [] [] bF) (Bk i C uM) :=
 ⟨(ql PySem.F.plainAttrs_list slot xO hm ho e8 dN).imp fun _ _ _=>wa ok⟩
end
def Cu:D→List D→(D→D→Prop)→Prop:=fun d ds k=>∃ xs x,d=.lst xs∧ds=[x]∧xs.length < sizeLine∧k .aS (.lst (xs++[x]))
theorem mW:xJ X mT Cu:=fun M H a o d ds vs k Q ha ro rv nm ⟨xs,x,e1,e2,hl,hk⟩ kk=>by
 subst e1;subst e2
 cases o with
 | lst ys =>
  have ro:ai X.K H M xs ys:=ro
  obtain ⟨v,rfl,rx⟩:=bY rv
  exact ⟨a,ys,v,rfl,rfl,ha,by rw [ro.length];exact hl,kk _ _ hk _ _ (show bh X.K H M (.lst _) (.lst _) from ro.append (.one rx)) rfl⟩
 | _=>exact ro.elim
def ER:D→List D→(D→D→Prop)→Prop:=fun d ds k=>∃ xs ys,d=.lst xs∧ds=[.lst ys]∧xs.length+ys.length≤sizeLine∧k .aS (.lst (xs++ys))
theorem AL:xJ X mS ER:=fun M H a o d ds vs k Q ha ro rv nm ⟨xs,ys,e1,e2,hl,hk⟩ kk=>by
 subst e1;subst e2
 cases o with
 | lst us =>
  have ro:ai X.K H M xs us:=ro
  obtain ⟨v,rfl,b,zs,rfl,⟨m,hb⟩,rz⟩:=bY rv
  exact ⟨a,b,us,zs,rfl,rfl,ha,hb,by rw [ro.length,rz.length];exact hl,kk _ _ hk _ _ (show bh X.K H M (.lst _) (.lst _) from ro.append rz) rfl⟩
 | _=>exact ro.elim
theorem ai.snoc {K:PySem.W.Frag} {H:Hp} {M:Addr→Prop}:∀ {ds:List D} {x:D} {vs:List V},ai K H M (ds++[x]) vs→∃ us v,vs=us++[v]∧ai K H M ds us∧Rep K H M x v
 | [],x,vs,r=>by
  obtain ⟨v,rfl,h⟩:=bY r
  exact ⟨[],v,rfl,rfl,h⟩
 | d::ds,x,vs,r=>by
  obtain ⟨y,yr,rfl,r1,r2⟩:=r
  obtain ⟨us,v,rfl,h1,h2⟩:=ai.snoc (ds:=ds) r2
  exact ⟨y::us,v,rfl,⟨y,us,rfl,r1,h1⟩,h2⟩
def Fm:D→List D→(D→D→Prop)→Prop:=fun d ds k=>∃ xs x,d=.lst (xs++[x])∧ds=[]∧k x (.lst xs)
theorem rg:xJ X xt Fm:=fun M H a o d ds vs k Q ha ro rv nm ⟨xs,x,e1,e2,hk⟩ kk=>by
 subst e1;subst e2
 cases o with
 | lst us =>
  obtain ⟨ws,v,rfl,r1,r2⟩:=ai.snoc (show ai X.K H M (xs++[x]) us from ro)
  have rv:vs=[]:=rv
  subst rv
  refine ⟨a,ws++[v],v,rfl,rfl,ha,by simp,?_⟩
  rw [List.dropLast_concat]
  exact kk _ _ hk _ _ (show bh X.K H M (.lst _) (.lst _) from r1) r2
 | _=>exact ro.elim
def xw (i:Nat) (te ti:bj):ff:=fun R s=>te s fun d s1=>∃ k,s1.sl[i]?=some (.own k)∧ti s1 fun di s2=>∃ xs z j,s2.os[k]?=some (some (.lst xs))∧di=.int z∧p5 xs.length z=some j∧R.nx (s2.put k (.lst (xs.set j d)))
theorem sP {i:Nat} {st:Stmt} {te ti:bj} (h:PS X st (fA (tE X.K c te) (zG (aM i) (tE X.K c ti) vm))):ot X c st (xw i te ti):=⟨h.imp fun E σ H ⟨M,s,as,R,L,q,kk⟩ =>
 ⟨M,s,as,_,L,q,fun d s1 ⟨k,h1,q1⟩ M1 H1 v L1 E1 rv=>by
  obtain ⟨a,g1,g2⟩:=L1.own i k h1
  refine ⟨.ref a,g2,M1,s1,as,_,L1,q1,fun di s2 ⟨xs,z,j,h2,e,hj,q2⟩ M2 H2 w Lb E2 rw=>?_⟩
  subst e
  obtain ⟨⟨o,f1,f2⟩,nm,ng,h0⟩:=Lb.obj k _ a h2 g1
  cases o with
  | lst us =>
   have f2:ai X.K H2 M2 xs us:=f2
   have rw:w=.int z:=rw
   subst rw
   have rv2:=E2.rep L1 rv
   have hG:bX M H M2 (upd H2 a (.lst (us.set j v))):=(E1.grow L).trans ((E2.grow L1).trans ((Ext.jd (c:=c) (M:=M2) (d:=.lst (xs.set j d)) h2 g1).grow Lb))
   exact ⟨a,us,z,j,rfl,rfl,f1,by rw [f2.length];exact hj,kk.nx _ as M2 σ _ q2 (Lb.jd h2 g1 (show bh X.K H2 M2 (.lst _) (.lst _) from f2.set rv2 j)) hG⟩
  | _=>exact f2.elim⟩⟩
def yI (i:Nat):iI:=fun s Q=>∃ k xs,s.sl[i]?=some (.own k)∧s.os[k]?=some (some (.lst xs))∧Q (!xs.isEmpty) s
theorem kR {α β:Type} {l:List α} {m:List β} (h:l.length=m.length):l.isEmpty=m.isEmpty:=by
 cases l<;>cases m<;>first | rfl | simp at h
theorem uv {i:Nat} {e:Expr} (he:PE X e (aM i)) (hw:∀ whole,isTrue e X.env whole=(do let v ← whole;standAt e.pos;holding [v] (truthy v)):=by intro _;rfl):DT X c e (yI i):=⟨(pB he hw).imp fun σ H Q ⟨M,s,as,R,L,⟨k,xs,h1,h2,q⟩,kk⟩=>by
 obtain ⟨a,o,g1,g2,g3,g4⟩:=L.slot h1 h2
 cases o with
 | lst us =>
  have g4:ai X.K H M xs us:=g4
  refine ⟨_,g2,!us.isEmpty,.inl ⟨us,.of g3,rfl⟩,?_⟩
  rw [kR g4.length]
  exact kk _ s q M H L .refl
 | _=>exact g4.elim⟩
def j4 (k:Nat) (d:D):Sl→Sl
 | .own j=>if j=k then .dat d else .own j
 | x=>x
def DS.freeze (s:DS) (k:Nat) (d:D):DS:=⟨s.sl.map (j4 k d),s.os.set k none⟩
def Ai (i:Nat):bj:=fun s Q=>∃ k d,s.sl[i]?=some (.own k)∧s.os[k]?=some (some d)∧Q d (s.freeze k d)
theorem FO {i:Nat} {e:Expr} (h:PE X e (aM i)):DE X c e (Ai i):=⟨h.imp fun σ H Q ⟨M,s,as,R,L,⟨k,d,h1,h2,q⟩,kk⟩=>by
 obtain ⟨a,o,g1,g2,g3,g4⟩:=L.slot h1 h2
 obtain ⟨_,nm,ng,h0⟩:=L.obj k d a h2 g1
 refine ⟨_,g2,?_⟩
 have mk:∀ b u,M b→H b=some u→H b=some u:=fun _ _ _ e=>e
 have ra:Rep X.K H (fun b=>M b∨b=a) d (.ref a):=(g4.mono (fun _ m=>.inl m) mk).rep g3 (.inr rfl)
 have hos:∀ {l:Nat} {e:D},(s.freeze k d).os[l]?=some (some e)→l≠k∧s.os[l]?=some (some e):=fun {l e} h=>by
  rcases bK h with ⟨rfl,hl,q⟩ | ⟨ne,q⟩
  ·cases q
  ·exact ⟨fun z=>ne z.symm,q⟩
 refine kk d _ q (fun b=>M b∨b=a) H (.ref a) ⟨⟨L.base.fG,L.base.fr,fun b m=>?_,fun b m=>?_,fun b m=>.inl (L.base.m0 b m),fun b m=>?_⟩,?_,?_,fun j e he=>?_,fun j l hj=>?_,fun l e b e1 e2=>?_,fun l m e f b e1 e2 f1 f2=>?_,L.lt⟩ ⟨fun _ m=>.inl m,fun b m=>?_,fun _ _ e _ _=>e,fun b ⟨l,e,e1,e2⟩=>⟨l,e,(hos e1).2,e2⟩⟩ ra
 ·rcases m with m | rfl
  ·exact L.base.md b m
  ·exact ⟨o,g3⟩
 ·rcases m with m | rfl
  ·exact L.base.mo b m
  ·exact ng
 ·rcases m with m | rfl
  ·exact L.base.mn b m
  ·exact .inr (.inl h0)
 ·show (s.sl.map _).length=_
  rw [List.length_map]
  exact L.len
 ·show as.length=(s.os.set k none).length
  rw [List.length_set]
  exact L.cZ
 ·have he:(s.sl.map (j4 k d))[j]?=some (.dat e):=he
  rw [List.getElem?_map] at he
  obtain ⟨x,hx,hy⟩:=Option.map_eq_some_iff.mp he
  cases x with
  | no=>cases hy
  | dat y =>
   cases hy
   obtain ⟨v,w1,w2⟩:=L.dat j e hx
   exact ⟨v,w1,Rep.mono (fun _ m=>.inl m) mk e v w2⟩
  | own l =>
   replace hy:(if l=k then Sl.dat d else Sl.own l)=.dat e:=hy
   by_cases z:l=k
   ·rw [if_pos z] at hy
    cases hy
    subst z
    obtain ⟨b,w1,w2⟩:=L.own j l hx
    rw [g1] at w1
    cases w1
    exact ⟨_,w2,ra⟩
   ·rw [if_neg z] at hy
    cases hy
 ·have hj:(s.sl.map (j4 k d))[j]?=some (.own l):=hj
  rw [List.getElem?_map] at hj
  obtain ⟨x,hx,hy⟩:=Option.map_eq_some_iff.mp hj
  cases x with
  | no=>cases hy
  | dat y=>cases hy
  | own l' =>
   replace hy:(if l'=k then Sl.dat d else Sl.own l')=.own l:=hy
   by_cases z:l'=k
   ·rw [if_pos z] at hy
    cases hy
   ·rw [if_neg z] at hy
    cases hy
    exact L.own j l hx
 ·obtain ⟨ne,e1'⟩:=hos e1
  obtain ⟨⟨u,w1,w2⟩,w3,w4⟩:=L.obj l e b e1' e2
  refine ⟨⟨u,w1,w2.mono (fun _ m=>.inl m) mk⟩,fun m=>?_,w4⟩
  rcases m with m | rfl
  ·exact w3 m
  ·exact ne (L.inj l k e d b e1' h2 e2 g1)
 ·exact L.inj l m e f b (hos e1).2 (hos e2).2 f1 f2
 ·rcases m with m | rfl
  ·exact .inl m
  ·exact .inr (.inr ⟨k,d,h2,g1⟩)⟩
def qd:D→Option Key
 | .int i=>some (.inl i)
 | .str x=>some (.inr x)
 | _=>none
def fK:List D→Option (List Key)
 | []=>some []
 | d::r=>match qd d,fK r with
  | some k,some ks=>some (k::ks)
  | _,_=>none
theorem gw {K:PySem.W.Frag} {H:Hp} {M:Addr→Prop} {d:D} {k:Key} {v:V} (h:qd d=some k) (r:Rep K H M d v):v=kV k:=by
 cases d<;>first | (cases h;exact r) | cases h
theorem dX {K:PySem.W.Frag} {H:Hp} {M:Addr→Prop}:∀ {ds:List D} {ks:List Key} {vs:List V},fK ds=some ks→ai K H M ds vs→vs=ks.map kV
 | [],ks,vs,h,r=>by
  cases h
  exact r
 | d::ds,ks,vs,h,r=>by
  obtain ⟨x,xr,rfl,r1,r2⟩:=r
  unfold fK at h
  cases e1:qd d with
  | none=>rw [e1] at h;cases h
  | some k =>
   cases e2:fK ds with
   | none=>rw [e1,e2] at h;cases h
   | some l =>
    rw [e1,e2] at h
    cases h
    rw [gw e1 r1,dX e2 r2,List.map_cons]
section
variable {κ:Type} [DecidableEq κ]
def a8:List κ→List D→κ→Option D
 | k::ks,d::ds,q=>if k=q then some d else a8 ks ds q
 | _,_,_=>none
def ji (ks:List κ) (q:κ):Bool:=ks.any fun k=>decide (k=q)
def fI:List κ→List D→κ→D→List D
 | k::ks,d::ds,q,x=>(if k=q then x else d)::fI ks ds q x
 | _,_,_,_=>[]
def cp (ks:List κ) (q:κ):List κ:=if ji ks q=true then ks else ks++[q]
def cA (ks:List κ) (vs:List D) (q:κ) (x:D):List D:=if ji ks q=true then fI ks vs q x else vs++[x]
variable {K:PySem.W.Frag} {H:Hp} {M:Addr→Prop}
theorem jl {q:κ}:∀ {kvs:List (κ×V)} {ks:List κ} {vs:List D},kvs.map (·.1)=ks→ai K H M vs (kvs.map (·.2))→(dh kvs q=none∧a8 ks vs q=none)∨∃ v d,dh kvs q=some v∧a8 ks vs q=some d∧Rep K H M d v
 | [],ks,vs,h,r=>by
  subst h
  exact .inl ⟨rfl,by cases vs<;>rfl⟩
 | p::kvs,ks,vs,h,r=>by
  subst h
  cases vs with
  | nil=>exact absurd (show (p::kvs).map (·.2)=[] from r) (by simp)
  | cons d ds =>
   obtain ⟨x,xr,e,r1,r2⟩:=r
   rw [List.map_cons] at e
   cases e
   by_cases z:p.1=q
   ·refine .inr ⟨p.2,d,cE z,?_,r1⟩
    show (if p.1=q then some d else _)=_
    rw [if_pos z]
   ·rw [bI z]
    have e2:a8 (((p::kvs).map (·.1))) (d::ds) q=a8 (kvs.map (·.1)) ds q:=by
     show (if p.1=q then some d else _)=_
     rw [if_neg z]
    rw [e2]
    exact jl rfl r2
theorem has_any {q:κ}:∀ {kvs:List (κ×V)},(kvs.any fun kv=>decide (kv.1=q))=ji (kvs.map (·.1)) q
 | []=>rfl
 | p::kvs=>by
  unfold ji
  rw [List.any_cons,List.map_cons,List.any_cons,has_any (kvs:=kvs)]
  rfl
theorem lY {q:κ} {x:D} {y:V} (ry:Rep K H M x y) {kvs:List (κ×V)} {vs:List D} (r:ai K H M vs (kvs.map (·.2))):(putK kvs q y).map (·.1)=cp (kvs.map (·.1)) q∧ai K H M (cA (kvs.map (·.1)) vs q x) ((putK kvs q y).map (·.2)):=by
 unfold putK cp cA
 rw [has_any]
 by_cases h:ji (kvs.map (·.1)) q=true
 ·rw [if_pos h,if_pos h,if_pos h]
  clear h
  refine ⟨?_,?_⟩
  ·rw [List.map_map]
   refine List.map_congr_left fun p _=>?_
   show (if p.1=q then (p.1,y) else p).1=p.1
   split<;>rfl
  ·induction kvs generalizing vs with
   | nil =>
    cases vs with
    | nil=>rfl
    | cons d ds =>
     obtain ⟨_,_,e,_⟩:=r
     cases e
   | cons p kvs ih =>
    cases vs with
    | nil=>exact absurd (show (p::kvs).map (·.2)=[] from r) (by simp)
    | cons d ds =>
     obtain ⟨v,vr,e,r1,r2⟩:=r
     rw [List.map_cons] at e
     cases e
     refine ⟨_,_,rfl,?_,ih r2⟩
     show Rep K H M (if p.1=q then x else d) (if p.1=q then (p.1,y) else p).2
     by_cases z:p.1=q
     ·rw [if_pos z,if_pos z]
      exact ry
     ·rw [if_neg z,if_neg z]
      exact r1
 ·rw [if_neg h,if_neg h,if_neg h]
  rw [List.map_append,List.map_append]
  exact ⟨rfl,r.append (.one ry)⟩
end
def sF (d dy:D) (k:Option D→Prop):Prop:=(∃ ks vs q,d=.mE ks vs∧qd dy=some q∧k (a8 ks vs q))∨∃ ks vs ts q,d=.dA ks vs∧dy=.tup ts∧fK ts=some q∧k (a8 ks vs q)
def zg (d dy x:D) (k:D→Prop):Prop:=(∃ ks vs q,d=.mE ks vs∧qd dy=some q∧ks.length < sizeLine∧k (.mE (cp ks q) (cA ks vs q x)))∨∃ ks vs ts q,d=.dA ks vs∧dy=.tup ts∧fK ts=some q∧ks.length < sizeLine∧k (.dA (cp ks q) (cA ks vs q x))
theorem jv {H:Hp} {M:Addr→Prop} {d dy:D} {k:Option D→Prop} {a:Addr} {o:HO} {y:V} (h:sF d dy k) (ha:H a=some o) (ro:bh X.K H M d o) (ry:Rep X.K H M dy y):∃ ov od,dq H a y ov∧k od∧((ov=none∧od=none)∨∃ v e,ov=some v∧od=some e∧Rep X.K H M e v):=by
 rcases h with ⟨ks,vs,q,rfl,hq,hk⟩ | ⟨ks,vs,ts,q,rfl,rfl,hq,hk⟩
 ·cases o with
  | dK kvs =>
   obtain ⟨e,r⟩:=(show kvs.map (·.1)=ks∧ai X.K H M vs (kvs.map (·.2)) from ro)
   have ey:=gw hq ry
   subst ey
   refine ⟨_,_,dq.k ha,hk,?_⟩
   rcases jl (q:=q) e r with ⟨h1,h2⟩ | ⟨v,x,h1,h2,h3⟩
   ·exact .inl ⟨h1,h2⟩
   ·exact .inr ⟨v,x,h1,h2,h3⟩
  | _=>exact ro.elim
 ·cases o with
  | dT kvs =>
   obtain ⟨e,r⟩:=(show kvs.map (·.1)=ks∧ai X.K H M vs (kvs.map (·.2)) from ro)
   obtain ⟨b,xs,rfl,⟨m,hb⟩,rx⟩:=ry
   have ex:=dX hq rx
   subst ex
   refine ⟨_,_,dq.t ha hb,hk,?_⟩
   rcases jl (q:=q) e r with ⟨h1,h2⟩ | ⟨v,x,h1,h2,h3⟩
   ·exact .inl ⟨h1,h2⟩
   ·exact .inr ⟨v,x,h1,h2,h3⟩
  | _=>exact ro.elim
theorem ug {H:Hp} {M:Addr→Prop} {d dy x:D} {k:D→Prop} {a:Addr} {o:HO} {y z:V} (h:zg d dy x k) (ha:H a=some o) (ro:bh X.K H M d o) (ry:Rep X.K H M dy y) (rz:Rep X.K H M x z):∃ d2 o2,fB H a y z (upd H a o2)∧k d2∧bh X.K H M d2 o2:=by
 rcases h with ⟨ks,vs,q,rfl,hq,hl,hk⟩ | ⟨ks,vs,ts,q,rfl,rfl,hq,hl,hk⟩
 ·cases o with
  | dK kvs =>
   obtain ⟨e,r⟩:=(show kvs.map (·.1)=ks∧ai X.K H M vs (kvs.map (·.2)) from ro)
   subst e
   have ey:=gw hq ry
   subst ey
   exact ⟨_,_,fB.k ha (by simpa using hl),hk,(show bh X.K H M (.mE _ _) (.dK _) from lY rz r)⟩
  | _=>exact ro.elim
 ·cases o with
  | dT kvs =>
   obtain ⟨e,r⟩:=(show kvs.map (·.1)=ks∧ai X.K H M vs (kvs.map (·.2)) from ro)
   subst e
   obtain ⟨b,xs,rfl,⟨m,hb⟩,rx⟩:=ry
   have ex:=dX hq rx
   subst ex
   exact ⟨_,_,fB.t ha hb (by simpa using hl),hk,(show bh X.K H M (.dA _ _) (.dT _) from lY rz r)⟩
  | _=>exact ro.elim
theorem vU {H:Hp} {M:Addr→Prop} {d:D} {o:HO} {a:Addr} (hd:sM d=true) (ha:H a=some o) (ro:bh X.K H M d o):FF H a:=by
 cases d<;>first | (cases hd;done) | (cases o<;>first | exact .inl ⟨_,.inl ha⟩ | exact .inr ⟨_,.inl ha⟩ | exact ro.elim)
def wq (i:Nat) (ty tv:bj):ff:=fun R s=>tv s fun d s1=>∃ k,s1.sl[i]?=some (.own k)∧ty s1 fun dy s2=>∃ d1,s2.os[k]?=some (some d1)∧zg d1 dy d fun d2=>R.nx (s2.put k d2)
theorem sO {i:Nat} {st:Stmt} {ty tv:bj} (h:PS X st (k6 (aM i) (tE X.K c ty) (tE X.K c tv))):ot X c st (wq i ty tv):=⟨h.imp fun E σ H ⟨M,s,as,R,L,q,kk⟩ =>
 ⟨M,s,as,_,L,q,fun d s1 ⟨k,h1,q1⟩ M1 H1 v L1 E1 rv=>by
  obtain ⟨a,g1,g2⟩:=L1.own i k h1
  refine ⟨.ref a,g2,M1,s1,as,_,L1,q1,fun dy s2 ⟨d1,h2,q2⟩ M2 H2 w Lb E2 rw=>?_⟩
  obtain ⟨⟨o,f1,f2⟩,nm,ng,h0⟩:=Lb.obj k _ a h2 g1
  obtain ⟨d2,o2,p1,p2,p3⟩:=ug q2 f1 f2 rw (E2.rep L1 rv)
  exact ⟨a,_,rfl,p1,kk.nx _ as M2 σ _ p2 (Lb.jd h2 g1 p3) ((E1.grow L).trans ((E2.grow L1).trans ((Ext.jd (c:=c) (M:=M2) (d:=d2) h2 g1).grow Lb)))⟩⟩⟩
def z0 (i:Nat) (ty:bj):bj:=fun s Q=>∃ k,s.sl[i]?=some (.own k)∧ty s fun dy s1=>∃ d1,s1.os[k]?=some (some d1)∧sF d1 dy fun od=>∃ d,od=some d∧Q d s1
theorem wM {i:Nat} {e:Expr} {ty:bj} (h:PE X e (ee (aM i) (tE X.K c ty))):DE X c e (z0 i ty):=⟨h.imp fun σ H Q ⟨M,s,as,R,L,⟨k,h1,q⟩,kk⟩=>by
 obtain ⟨a,g1,g2⟩:=L.own i k h1
 refine ⟨.ref a,g2,M,s,as,_,L,q,fun dy s1 ⟨d1,e1,q1⟩ M1 H1 y L1 E1 ry=>?_⟩
 obtain ⟨⟨o1,f1,f2⟩,nm,ng,h0⟩:=L1.obj k _ a e1 g1
 obtain ⟨ov,od,w1,⟨d,e2,w2⟩,w3⟩:=jv q1 f1 f2 ry
 subst e2
 rcases w3 with ⟨rfl,z⟩ | ⟨v,x,rfl,z,rx⟩
 ·cases z
 ·cases z
  exact ⟨a,v,rfl,w1,kk _ s1 w2 M1 H1 v L1 E1 rx⟩⟩
theorem Rep.dc {K:PySem.W.Frag} {H:Hp} {M:Addr→Prop} {d:D} {v:V} (h:sM d=true) (r:Rep K H M d v):∃ a o,v=.ref a∧H a=some o∧bh K H M d o:=by
 cases d<;>first | (cases h;done) | (obtain ⟨a,kvs,e,⟨m,ha⟩,h1,h2⟩:=r;exact ⟨a,_,e,ha,h1,h2⟩)
def AM (td ty:bj):bj:=fun s Q=>td s fun d s1=>ty s1 fun dy s2=>sM d=true∧sF d dy fun od=>∃ x,od=some x∧Q x s2
theorem y8 {e:Expr} {td ty:bj} (h:PE X e (ee (tE X.K c td) (tE X.K c ty))):DE X c e (AM td ty):=⟨h.imp fun σ H Q ⟨M,s,as,R,L,q,kk⟩ =>
 ⟨M,s,as,_,L,q,fun d s1 q1 M1 H1 v L1 E1 rv=>⟨M1,s1,as,_,L1,q1,fun dy s2 ⟨hd,q2⟩ M2 H2 y Lb E2 ry=>by
  obtain ⟨a,o,rfl,f1,f2⟩:=(E2.rep L1 rv).dc hd
  obtain ⟨ov,od,w1,⟨x,e2,w2⟩,w3⟩:=jv q2 f1 f2 ry
  subst e2
  rcases w3 with ⟨rfl,z⟩ | ⟨v,x,rfl,z,rx⟩
  ·cases z
  ·cases z
   exact ⟨a,v,rfl,w1,kk _ s2 w2 M2 H2 v Lb (E1.trans L1.base E2) rx⟩⟩⟩⟩
def xC:bj:=fun s Q=>Q (.dA [] []) s
theorem sg {pos:Pos}:DN X c (.Dict [] [] pos) xC:=⟨rF.imp fun σ H Q ⟨M,s,as,R,L,q,k⟩=>fun p hp=>eF (d:=.dA [] []) L L .refl hp (show bh X.K H M (.dA [] []) (.dT []) from ⟨rfl,rfl⟩) (k _ s q)⟩
end
end DL
namespace yu
open PySem Sem
open PySem.AutoSeq1 (wpAny_loadPart')
section
variable {prog:Program} {w:World} {A:Around} {E:Value→Shared→Prop} {s:Shared}
theorem eZ {it t:Addr} {i:Nat} {items:Array Value} {x:Value} {Q:Value→Shared→Prop} (hit:s.heap.IsTupleIter it t i)
  (ht:s.heap.IsTuple t items) (hx:items[i]?=some x)
  (hQ:∀ h',h'.IsTupleIter it t (i+1)→Heap.SameBut it s.heap h'→Q x { s with heap:=h' }) :
  wpAny (model prog w) A (Builtin.SmallTypes.nextOf (.ref it)) Q E s:=by
 obtain ⟨o,ho,hc,hd⟩:=id hit
 obtain ⟨ol,hol,_,nl,hdl⟩:=ht
 unfold Builtin.SmallTypes.nextOf
 refine wpAny_bind (wpAny_callSpecial?_slot (name:=Str.ofString "__next__") hit.typeIs F.slot_tuple_iterator_next
  (wpAny_call_entry F.slot_tuple_iterator_next hit.typeIs F.entry_tuple_iterator_next ?_ (F.args_tuple_iterator_next_1 _)))
 show wpAny _ _ (field (.ref it) 0 >>= _) _ _ s
 refine wpAny_bind (wpAny_field ho hd (x:=.ref t) rfl ?_)
 show wpAny _ _ (if (Value.ref t == Value.none)=true then _ else _) _ _ s
 rw [if_neg (show ¬ ((Value.ref t == Value.none)=true) from Bool.false_ne_true)]
 show wpAny _ _ (field (.ref it) 1 >>= _) _ _ s
 refine wpAny_bind (wpAny_field ho hd (x:=.int i 0) rfl ?_)
 show wpAny _ _ (seqItems? (.ref t) >>= _) _ _ s
 refine wpAny_bind (wpAny_seqItems hol hdl ?_)
 simp only [Int.toNat_natCast,hx]
 refine wpAny_bind (wpAny_setField ho hd (by simp) (wpAny_pure ⟨x,rfl,wpAny_pure (hQ _ ?_ (Heap.SameBut.update ..))⟩))
 exact ⟨_,Heap.get?_update_self _ ho (Obj.isFreed_of_fields (Obj.data_mapFields hd _)),(Obj.cls_mapFields ..).trans hc,by
  rw [Obj.data_mapFields hd];simp [rawInt]⟩
theorem c3 {it t:Addr} {i:Nat} {items:Array Value} {Q:Value→Shared→Prop} (hh:A.handled=none)
  (hit:s.heap.IsTupleIter it t i) (ht:s.heap.IsTuple t items) (hx:items[i]?=none)
  (hE:∀ h' e,Heap.ExtBut it s.heap h'→(∃ o,h'.get? e=some o∧o.cls=.type "StopIteration")→E (.ref e) { s with heap:=h' }) :
  wpAny (model prog w) A (Builtin.SmallTypes.nextOf (.ref it)) Q E s:=by
 obtain ⟨o,ho,hc,hd⟩:=id hit
 obtain ⟨ol,hol,_,nl,hdl⟩:=ht
 unfold Builtin.SmallTypes.nextOf
 refine wpAny_bind (wpAny_callSpecial?_slot (name:=Str.ofString "__next__") hit.typeIs F.slot_tuple_iterator_next
  (wpAny_call_entry F.slot_tuple_iterator_next hit.typeIs F.entry_tuple_iterator_next ?_ (F.args_tuple_iterator_next_1 _)))
 show wpAny _ _ (field (.ref it) 0 >>= _) _ _ s
 refine wpAny_bind (wpAny_field ho hd (x:=.ref t) rfl ?_)
 show wpAny _ _ (if (Value.ref t == Value.none)=true then _ else _) _ _ s
 rw [if_neg (show ¬ ((Value.ref t == Value.none)=true) from Bool.false_ne_true)]
 show wpAny _ _ (field (.ref it) 1 >>= _) _ _ s
 refine wpAny_bind (wpAny_field ho hd (x:=.int i 0) rfl ?_)
 show wpAny _ _ (seqItems? (.ref t) >>= _) _ _ s
 refine wpAny_bind (wpAny_seqItems hol hdl ?_)
 simp only [Int.toNat_natCast,hx]
 refine wpAny_bind (wpAny_rule (wpAny_bind (wpAny_setField ho hd (by simp) ?_)))
 show wpAny _ _ (newExc (.type "StopIteration") [] >>= _) _ _ _
 refine wpAny_bind ?_
 simp only [newExc,newTuple]
 refine wpAny_bind (wpAny_newObj_type ?_ (by size_fits))
 refine wpAny_bind (m:=firstArgMember _ _) (wpAny_of_eq (a:=Value.none) (by first | rfl | (simp only [firstArgMember];rfl)) ?_)
 refine wpAny_newObj_type ?_ (by size_fits)
 simp only [raiseNew]
 refine wpAny_bind (wpAny_handled ?_)
 first | rw [show A.in1.handled=none from hh] | rw [hh]
 refine wpAny_bind (wpAny_pure (wpAny_throw ?_))
 exact hE _ _ (((Heap.SameBut.update ..).extBut.push _).push _) ⟨_,Heap.get?_push_size _ rfl,rfl⟩
theorem fq {e it l:Addr} {i:Nat} {items:Array Value} {old:Value} {Q:Option Value→Shared→Prop} (hh:A.handled=none)
  (he:IsEnum s.heap e it i old) (hit:s.heap.IsTupleIter it l i) (hl:s.heap.IsTuple l items) (hx:items[i]?=none)
  (hQ:∀ h',Heap.ExtBut it s.heap h'→Q none { s with heap:=h' }):wpAny (model prog w) A (pyNext (.ref e)) Q E s:=by
 have hT:s.TypeIs (.ref e) "enumerate":=⟨_,he,rfl⟩
 unfold pyNext
 refine wpAny_bind (wpAny_attempt (wpAny_callSpecial?_slot (name:=Str.ofString "__next__") hT F.slot_enumerate_next
  (wpAny_call_entry F.slot_enumerate_next hT F.entry_enumerate_next ?_ (F.args_enumerate_next_1 _))))
 show wpAny _ _ (field (.ref e) 2 >>= _) _ _ _
 refine wpAny_bind (wpAny_field he rfl (x:=.ref it) rfl ?_)
 refine wpAny_bind (c3 hh hit hl hx fun h' x he' hx'=>?_)
 obtain ⟨o,ho,hc⟩:=hx'
 refine wpAny_bind (wpAny_isInstance (T:="StopIteration") (b:=true) ⟨o,ho,hc⟩ isSubtype_stop ?_)
 exact wpAny_pure (hQ _ he')
theorem xj (hh:A.handled=none) (it l:Addr) (nX:l≠it) (items:Array Value) :
  Draws prog w A it [it,l] items.size (fun i v=>items[i]?=some v) (fun i h=>h.IsTupleIter it l i∧h.IsTuple l items) where
 live:=fun _ _ st=>let ⟨o,ho,_⟩:=st.1;⟨o,ho⟩
 frame:=fun _ _ _ st hk=>⟨st.1.at fun o e=>hk it (by simp) o e,let ⟨o,e,r⟩:=st.2;⟨o,hk l (by simp) o e,r⟩⟩
 item:=fun i s Q E hi st hQ=>by
  refine eZ st.1 st.2 (x:=items[i]) (by simp [hi]) fun h' hit' rR=>?_
  exact hQ _ h' s.toks (by simp [hi]) ⟨hit',let ⟨o,e,r⟩:=st.2;⟨o,rR.extBut l o nX e,r⟩⟩ rR
 done:=fun s Q E st hE=>c3 hh st.1 st.2 (by simp) hE
theorem dM (l:Addr) (items:Array Value) (n:Nat) (C3:Option Addr) (sl:Array (Option Value)) :
  Meets (Builtin.«enumerate.__new__» ⟨[.type "enumerate",.ref l],[]⟩) (fun _ R s=>s.heap.get? l=some { cls:=.type "tuple",dict:=C3,data:=.seq items n,slots:=sl } ∧
   R (.ok (.ret (.ref (s.heap.push { cls:=.type "tuple_iterator",data:=.fields #[.ref l,.int 0 0] }).objs.size)))
    { s with heap:=(s.heap.push { cls:=.type "tuple_iterator",data:=.fields #[.ref l,.int 0 0] }).push { cls:=.type "enumerate",data:=.fields #[.none,.bool false,.ref s.heap.objs.size,rawInt 0,.none,.none] } }) :=
 .of_wp fun prog w A R s h=>by
  obtain ⟨hp,g,d,tk,os⟩:=s;obtain ⟨hl,h⟩:=h
  have hsub:=sub_enumerate
  have hL:Heap.IsTuple (Shared.heap ⟨hp,g,d,tk,os⟩) l items:=⟨_,hl,rfl,n,rfl⟩
  wp_walk using wpAny_loadPart' hl
  refine wpAny_stack_any fun st=>wpAny_pure ?_
  split
  ·rename_i c _ _ _ _ _
   cases (c == Value.type "enumerate")
   ·wp_walk using wpAny_loadPart' hl,wpAny_pyIter_tuple hL
    exact ⟨_,rfl,h⟩
   ·wp_walk using wpAny_loadPart' hl,wpAny_pyIter_tuple hL
    exact ⟨_,rfl,h⟩
  ·wp_walk using wpAny_loadPart' hl,wpAny_pyIter_tuple hL
   exact ⟨_,rfl,h⟩
theorem dC {l:Addr} {items:Array Value} {Q:Value→Shared→Prop} (hL:s.heap.IsTuple l items)
  (h:∀ h',IsEnum h' (s.heap.objs.size+1) s.heap.objs.size 0 .none→h'.IsTupleIter s.heap.objs.size l 0→h'.objs.size=s.heap.objs.size+2 →
   (∀ b o,s.heap.get? b=some o→h'.get? b=some o)→Q (.ref (s.heap.objs.size+1)) { s with heap:=h' }) :
  wpAny (model prog w) A (call (.type "enumerate") [.ref l]) Q E s:=by
 obtain ⟨⟨c,C3,dt,sl⟩,hl,hc,n,hd⟩:=hL
 replace hc:c=.type "tuple":=hc
 replace hd:dt=.seq items n:=hd
 subst hc hd
 refine callType_new F.called_enumerate (by decide) (F.typeCall_enumerate_1 _) (F.newCall_enumerate_1 _) (fun obj=>F.args_object_init_2 obj _) F.entry_enumerate_new
  (dM l items n C3 sl) ⟨hl,?_⟩
 have hz:(s.heap.push { cls:=.type "tuple_iterator",data:=.fields #[.ref l,.int 0 0] }).objs.size=s.heap.objs.size+1:=Heap.size_push ..
 show _∧_
 rw [hz]
 have he:IsEnum ((s.heap.push { cls:=.type "tuple_iterator",data:=.fields #[.ref l,.int 0 0] }).push
   { cls:=.type "enumerate",data:=.fields #[.none,.bool false,.ref s.heap.objs.size,rawInt 0,.none,.none] }) (s.heap.objs.size+1) s.heap.objs.size 0 .none:=by
  have:=Heap.get?_push_size (s.heap.push { cls:=.type "tuple_iterator",data:=.fields #[.ref l,.int 0 0] })
   (o:={ cls:=.type "enumerate",data:=.fields #[.none,.bool false,.ref s.heap.objs.size,rawInt 0,.none,.none] }) rfl
  rw [hz] at this;exact this
 refine ⟨⟨_,he,rfl⟩,h _ he ⟨_,Heap.get?_push_of_some _ (Heap.get?_push_size _ rfl),rfl,rfl⟩ (by rw [Heap.size_push,hz]) fun b o x=>Heap.get?_push_of_some _ (Heap.get?_push_of_some _ x)⟩
end
end yu
namespace L2
open PySem PySem.Spec
open PyProof.Rows hiding St
def u6 (K:PySem.W.Frag) (tup:Bool) (H:Hp) (a:Addr) (xs:List V):Prop:=if tup=true then dw K H a xs else bS K H a xs
def AU (K:PySem.W.Frag) (tup:Bool) (a:Addr):It :=
 ⟨fun i H=>∃ xs x,u6 K tup H a xs∧xs[i]?=some x,fun i H x H'=>∃ p,H p=none∧x=.ref p∧∀ xs,u6 K tup H a xs→∃ y,xs[i]?=some y∧H'=upd H p (.tup [.int i,y]),fun i H=>∃ xs,u6 K tup H a xs∧xs.length≤i⟩
section
variable {P:Program} {w:World} {K:PySem.W.Frag}
theorem nB {X:Cx} {pins:List (Addr×Obj)} {σ:St} {H:Hp} {s:Shared} {a:Addr} {tup:Bool} {xs ys:List V} (I:Inv X pins σ H s) (h:u6 X.K tup H a xs) (h':u6 X.K tup H a ys):ys=xs:=by
 cases tup with
 | true=>exact I.iy (show dw X.K H a ys from h') h
 | false=>exact I.kg (show bS X.K H a ys from h') h
theorem Inv.sR {X:Cx} {pins:List (Addr×Obj)} {σ:St} {H:Hp} {s:Shared} {h':Heap} {t':Nat} {fp:List Addr} {a:Addr} {o:HO} (I:Inv X pins σ H s) (k:∀ b u,b∉fp→s.heap.get? b=some u→h'.get? b=some u) (hf:∀ b∈fp,dO X pins H b)
  (hp:s.heap.objs.size≤a) (new:aV X.prog X.w (upd H a o) h' a o):Inv X pins σ (upd H a o) { s with heap:=h',toks:=t' }:=by
 have hn:H a=none:=I.aH.fresh hp
 have nit:∀ b u,H b=some u→b∉fp:=fun b u e z=>by rw [(hf b z).1] at e;cases e
 have up:∀ b u,H b=some u→upd H a o b=some u:=fun b u e=>by rw [ag (ak e hn)];exact e
 refine I.step (g':=s.gens) (d':=s.drawn) (ch:=fp) (fun b hb=>?_) (fun b ob _ _ hc e _=>k b ob hc e) (fun b ob _ _ hc e _=>⟨ob.slots,k b ob hc e⟩) (fun b ob _ e n=>?_)
  (fun b ob hc e=>⟨ob,k b ob hc e⟩) (fun b xs e=>up b _ e) (fun b ob u e=>up b _ e) (fun b ps e=>⟨#[],by rw [up b _ e];simp⟩) (fun m hm=>?_) (fun b u e=>?_) I.bare
 ·obtain ⟨f0,f1,f2,f3,f4,f5⟩:=hf b hb
  exact ⟨f3,f1,f4,f5⟩
 ·rw [ag (Nat.ne_of_lt (Nat.lt_of_lt_of_le (Heap.lt_size e) hp))]
  exact n
 ·obtain ⟨ob,es,ep,ho,r⟩:=hm
  exact ⟨ob,es,ep,k _ ob (fun z=>(hf _ z).2.1 rfl) ho,r⟩
 ·by_cases hb:b=a
  ·subst hb
   rw [ah] at e
   cases e
   exact new
  ·rw [ag hb] at e
   refine (I.aH b u e).jI (fun q v hq w=>k q v ?_ w) (fun q w=>up q _ w) fun q _ w=>up q _ w
   rcases hq with z | z
   ·rw [z];exact nit b u e
   ·exact nit q _ z
theorem Inv.gb {X:Cx} {pins:List (Addr×Obj)} {σ:St} {H:Hp} {s:Shared} {h':Heap} {t':Nat} {fp:List Addr} (I:Inv X pins σ H s) (k:∀ b u,b∉fp→s.heap.get? b=some u→h'.get? b=some u) (hf:∀ b∈fp,dO X pins H b) :
  Inv X pins σ H { s with heap:=h',toks:=t' }:=by
 have nit:∀ b u,H b=some u→b∉fp:=fun b u e z=>by rw [(hf b z).1] at e;cases e
 refine I.step (g':=s.gens) (d':=s.drawn) (ch:=fp) (fun b hb=>?_) (fun b ob _ _ hc e _=>k b ob hc e) (fun b ob _ _ hc e _=>⟨ob.slots,k b ob hc e⟩) (fun b ob _ e n=>n)
  (fun b ob hc e=>⟨ob,k b ob hc e⟩) (fun b xs e=>e) (fun b ob u e=>e) (fun b ps e=>⟨#[],by rw [e];simp⟩) (fun m hm=>?_) (fun b u e=>?_) I.bare
 ·obtain ⟨f0,f1,f2,f3,f4,f5⟩:=hf b hb
  exact ⟨f3,f1,f4,f5⟩
 ·obtain ⟨ob,es,ep,ho,r⟩:=hm
  exact ⟨ob,es,ep,k _ ob (fun z=>(hf _ z).2.1 rfl) ho,r⟩
 ·refine (I.aH b u e).jI (fun q v hq w=>k q v ?_ w) (fun q w=>w) fun q _ w=>w
  rcases hq with z | z
  ·rw [z];exact nit b u e
  ·exact nit q _ z
def kq (tup:Bool) (h:Heap) (it a:Addr) (i:Nat):Prop:=if tup=true then h.IsTupleIter it a i else h.IsListIter it a i
theorem kq.at {tup:Bool} {h h':Heap} {it a:Addr} {i:Nat} (x:kq tup h it a i) (k:∀ o,h.get? it=some o→h'.get? it=some o):kq tup h' it a i:=by
 cases tup with
 | true=>exact Heap.IsTupleIter.at (show h.IsTupleIter it a i from x) k
 | false=>exact Heap.IsListIter.at (show h.IsListIter it a i from x) k
theorem kq.obj {tup:Bool} {h:Heap} {it a:Addr} {i:Nat} (x:kq tup h it a i):∃ o,h.get? it=some o∧∀ v,o.data≠.cell v:=by
 cases tup with
 | true =>
  obtain ⟨o,e,c,d⟩:=(show h.IsTupleIter it a i from x)
  exact ⟨o,e,fun v z=>by rw [d] at z;cases z⟩
 | false =>
  obtain ⟨o,e,c,d⟩:=(show h.IsListIter it a i from x)
  exact ⟨o,e,fun v z=>by rw [d] at z;cases z⟩
theorem iP (tup:Bool) {elts:List Expr} {k:Nat} {kl:Pos} (a it e:Addr) (rT:e≠it):Turn P w K (.Tuple elts k kl) (AU K tup a) [e,it] e (fun i h=>(∃ old,IsEnum h e it i old)∧kq tup h it a i) where
 mem:=by simp
 obj:=fun i h st b hb=>by
  rcases List.mem_cons.mp hb with rfl | hb
  ·obtain ⟨⟨old,he⟩,_⟩:=st
   exact ⟨_,he,fun v z=>by
    have z':Data.fields _=Data.cell v:=z
    cases z'⟩
  ·rw [List.mem_singleton.mp hb]
   exact st.2.obj
 keep:=fun i h h' st kk=>⟨let ⟨old,he⟩:=st.1;⟨old,kk e (by simp) _ he⟩,st.2.at fun o x=>kk it (by simp) o x⟩
 item:=by
  intro X hP hw hK hc i pins s σ H E I hf st hg
  subst hP hw hK
  obtain ⟨⟨old,he⟩,hit⟩:=st
  obtain ⟨f0,f1,f2,f3,f4,f5⟩:=hf e (by simp)
  obtain ⟨g0,g1,g2,g3,g4,g5⟩:=hf it (by simp)
  obtain ⟨xs,x,hq,hx⟩:=hg
  have hd:(X.A.in1).handled=none:=I.ok.hd hc
  have helt:e < s.heap.objs.size:=Heap.lt_size he
  have fin:∀ (u:Value) (h':Heap) (tk:Nat),RelV x u→IsEnumOut h' e it ((i:Int)+1) u s.heap.objs.size→kq tup h' it a (i+1)→h'.get? s.heap.objs.size=some { cls:=.type "tuple",data:=.seq #[.int i tk,u] }→h'.objs.size=s.heap.objs.size+1 →
    (∀ b o,b≠e→b≠it→s.heap.get? b=some o→h'.get? b=some o)→(∀ zs,u6 X.K tup H a zs→zs=xs) →
    ∃ v,some (Value.ref s.heap.objs.size)=some v∧wpAny (model X.prog X.w) X.A (letOwnedTupleGo (.Tuple elts k kl) (.ref e) v) (fun _ s2=>∃ x H',Inv X pins σ H' s2∧RelV x v∧(AU X.K tup a).yk i H x H'∧((∃ old,IsEnum s2.heap e it (i+1:Nat) old)∧kq tup s2.heap it a (i+1))∧∀ b∈[e,it],H' b=none) E { s with heap:=h',toks:=tk+1 }:=by
   intro u h' tk ru ho rR hT hsz hk hinj
   refine ⟨_,rfl,?_⟩
   refine wpAny_letOwnedTupleGo_enum (s:={ s with heap:=h',toks:=tk+1 }) ho fun h2 he2 uY=>?_
   have hkeep:∀ b o,b≠e→b≠it→s.heap.get? b=some o→h2.get? b=some o:=fun b o h1 h2' h3=>(uY.2 b h1).trans (hk b o h1 h2' h3)
   have hTe:s.heap.objs.size≠e:=Nat.ne_of_gt helt
   have hfr:H s.heap.objs.size=none:=I.aH.fresh (Nat.le_refl _)
   have I1:Inv X pins σ (upd H s.heap.objs.size (.tup [.int i,x])) { s with heap:=h2,toks:=tk+1 } :=
    Inv.sR I (fun b o hb q=>hkeep b o (fun z=>hb (by simp [z])) (fun z=>hb (by simp [z])) q) hf (Nat.le_refl _)
     ⟨by show 2≤sizeLine;decide,[.int i tk,u],.cons ⟨tk,rfl⟩ (.cons ru .nil),⟨_,(uY.2 _ hTe).trans hT,rfl,_,rfl⟩⟩
   refine ⟨.ref s.heap.objs.size,_,I1,rfl,⟨s.heap.objs.size,hfr,rfl,fun zs hz=>⟨x,by rw [hinj zs hz];exact hx,rfl⟩⟩,⟨⟨u,by simpa using he2⟩,rR.at fun o y=>(uY.2 it rT.symm).trans y⟩,fun b hb=>?_⟩
   have hb':b < s.heap.objs.size:=by
    rcases List.mem_cons.mp hb with rfl | hb
    ·exact helt
    ·rw [List.mem_singleton.mp hb]
     obtain ⟨o,y,_⟩:=hit.obj
     exact Heap.lt_size y
   rw [ag (Nat.ne_of_lt hb')]
   exact (hf b hb).1
  have hef:e∉[it,a]:=fun hm=>by
   rcases List.mem_cons.mp hm with z | hm
   ·exact rT z
   ·have z:e=a:=List.mem_singleton.mp hm
    subst z
    cases tup with
    | false =>
     obtain ⟨_,_,p,_⟩:=I.list (show bS X.K H e xs from hq)
     obtain ⟨o,_,e1,c1,_⟩:=p
     rw [he] at e1
     cases e1
     exact absurd c1 (by show ¬ Value.type "enumerate"=Value.type "list";decide)
    | true =>
     obtain ⟨_,_,p,_⟩:=I.tuple (show dw X.K H e xs from hq)
     obtain ⟨o,e1,c1,_⟩:=p
     rw [he] at e1
     cases e1
     exact absurd c1 (by show ¬ Value.type "enumerate"=Value.type "tuple";decide)
  have hai:a≠it:=fun z=>by
   subst z
   cases tup with
   | false =>
    obtain ⟨_,_,p,_⟩:=I.list (show bS X.K H a xs from hq)
    obtain ⟨o,_,e1,c1,_⟩:=p
    obtain ⟨o',e2,c2,_⟩:=(show s.heap.IsListIter a a i from hit)
    rw [e1] at e2
    cases e2
    rw [c1] at c2
    exact absurd c2 (by decide)
   | true =>
    obtain ⟨_,_,p,_⟩:=I.tuple (show dw X.K H a xs from hq)
    obtain ⟨o,e1,c1,_⟩:=p
    obtain ⟨o',e2,c2,_⟩:=(show s.heap.IsTupleIter a a i from hit)
    rw [e1] at e2
    cases e2
    rw [c1] at c2
    exact absurd c2 (by decide)
  cases tup with
  | true =>
   obtain ⟨its,rv,p,hz⟩:=I.tuple (show dw X.K H a xs from hq)
   obtain ⟨u,hu,ru⟩:=rv.get hx
   have hi:i < its.toArray.size:=by
    have:=(List.getElem?_eq_some_iff.mp hu).1
    simpa using this
   refine wpAny_pyNext_enum_itemD (yu.xj hd it a hai its.toArray) he ⟨hit,p⟩ hi rT hef fun y h' tk hy ho rR hT hsz hk=>?_
   have e:y=u:=by
    have hy':its[i]?=some y:=by simpa using hy
    rw [hu] at hy'
    exact (Option.some.inj hy').symm
   subst e
   exact fin y h' tk ru ho rR.1 hT hsz hk fun zs hz=>nB I hq hz
  | false =>
   obtain ⟨its,rv,p,hz⟩:=I.list (show bS X.K H a xs from hq)
   obtain ⟨u,hu,ru⟩:=rv.get hx
   have hi:i < its.toArray.size:=by
    have:=(List.getElem?_eq_some_iff.mp hu).1
    simpa using this
   refine wpAny_pyNext_enum_itemD (Draws.list hd it a hai its.toArray) he ⟨hit,p.isList⟩ hi rT hef fun y h' tk hy ho rR hT hsz hk=>?_
   have e:y=u:=by
    have hy':its[i]?=some y:=by simpa using hy
    rw [hu] at hy'
    exact (Option.some.inj hy').symm
   subst e
   exact fin y h' tk ru ho rR.1 hT hsz hk fun zs hz=>nB I hq hz
 done:=by
  intro X hP hw hK hc i pins s σ H E I hf st hg
  subst hP hw hK
  obtain ⟨⟨old,he⟩,hit⟩:=st
  obtain ⟨xs,hq,hx⟩:=hg
  have hd:(X.A.in1).handled=none:=I.ok.hd hc
  cases tup with
  | true =>
   obtain ⟨its,rv,p,hz⟩:=I.tuple (show dw X.K H a xs from hq)
   have hn:its.toArray[i]?=none:=by
    have:=rv.length
    simp
    omega
   exact yu.fq (I.ok.hd hc) he hit p hn fun h' eb=>⟨rfl,Inv.gb (t':=s.toks) I (fun b o hb q=>eb b o (fun z=>hb (by simp [z])) q) hf⟩
  | false =>
   obtain ⟨its,rv,p,hz⟩:=I.list (show bS X.K H a xs from hq)
   have hn:its.toArray[i]?=none:=by
    have:=rv.length
    simp
    omega
   exact wpAny_pyNext_enum_end (I.ok.hd hc) he hit p.isList hn fun h' eb=>⟨rfl,Inv.gb (t':=s.toks) I (fun b o hb q=>eb b o (fun z=>hb (by simp [z])) q) hf⟩
 self:=fun _ _ _ _ _ st h=>by
  obtain ⟨⟨old,he⟩,_⟩:=st
  exact wpAny_pyIter_enum he h
section
variable {X:Cx}
def yX (K:PySem.W.Frag) (t:TA):TI:=fun σ H R=>t σ H fun vs H1=>∃ a tup xs,vs=[.ref a]∧u6 K tup H1 a xs∧(xs.length≤sizeLine→R (AU K tup a) H1)
theorem tw {elts:List Expr} {k:Nat} {kl p pos:Pos} {a:Expr} {t:TA} (hg:Gl X "enumerate") (hm:X.mg "enumerate"=none) (ha:PA X [a] t) (hs:starEach [a] X.env=[(false,eval a X.env)]:=by rfl):PI X (.Tuple elts k kl) (.Call (.Name "enumerate" p) [a] [] pos) (yX X.K t):=by
 intro pins s σ H R I h
 refine Call_ (eC I hg hm (u:=.type "enumerate") (by decide +kernel) (PyProof.Rows.callWith_type1 (ba (ha pos pins s σ H _ I h) fun us s1 ⟨vs,H1,I1,r1,q1⟩=>?_) hs rfl))
 obtain ⟨a,tup,xs,e,hq,q⟩:=q1
 subst e
 obtain ⟨u,rfl,ru⟩:=Vals.one r1
 cases ru
 have fp:∀ b∈[s1.heap.objs.size+1,s1.heap.objs.size],dO X pins H1 b:=fun b hb=>by
  have hle:s1.heap.objs.size≤b:=by
   rcases List.mem_cons.mp hb with rfl | hb
   ·omega
   ·rw [List.mem_singleton.mp hb]
    exact Nat.le_refl _
  exact I1.lW hle (I1.aH.fresh hle)
 cases tup with
 | true =>
  obtain ⟨its,rv,pp,hz⟩:=I1.tuple (show dw X.K H1 a xs from hq)
  refine yu.dC (items:=its.toArray) pp fun h' he hit hsz hk=>?_
  refine wpAny_pyIter_enum he ?_
  exact ⟨s1.heap.objs.size+1,_,_,_,H1,rfl,I1.kept (t':=s1.toks) hk,iP true a s1.heap.objs.size (s1.heap.objs.size+1) (Nat.succ_ne_self _),⟨⟨_,he⟩,hit⟩,fp,q hz⟩
 | false =>
  obtain ⟨its,rv,pp,hz⟩:=I1.list (show bS X.K H1 a xs from hq)
  refine call_enumerate_list (items:=its.toArray) pp.isList fun h' he hit hsz hk=>?_
  refine wpAny_pyIter_enum he ?_
  exact ⟨s1.heap.objs.size+1,_,_,_,H1,rfl,I1.kept (t':=s1.toks) hk,iP false a s1.heap.objs.size (s1.heap.objs.size+1) (Nat.succ_ne_self _),⟨⟨_,he⟩,hit⟩,fp,q hz⟩
end
end
end L2
namespace DL
open PySem PySem.Spec L2
open PyProof.Rows hiding St
section
variable {X:Cx} {c:Ent}
def en (ds:List D):List D:=(List.range ds.length).zipWith (fun i d=>.tup [.int (i:Nat),d]) ds
def yf (t:dm):dm:=fun s Q=>t s fun as s1=>∃ ds,(as=[.lst ds]∨as=[.tup ds])∧Q (en ds) s1
theorem ix {ds:List D} {i:Nat} {d:D} (h:(en ds)[i]?=some d):∃ x,ds[i]?=some x∧d=.tup [.int i,x]:=by
 unfold en at h
 rw [List.getElem?_zipWith] at h
 cases e:ds[i]? with
 | none =>
  rw [e] at h
  cases e2:(List.range ds.length)[i]? with
  | none=>rw [e2] at h;cases h
  | some j=>rw [e2] at h;cases h
 | some x =>
  have hl:=(List.getElem?_eq_some_iff.mp e).1
  rw [e,List.getElem?_range hl] at h
  cases h
  exact ⟨x,rfl,rfl⟩
theorem fw {ds:List D}:(en ds).length=ds.length:=by simp [en]
theorem vV {elts:List Expr} {k:Nat} {kl p pos:Pos} {a:Expr} {t:dm} (hg:Gl X "enumerate") (hm:X.mg "enumerate"=none) (ha:DA X c [a] t) (hs:starEach [a] X.env=[(false,eval a X.env)]:=by rfl):DI X c (.Tuple elts k kl) (.Call (.Name "enumerate" p) [a] [] pos) (yf t) :=
 ⟨fun pins s σ H R I ⟨M,s0,as,R0,L,q,k⟩=>tw hg hm ha.pa hs pins s σ H R I
  ⟨M,s0,as,_,L,q,fun ads s1 ⟨ds,hd,q1⟩ M1 H1 vs L1 E1 rv _=>by
   have go:∀ {a tup xs},ai X.K H1 M1 ds xs→(∀ M2 H2,bX M1 H1 M2 H2→u6 X.K tup H2 a xs∧ai X.K H2 M2 ds xs)→vK X.K M1 H1 (en ds) (AU X.K tup a):=fun {a tup xs} r h M2 H2 G=>by
    obtain ⟨h2,r2⟩:=h M2 H2 G
    refine ⟨fun i hi=>⟨xs,h2,by rw [r.length];rw [fw] at hi;exact hi⟩,fun i d hd=>?_⟩
    obtain ⟨y,hy,rfl⟩:=ix hd
    obtain ⟨v,g1,g2⟩:=r2.get hy
    refine ⟨⟨xs,v,h2,g1⟩,fun x H3 ⟨b,hb,ex,hx⟩=>.inr ?_⟩
    obtain ⟨w,w1,w2⟩:=hx xs h2
    rw [g1] at w1
    cases w1
    subst w2
    exact ⟨b,_,hb,rfl,b,_,ex,⟨.inr rfl,ah⟩,⟨_,_,rfl,rfl,_,_,rfl,w9 hb g2,rfl⟩⟩
   rcases hd with rfl | rfl
   ·obtain ⟨v,rfl,a,xs,rfl,⟨m,h⟩,r⟩:=bY rv
    exact ⟨a,false,xs,rfl,.of h,fun hl=>k _ s1 q1 M1 H1 _ L1 E1 (go r fun M2 H2 G=>⟨.of ((G a m).2 _ h),G.ki r⟩) (by rw [fw,← r.length];exact hl)⟩
   ·obtain ⟨v,rfl,a,xs,rfl,h,r⟩:=bY rv
    exact ⟨a,true,xs,rfl,h.sq,fun hl=>k _ s1 q1 M1 H1 _ L1 E1 (go r fun M2 H2 G=>⟨(h.mono (fun b m=>(G b m).1) fun b o m e=>(G b m).2 o e).sq,G.ki r⟩) (by rw [fw,← r.length];exact hl)⟩⟩⟩
end
end DL
namespace DL
open PySem PySem.Spec L2
open PyProof.Rows hiding St
mutual
def toP:D→PyData
 | .aS=>.none
 | .bl b=>.bool b
 | .int i=>.int i
 | .str x=>.str x
 | .tup ds=>.tuple (toPs ds)
 | .lst ds=>.list (toPs ds)
 | .eK _=>.none
 | .ty _=>.none
 | .mE _ _=>.none
 | .dA _ _=>.none
def toPs:List D→List PyData
 | []=>[]
 | d::ds=>toP d::toPs ds
end
mutual
def nG:D→Bool
 | .aS=>true
 | .bl _=>true
 | .int _=>true
 | .str x=>PyData.strOk x
 | .tup ds=>ib ds
 | .lst ds=>ib ds
 | .eK _=>false
 | .ty _=>false
 | .mE _ _=>false
 | .dA _ _=>false
def ib:List D→Bool
 | []=>true
 | d::ds=>nG d&&ib ds
end
mutual
theorem l4:∀ d:D,nG d=true→(toP d).canLay0=true
 | .aS,_=>rfl
 | .bl _,_=>rfl
 | .int _,_=>rfl
 | .str x,h=>by
  show PyData.canLay0 (.str x)=true
  simpa [PyData.canLay0,nG] using h
 | .tup ds,h=>by
  show PyData.canLay0 (.tuple (toPs ds))=true
  simpa [PyData.canLay0] using jy ds h
 | .lst ds,h=>by
  show PyData.canLay0 (.list (toPs ds))=true
  simpa [PyData.canLay0] using jy ds h
 | .eK _,h=>by cases h
 | .ty _,h=>by cases h
 | .mE _ _,h=>by cases h
 | .dA _ _,h=>by cases h
theorem jy:∀ ds:List D,ib ds=true→PyData.canLayAll0 (toPs ds)=true
 | [],_=>rfl
 | d::ds,h=>by
  have h:(nG d&&ib ds)=true:=h
  rw [Bool.and_eq_true] at h
  show PyData.canLayAll0 (toP d::toPs ds)=true
  simp [PyData.canLayAll0,l4 d h.1,jy ds h.2]
end
section
variable {X:Cx} {pins:List (Addr×Obj)} {σ:St} {H:Hp} {s:Shared} {M:Addr→Prop}
mutual
theorem gi (I:Inv X pins σ H s):∀ (d:D) (v:V) (u:Value),nG d=true→Rep X.K H M d v→RelV v u→∃ as,Reads s.heap u (toP d) as
 | .aS,v,u,_,r,q=>by
  have r:v=.aS:=r
  subst r
  cases (show u=Value.none from q)
  exact ⟨_,.none⟩
 | .bl b,v,u,_,r,q=>by
  have r:v=.bl b:=r
  subst r
  cases (show u=Value.bool b from q)
  exact ⟨_,.bool b⟩
 | .int i,v,u,_,r,q=>by
  have r:v=.int i:=r
  subst r
  obtain ⟨t,rfl⟩:=(show ∃ t,u=Value.int i t from q)
  exact ⟨_,.int i t⟩
 | .str x,v,u,_,r,q=>by
  have r:v=.str x:=r
  subst r
  obtain ⟨t,rfl⟩:=(show ∃ t,u=Value.str x t from q)
  exact ⟨_,.str x t⟩
 | .tup ds,v,u,h,r,q=>by
  obtain ⟨a,xs,rfl,⟨m,ha⟩,r⟩:=r
  cases (show u=Value.ref a from q)
  obtain ⟨_,its,rv,o,e,hc,n,hd⟩:=I.aH a _ ha
  obtain ⟨as,hr⟩:=fC I ds xs its h r rv
  exact ⟨_,.tuple e hc hd (by simpa using hr)⟩
 | .lst ds,v,u,h,r,q=>by
  obtain ⟨a,xs,rfl,⟨m,ha⟩,r⟩:=r
  cases (show u=Value.ref a from q)
  obtain ⟨_,its,n,rv,e⟩:=I.aH a _ ha
  obtain ⟨as,hr⟩:=fC I ds xs its h r rv
  exact ⟨_,.list e rfl rfl (by simpa using hr)⟩
 | .eK _,v,u,h,r,q=>by cases h
 | .ty _,v,u,h,r,q=>by cases h
 | .mE _ _,v,u,h,r,q=>by cases h
 | .dA _ _,v,u,h,r,q=>by cases h
theorem fC (I:Inv X pins σ H s):∀ (ds:List D) (vs:List V) (us:List Value),ib ds=true→ai X.K H M ds vs→Vals vs us→∃ as,ReadsAll s.heap us (toPs ds) as
 | [],vs,us,_,r,q=>by
  have r:vs=[]:=r
  subst r
  cases q
  exact ⟨_,.nil⟩
 | d::ds,vs,us,h,r,q=>by
  have h:(nG d&&ib ds)=true:=h
  rw [Bool.and_eq_true] at h
  obtain ⟨x,xr,rfl,r1,r2⟩:=r
  cases q with
  | cons q1 q2 =>
   obtain ⟨as,h1⟩:=gi I d x _ h.1 r1 q1
   obtain ⟨bs,h2⟩:=fC I ds xr _ h.2 r2 q2
   exact ⟨_,.cons h1 h2⟩
end
end
def Ec (a b:D):Bool:=PyData.eqv (toP a) (toP b)
def dF (d:D):Nat:=(toP d).depth
section
variable {X:Cx} {c:Ent}
mutual
theorem eqv_refl:∀ d:D,PyData.eqv (toP d) (toP d)=true
 | .aS=>rfl
 | .bl b=>by show PyData.eqv (.bool b) (.bool b)=true;simp [PyData.eqv]
 | .int i=>by show PyData.eqv (.int i) (.int i)=true;simp [PyData.eqv]
 | .str x=>by show PyData.eqv (.str x) (.str x)=true;simp [PyData.eqv]
 | .tup ds=>by show PyData.eqv (.tuple (toPs ds)) (.tuple (toPs ds))=true;simpa [PyData.eqv] using ft ds
 | .lst ds=>by show PyData.eqv (.list (toPs ds)) (.list (toPs ds))=true;simpa [PyData.eqv] using ft ds
 | .eK _=>rfl
 | .ty _=>rfl
 | .mE _ _=>rfl
 | .dA _ _=>rfl
theorem ft:∀ ds:List D,PyData.eqvAll (toPs ds) (toPs ds)=true
 | []=>rfl
 | d::ds=>by show PyData.eqvAll (toP d::toPs ds) (toP d::toPs ds)=true;simp [PyData.eqvAll,eqv_refl d,ft ds]
end
theorem eT (d:D):Ec d d=true:=eqv_refl d
def wm:D→String→Option Bool
 | .int _,T=>if T="int" then some true else if T="bool"∨T="str"∨T="list"∨T="tuple" then some false else none
 | .bl _,T=>if T="int"∨T="bool" then some true else if T="str"∨T="list"∨T="tuple" then some false else none
 | .str _,T=>if T="str" then some true else if T="bool"∨T="int"∨T="list"∨T="tuple" then some false else none
 | .tup _,T=>if T="tuple" then some true else if T="bool"∨T="int"∨T="list"∨T="str" then some false else none
 | .lst _,T=>if T="list" then some true else if T="bool"∨T="int"∨T="tuple"∨T="str" then some false else none
 | _,_=>none
def zW (K:PySem.W.Frag):List V→Hp→VK→Prop:=fun xs H Q=>∃ M d v T b,xs=[v,.ty T]∧Rep K H M d v∧wm d T=some b∧Q (.bl b) H
theorem gf:cu X (.builtin "isinstance") (zW X.K):=by
 intro pins s σ H xs us Q I r h
 obtain ⟨M,d,v,T,b,rfl,rd,hb,q⟩:=h
 obtain ⟨u,t,rfl,ru,rt⟩:=r.two
 cases (show t=Value.type T from rt)
 have fin:∀ n,EP X pins σ Q (.bool b) { s with toks:=n }:=fun n=>⟨.bl b,H,I.tok n,rfl,q⟩
 have fin0:EP X pins σ Q (.bool b) s:=⟨.bl b,H,I,rfl,q⟩
 cases d with
 | int i =>
  cases (show v=.int i from rd)
  obtain ⟨t,rfl⟩:=ru
  replace hb:(if T="int" then some true else if T="bool"∨T="str"∨T="list"∨T="tuple" then some false else none)=some b:=hb
  split at hb
  ·rename_i e;subst e;cases hb;exact IsiPair.int_int fin0
  ·split at hb
   ·rename_i e
    cases hb
    rcases e with rfl | rfl | rfl | rfl
    ·exact IsiPair.int_bool (fin _)
    ·exact IsiPair.int_str (fin _)
    ·exact IsiPair.int_list (fin _)
    ·exact IsiPair.int_tuple (fin _)
   ·cases hb
 | bl i =>
  cases (show v=.bl i from rd)
  cases (show u=Value.bool i from ru)
  replace hb:(if T="int"∨T="bool" then some true else if T="str"∨T="list"∨T="tuple" then some false else none)=some b:=hb
  split at hb
  ·rename_i e
   cases hb
   rcases e with rfl | rfl
   ·exact IsiPair.bool_int fin0
   ·exact IsiPair.bool_bool fin0
  ·split at hb
   ·rename_i e
    cases hb
    rcases e with rfl | rfl | rfl
    ·exact IsiPair.bool_str (fin _)
    ·exact IsiPair.bool_list (fin _)
    ·exact IsiPair.bool_tuple (fin _)
   ·cases hb
 | str i =>
  cases (show v=.str i from rd)
  obtain ⟨t,rfl⟩:=ru
  replace hb:(if T="str" then some true else if T="bool"∨T="int"∨T="list"∨T="tuple" then some false else none)=some b:=hb
  split at hb
  ·rename_i e;subst e;cases hb;exact IsiPair.str_str fin0
  ·split at hb
   ·rename_i e
    cases hb
    rcases e with rfl | rfl | rfl | rfl
    ·exact IsiPair.str_bool (fin _)
    ·exact IsiPair.str_int (fin _)
    ·exact IsiPair.str_list (fin _)
    ·exact IsiPair.str_tuple (fin _)
   ·cases hb
 | tup ds =>
  obtain ⟨a,xs,rfl,⟨m,ha⟩,r⟩:=rd
  cases (show u=Value.ref a from ru)
  obtain ⟨_,its,rv,o,e,hc,n,hd⟩:=I.aH a _ ha
  replace hb:(if T="tuple" then some true else if T="bool"∨T="int"∨T="list"∨T="str" then some false else none)=some b:=hb
  split at hb
  ·rename_i e';subst e';cases hb;exact IsiPair.tuple_tuple e hc fin0
  ·split at hb
   ·rename_i e'
    cases hb
    rcases e' with rfl | rfl | rfl | rfl
    ·exact IsiPair.tuple_bool e hc (fin _)
    ·exact IsiPair.tuple_int e hc (fin _)
    ·exact IsiPair.tuple_list e hc (fin _)
    ·exact IsiPair.tuple_str e hc (fin _)
   ·cases hb
 | lst ds =>
  obtain ⟨a,xs,rfl,⟨m,ha⟩,r⟩:=rd
  cases (show u=Value.ref a from ru)
  obtain ⟨_,its,n,rv,e⟩:=I.aH a _ ha
  replace hb:(if T="list" then some true else if T="bool"∨T="int"∨T="tuple"∨T="str" then some false else none)=some b:=hb
  split at hb
  ·rename_i e';subst e';cases hb;exact IsiPair.list_list e rfl fin0
  ·split at hb
   ·rename_i e'
    cases hb
    rcases e' with rfl | rfl | rfl | rfl
    ·exact IsiPair.list_bool e rfl (fin _)
    ·exact IsiPair.list_int e rfl (fin _)
    ·exact IsiPair.list_tuple e rfl (fin _)
    ·exact IsiPair.list_str e rfl (fin _)
   ·cases hb
 | _=>simp [wm] at hb
def EB:List D→(D→Prop)→Prop:=fun as k=>∃ d T b,as=[d,.ty T]∧wm d T=some b∧k (.bl b)
theorem pN:se X c (zW X.K) EB:=fun M s as σ H xs ds k Q L r ⟨d,T,b,e,hb,hk⟩ kk=>by
 subst e
 obtain ⟨v,w,rfl,r1,r2⟩:=qr r
 have r2:w=.ty T:=r2
 subst r2
 exact ⟨M,d,v,T,b,rfl,r1,hb,kk _ hk M H _ L .refl rfl⟩
end
end DL
namespace yu
open PySem
section
variable {prog:Program} {w:World} {A:Around} {E:Value→Shared→Prop} {s:Shared} {T:String} {r d:Addr} {n:Nat} {P:Nat→Value→Prop} {OK:Heap→Prop}
end
end yu
namespace L2
open PySem PySem.Spec
open PyProof.Rows hiding St
section
variable {X:Cx}
end
end L2
namespace DL
open PySem PySem.Spec L2
open PyProof.Rows hiding St
section
variable {X:Cx} {c:Ent}
end
end DL
namespace DL
open PySem PySem.Spec L2
theorem fF {b:Bool} {A B:Prop} (h:b=false) (q:B):if b=true then A else B:=by
 subst h
 exact lI q
theorem oW {b:Bool} {A B:Prop} (h:b=true) (q:A):if b=true then A else B:=by
 subst h
 exact mm q
end DL
namespace DL
open PySem PySem.Spec L2
theorem dj:16000000≤sizeLine:=by decide
end DL
namespace DL
open PySem PySem.Spec L2
end DL
namespace DL
open PySem PySem.Spec L2
end DL
namespace DL
open PySem PySem.Spec L2
theorem cV {g:jY} {tb:ff} {R:ky} (I:List D→DS→Prop) (h0:∀ s,I [] s→R.nx s) (h1:∀ x xs s (N:DS→Prop),I (x::xs) s→(∀ s',I xs s'→N s')→g x s fun s1=>tb { R with nx:=N,ct:=N,bk:=R.nx } s1):∀ xs s,I xs s→ig g tb R xs s
 | [],s,h=>h0 s h
 | x::xs,s,h=>h1 x xs s _ h fun s' h'=>cV I h0 h1 xs s' h'
theorem bu {α:Type} {nt:Nat} {us:List Nat} {g:jY} {te:bj} (h f:α→D) {Q:List D→DS→Prop} {s:DS}:∀ (xs:List α) {acc:List D},(∀ x∈xs,∀ k:D→DS→Prop,(∀ s':DS,s'.os=s.os→k (f x) s')→g (h x) (dJ nt us s) fun s1=>te s1 k)→Q (acc++xs.map f) s→bE nt us g br te (xs.map h) acc s Q
 | [],acc,_,q=>by
  rw [List.map_nil,List.append_nil] at q
  exact q
 | x::xs,acc,hx,q=>by
  show g (h x) (dJ nt us s) fun s1=>br s1 fun b s2=>if b=true then te s2 fun y s3=>bE nt us g br te (xs.map h) (acc++[y]) ⟨s.sl,s3.os⟩ Q else bE nt us g br te (xs.map h) acc ⟨s.sl,s2.os⟩ Q
  have:=hx x List.mem_cons_self (fun y s3=>bE nt us g br te (xs.map h) (acc++[y]) ⟨s.sl,s3.os⟩ Q) fun s' e=>by
   rw [e]
   refine bu h f xs (fun y hy=>hx y (List.mem_cons_of_mem _ hy)) ?_
   rw [List.append_assoc]
   exact q
  simpa [br] using this
end DL
namespace DL
open PySem PySem.Spec L2
end DL
namespace DL
open PySem PySem.Spec L2
open PyProof.Rows hiding St
section
variable {X:Cx} {c:Ent}
theorem zD {A:Around} {k:Nat} (hr:bH k A):A.units+150 < cLine:=by have:=hr.un;omega
def y9:D→D→(D→Prop)→Prop:=fun a b k=>∃ x y,a=.str x∧b=.str y∧(x.length+y.length≤sizeLine)∧k (.str (x++y))
end
theorem j8 {P:Program} {w:World} {K:PySem.W.Frag} {mg:Str→Option Value} {base:Heap} {k:Nat} {f:Addr} {fd:FuncData} {ps:List Str} {g:mq}:aw P w K mg base bz k f fd ps (cW K g fun _ _=>False) :=
 ⟨fun vs H Q E h=>by obtain ⟨_,_,_,_,_,h,_⟩:=h;exact h.elim,fun A outer s H args us vs Q E hr he hb hv h=>by obtain ⟨_,_,_,_,_,h,_⟩:=h;exact h.elim⟩
def iU (d:Addr):List D→(D→Prop)→Prop:=fun ds R=>∃ m:Int,ds=[.eK d,.int m]∧(0 < m∧m < 9223372036854775808)∧∀ r:Int,0≤r→r < m→R (.int r)
theorem sv {P:Program} {w:World} {K:PySem.W.Frag} {mg:Str→Option Value} {base:Heap} {k:Nat} {f d l:Addr} {fd:FuncData} {ps:List Str} (F:aw P w K mg base bz k f fd ps aR.mh):aw P w K mg base bz k f fd ps (cW K (bg d l) (iU d)) :=
 F.imp fun vs H Q E h=>by
  obtain ⟨M,ds,R,B,r,⟨m,rfl,⟨h1,h2⟩,k⟩,kk⟩:=h
  obtain ⟨v,w,rfl,e1,e2⟩:=qr r
  cases (show v=.ref d from e1)
  cases (show w=.int m from e2)
  refine ⟨d,l,m,rfl,B.fG,h1,h2,fun q H' q1 q2 A' bt=>kk _ (k q q1 q2) M H' _ ⟨A',fun b o e g=>bt b o e (fun z=>g (.inl z)) fun z=>g (.inr z),fun b m=>?_,B.mo,fun _ m=>m,fun _ m=>.inl m⟩ rfl⟩
  obtain ⟨o,e⟩:=B.md b m
  exact ⟨o,bt b o e (fun z=>B.mo b m (.inl z)) fun z=>B.mo b m (.inr z)⟩
end DL
namespace DL
open PySem PySem.Spec L2
open PyProof.Rows hiding St
section
variable {X:Cx} {c:Ent}
def Bt (i:Nat):bj:=fun s Q=>(∃ d,s.sl[i]?=some (.dat d)∧Q d s)∨∃ k d,s.sl[i]?=some (.own k)∧s.os[k]?=some (some d)∧Q d (s.freeze k d)
theorem FZ {i:Nat} {e:Expr} (h:PE X e (aM i)):DE X c e (Bt i):=⟨fun pins s0 σ H Q I ⟨M,s,as,R,L,q,kk⟩=>by
 rcases q with q | q
 ·exact (dv (c:=c) h).pe pins s0 σ H Q I ⟨M,s,as,R,L,q,kk⟩
 ·exact (FO (c:=c) h).pe pins s0 σ H Q I ⟨M,s,as,R,L,q,kk⟩⟩
end
end DL
namespace DL
open PySem PySem.Spec L2
open PyProof.Rows hiding St
section
variable {X:Cx} {c:Ent}
theorem dD:jX X c (fun x y H Q=>∃ i j,x=.str i∧y=.str j∧i.length+j.length≤sizeLine∧Q (.str (i++j)) H) y9:=fun M s as σ H x y dx dy k Q L rx ry ⟨i,j,e1,e2,h,hk⟩ kk=>by
 subst e1;subst e2
 exact ⟨i,j,rx,ry,h,kk _ hk M H _ L .refl rfl⟩
def zj:D→D→(D→Prop)→Prop:=fun a b k=>∃ z n,a=.str z∧b=.int n∧MulOk z n∧k (.str (Txt.mul z n))
theorem rE:jX X c (fun x y H Q=>∃ z n,x=.str z∧y=.int n∧MulOk z n∧Q (.str (Txt.mul z n)) H) zj:=fun M s as σ H x y dx dy k Q L rx ry ⟨i,j,e1,e2,h,hk⟩ kk=>by
 subst e1;subst e2
 exact ⟨i,j,rx,ry,h,kk _ hk M H _ L .refl rfl⟩
def Ck (te:bj) (tl th:u7):bj:=fun s Q=>te s fun a s1=>tl s1 fun l s2=>th s2 fun u s3=>∃ z,a=.str z∧z.length≤sizeLine∧Q (.str (Txt.slice z l u)) s3
theorem gD {e:Expr} {lo hi:Option Expr} {te:bj} {tl th:u7} {p2 pos:Pos} (he:DE X c e te) (hl:DO X c lo tl) (hu:DO X c hi th):DE X c (.Subscript e (.Slice lo hi none p2) pos) (Ck te tl th):=⟨(gB wU he.pe hl.po hu.po).imp fun σ H Q ⟨M,s,as,R,L,q,k⟩ =>
 ⟨M,s,as,_,L,q,fun d s1 q1 M1 H1 v L1 E1 rv=>⟨M1,s1,as,_,L1,q1,fun l s2 q2 M2 H2 Lb E2=>⟨M2,s2,as,_,Lb,q2,fun u s3 q3 M3 H3 Lc E3=>by
  obtain ⟨z,e,hz,q⟩:=q3
  subst e
  have E13:=E2.trans Lb.base E3
  exact ⟨z,rv,hz,k _ s3 q M3 H3 _ Lc (E1.trans L1.base E13) rfl⟩⟩⟩⟩⟩
theorem ll {K:PySem.W.Frag} {H:Hp} {M:Addr→Prop}:∀ {bs:List Str} {vs:List V},ai K H M (bs.map .str) vs→vs=bs.map V.str
 | [],vs,r=>r
 | b::bs,vs,r=>by
  obtain ⟨x,xr,rfl,r1,r2⟩:=r
  have r1:x=.str b:=r1
  rw [r1,ll r2,List.map_cons]
def y0 (to:bj) (t:dm):bj:=fun s Q=>to s fun a s1=>∃ z,a=.str z∧t s1 fun ds s2=>∃ zs,ds=[.lst (zs.map .str)]∧(zs.map (·.length)).sum+zs.length * z.length≤16777216∧Q (.str (Txt.join z zs)) s2
theorem wO {o e:Expr} {es:List Expr} {to:bj} {t:dm} {apos bF:Pos} (ho:DE X c o to) (ha:DA X c (e::es) t)
  (e8:attributeBase o "join" X.env (eval o X.env)=eval o X.env:=by rfl)
  (pz:((backTo bF (starEach (e::es) X.env)).all (fun x=>!x.1)&&(backToKw bF (keywordEach [] X.env)).all (fun x=>x.1.isSome)
   && decide ((e::es).length+([]:List Keyword).length+(if ([]:List Keyword).isEmpty then 0 else 1) < 30))=true:=by rfl)
  (dN:(apos.endLine == bF.line)=true:=by rfl) (hs:starEach (e::es) X.env=(false,eval e X.env)::starEach es X.env:=by rfl) (gu:(backTo bF (starEach es X.env)).any (·.1)=false:=by rfl) :
  DE X c (.Call (.Attribute o "join" apos) (e::es) [] bF) (y0 to t):=⟨(uR PySem.F.plainAttrs_str PySem.F.slot_str_join PySem.F.type_str_join sx ho.pe ha.pa e8 pz dN hs gu).imp fun σ H Q ⟨M,s,as,R,L,q,kk⟩=>by
 refine ⟨M,s,as,_,L,q,fun d s1 ⟨z,e,q1⟩ M1 H1 v L1 E1 rv=>?_⟩
 subst e
 cases (show v=.str z from rv)
 refine ⟨rfl,M1,s1,as,_,L1,q1,fun ds s2 ⟨zs,e2,hz,q2⟩ M2 H2 vs L2 E2 rvs hl=>?_⟩
 subst e2
 obtain ⟨w,rfl,p,ys,rfl,⟨m,h⟩,r'⟩:=bY rvs
 rw [ll r'] at h
 exact ⟨z,p,zs,rfl,rfl,.of h,hz,kk _ s2 q2 M2 H2 _ L2 (E1.trans L1.base E2) rfl⟩⟩
def vP (zs:List Str):dm:=fun s Q=>Q (zs.map .str) s
theorem iF {K:PySem.W.Frag} {H:Hp} {M:Addr→Prop}:∀ (zs:List Str),ai K H M (zs.map .str) (zs.map V.str)
 | []=>rfl
 | z::zs=>⟨_,_,rfl,rfl,iF zs⟩
theorem tm {es:List Expr} {zs:List Str} (h:jP es=true) (h2:mR es=zs) (h3:es.length=zs.length):DA X c es (vP zs):=⟨(by subst h2;exact (nI h).imp fun σ H Q ⟨M,s,as,R,L,q,k⟩=>k _ s q M H _ L .refl (iF _) (by rw [List.length_map];exact h3.symm))⟩
def Ar (neg:Bool) (te:bj) (i:Nat):bj:=fun s Q=>te s fun a s1=>∃ k ds,s1.sl[i]?=some (.own k)∧s1.os[k]?=some (some (.lst ds))∧(d6 a=true∧ds.all d6=true)∧Q (.bl (if neg then !oS (fv a) (ds.map fv) else oS (fv a) (ds.map fv))) s1
theorem xM {neg:Bool} {i:Nat} {te:bj} {σ:St} {H:Hp} {Q:VK}:tE X.K c (Ar neg te i) σ H Q→ef (ym X.K neg) (tE X.K c te) (aM i) σ H Q:=fun ⟨M,s,as,R,L,q,kk⟩ =>
 ⟨M,s,as,_,L,q,fun d s1 ⟨k,ds,h1,h2,⟨f1,f2⟩,q1⟩ M1 H1 v L1 E1 rv=>by
  obtain ⟨a,o,g1,g2,g3,g4⟩:=L1.slot h1 h2
  cases o with
  | lst us =>
   have g4:ai X.K H1 M1 ds us:=g4
   have e1:=rv.flat f1
   subst e1
   obtain ⟨e,f⟩:=g4.flat f2
   refine ⟨_,g2,a,us,rfl,.inl (.of g3),gY f1,f,?_⟩
   rw [e]
   exact kk _ s1 q1 M1 H1 _ L1 E1 rfl
  | _=>exact g4.elim⟩
theorem wF {neg:Bool} {i:Nat} {a b:Expr} {op:CmpOp} {ta:bj} {pos:Pos} (ho:fe X (compareOp op) (ym X.K neg)) (ha:DE X c a ta) (hb:PE X b (aM i)) (hm:behindInMarks op b=false):DT X c (.Compare a [op] [b] pos) (Bg (Ar neg ta i)):=⟨(dU ho ha.pe hb hm).imp fun _ _ _=>ju xM⟩
end
end DL
namespace DL
open PySem PySem.Spec L2
section
variable {κ:Type} [DecidableEq κ]
theorem gQ:∀ {ks:List κ} {vs:List D} {q:κ} {x:D} (r:κ),ks.length=vs.length→q∈ks→a8 ks (fI ks vs q x) r=if r=q then some x else a8 ks vs r
 | [],vs,q,x,r,_,h=>by cases h
 | k::ks,[],q,x,r,e,_=>by simp at e
 | k::ks,v::vs,q,x,r,e,h=>by
  show (if k=r then some (if k=q then x else v) else a8 ks (fI ks vs q x) r)=if r=q then some x else if k=r then some v else a8 ks vs r
  by_cases h1:k=r
  ·subst h1
   rw [if_pos rfl,if_pos rfl]
   by_cases h2:k=q
   ·rw [if_pos h2,if_pos h2]
   ·rw [if_neg h2,if_neg h2]
  ·rw [if_neg h1,if_neg h1]
   by_cases h3:q∈ks
   ·exact gQ r (by simpa using e) h3
   ·have h4:q=k:=by
     rcases List.mem_cons.mp h with h | h
     ·exact h
     ·exact absurd h h3
    have h5:¬ r=q:=fun z=>h1 (h4.symm.trans z.symm)
    rw [if_neg h5]
    have:∀ {ks:List κ} {vs:List D},ks.length=vs.length→q∉ks→a8 ks (fI ks vs q x) r=a8 ks vs r:=by
     intro ks vs
     induction ks generalizing vs with
     | nil=>intro e _;cases vs<;>first | rfl | simp at e
     | cons k ks ih =>
      intro e hn
      cases vs with
      | nil=>simp at e
      | cons v vs =>
       show (if k=r then some (if k=q then x else v) else a8 ks (fI ks vs q x) r)=if k=r then some v else a8 ks vs r
       have hk:¬ k=q:=fun z=>hn (by rw [z];exact List.mem_cons_self)
       rw [if_neg (c:=k=q) hk,ih (by simpa using e) fun z=>hn (List.mem_cons_of_mem _ z)]
    exact this (by simpa using e) h3
theorem iB:∀ {ks:List κ} {vs:List D} {q:κ} {x:D} (r:κ),ks.length=vs.length→q∉ks→a8 (ks++[q]) (vs++[x]) r=if r=q then some x else a8 ks vs r
 | [],[],q,x,r,_,h=>by
  show (if q=r then some x else none)=_
  by_cases h1:r=q
  ·rw [if_pos h1,if_pos h1.symm]
  ·rw [if_neg h1,if_neg (Ne.symm h1)]
   rfl
 | [],_::_,q,x,r,e,_=>by simp at e
 | _::_,[],q,x,r,e,_=>by simp at e
 | k::ks,v::vs,q,x,r,e,h=>by
  show (if k=r then some v else a8 (ks++[q]) (vs++[x]) r)=if r=q then some x else if k=r then some v else a8 ks vs r
  have hk:k≠q:=fun z=>h (by rw [z];exact List.mem_cons_self)
  by_cases h1:k=r
  ·subst h1
   rw [if_pos rfl,if_neg hk,if_pos rfl]
  ·rw [if_neg h1,if_neg h1]
   exact iB r (by simpa using e) fun z=>h (List.mem_cons_of_mem _ z)
end
end DL
namespace DL
open PySem PySem.Spec L2
def kz (ds:List D):Nat:=PyData.depthAll (toPs ds)
theorem aQ (d:D) (ds:List D):kz (d::ds)=max (dF d) (kz ds):=by
 show PyData.depthAll (toP d::toPs ds)=_
 simp [PyData.depthAll,kz,dF]
theorem cU:kz []=0:=by simp [kz,toPs,PyData.depthAll]
theorem dS (ds:List D):dF (.tup ds)=kz ds+1:=by
 show PyData.depth (.tuple (toPs ds))=_
 simp [PyData.depth,kz]
theorem cz (x:Str):dF (.str x)=0:=by simp [dF,toP,PyData.depth]
theorem sL (x:Int):dF (.int x)=0:=by simp [dF,toP,PyData.depth]
end DL
namespace DL
open PySem PySem.Spec L2
end DL
namespace DL
open PySem PySem.Spec L2
open PyProof.Rows hiding St
def Lw (x:Str):Prop:=∀ ch∈x.cps.toList,97≤ch∧ch≤122
instance (x:Str):Decidable (Lw x):=by unfold Lw;infer_instance
theorem Lw.app {x y:Str} (h:Lw x) (k:Lw y):Lw (x++y):=fun ch hc=>by
 have e:(x++y).cps.toList=x.cps.toList++y.cps.toList:=by show (x.cps++y.cps).toList=_;simp
 rw [e,List.mem_append] at hc
 rcases hc with hc | hc
 ·exact h ch hc
 ·exact k ch hc
theorem Lw.slice {x:Str} (h:Lw x) (l u:Option Int):Lw (Txt.slice x l u):=by
 unfold Txt.slice
 split
 ·exact h
 ·intro ch hc
  simp only [List.mem_filterMap] at hc
  obtain ⟨i,_,e⟩:=hc
  obtain ⟨hi,e⟩:=Array.getElem?_eq_some_iff.mp e
  exact h ch (by rw [← e];simp)
theorem kK:∀ (cs:List Nat),(Txt.join ("":Str) (cs.map fun c=>(⟨#[c]⟩:Str))).cps.toList=cs
 | []=>by unfold Txt.join;rw [PySem.StrLaws.glued_eq_join];rfl
 | [c]=>by unfold Txt.join;rw [PySem.StrLaws.glued_eq_join];rfl
 | c::d::r=>by
  have ih:=kK (d::r)
  have e:(Txt.join ("":Str) ((c::d::r).map fun c=>(⟨#[c]⟩:Str)))=(⟨#[c]⟩:Str)++("":Str)++Txt.join ("":Str) ((d::r).map fun c=>(⟨#[c]⟩:Str)):=by
   unfold Txt.join
   rw [PySem.StrLaws.glued_eq_join,PySem.StrLaws.glued_eq_join]
   rfl
  rw [e]
  show ((#[c]++#[])++(Txt.join ("":Str) ((d::r).map fun c=>(⟨#[c]⟩:Str))).cps).toList=_
  rw [Array.toList_append,ih]
  rfl
theorem Lw.strOk {x:Str} (h:Lw x):PyData.strOk x=true:=by
 unfold PyData.strOk
 rw [Array.all_eq_true]
 intro i hi
 have:=h x.cps[i] (by simp)
 simp
 omega
theorem cC {nt:Nat} {us:List Nat} {g:jY} {te:bj} (Pd:D→Prop) {Q:List D→DS→Prop} {s:DS}:∀ (xs:List D) {acc:List D},(∀ x∈xs,∀ k:D→DS→Prop,(∀ (y:D) (s':DS),Pd y→s'.os=s.os→k y s')→g x (dJ nt us s) fun s1=>te s1 k)→(∀ ys:List D,ys.length=xs.length→(∀ y∈ys,Pd y)→Q (acc++ys) s)→bE nt us g br te xs acc s Q
 | [],acc,_,q=>by
  have:=q [] rfl (fun _ h=>absurd h (by simp))
  rw [List.append_nil] at this
  exact this
 | x::xs,acc,hx,q=>by
  have:=hx x List.mem_cons_self (fun y s3=>bE nt us g br te xs (acc++[y]) ⟨s.sl,s3.os⟩ Q) fun y s' hy e=>by
   show bE nt us g br te xs (acc++[y]) ⟨s.sl,s'.os⟩ Q
   rw [e]
   refine cC Pd xs (fun z hz=>hx z (List.mem_cons_of_mem _ hz)) fun ys hl hp=>?_
   rw [List.append_assoc]
   refine q ([y]++ys) (by simp [hl]) fun z hz=>?_
   rcases List.mem_cons.mp hz with rfl | hz
   ·exact hy
   ·exact hp z hz
  rw [bE]
  simpa [br] using this
end DL
namespace DL
open PySem PySem.Spec L2
open PyProof.Rows hiding St
end DL
namespace DL
open PySem PySem.Spec L2
open PyProof.Rows hiding St
def lh:List Str:=["made","asked","def","tab","cross","to","number"]
def iN:List Str:=["zero","let","make","ask","case","new"]
def Nm (x:Str):Prop:=Lw x∧1≤x.length∧x.length≤8∧x∉lh∧x∉iN
instance (x:Str):Decidable (Nm x):=by unfold Nm;infer_instance
theorem sH:∀ z∈aR.near,Nm z:=by decide +kernel
theorem sQ:∀ z∈lh,(z++("q":Str))∉lh∧(z++("q":Str))∉iN∧z.length≤6:=by decide +kernel
theorem tD:∀ z∈iN,(z++("q":Str))∉lh∧(z++("q":Str))∉iN∧z.length≤6:=by decide +kernel
theorem cB {w:Str}:∀ {zs:List Str},oS (.str w) (zs.map V.str)=decide (w∈zs)
 | []=>rfl
 | z::zs=>by
  have ih:=cB (w:=w) (zs:=zs)
  unfold oS at ih ⊢
  rw [List.map_cons,List.any_cons,ih]
  rw [show uf (V.str z) (V.str w)=decide (z=w) from rfl]
  by_cases h:z=w
  ·simp [h]
  ·simp [h,Ne.symm h]
def wl (pre post:List Nat) (tn k e:Nat):List Nat:=pre++(97+(tn+7 * k) % 26)::(post++(List.replicate (k % 2) 120++(List.replicate (k / 26) 121++List.replicate e 113)))
theorem v9 {pre post:List Nat} {tn k k' e e':Nat} (h:wl pre post tn k e=wl pre post tn k' e'):k=k':=by
 unfold wl at h
 have h:=List.append_cancel_left h
 injection h with h1 h2
 have h2:=List.append_cancel_left h2
 have h3:k % 26=k' % 26:=by omega
 have h4:k % 2=k' % 2:=by omega
 rw [h4] at h2
 have h2:=List.append_cancel_left h2
 have h5:=congrArg (List.count 121) h2
 simp [List.count_append,List.count_replicate] at h5
 omega
theorem eY (x y:Str):(x++y).cps.toList=x.cps.toList++y.cps.toList:=by show (x.cps++y.cps).toList=_;simp
theorem mK {r:Int} (h0:0≤r) (h1:r < 26):jU aR.Av.cps.toList r=some (97+r.toNat):=by
 have hn:∀ n:Fin 26,aR.Av.cps.toList[n.val]?=some (97+n.val):=by decide +kernel
 have hj:r.toNat < 26:=by omega
 have e:(r.toNat:Int)=r:=Int.toNat_of_nonneg h0
 have q:=jQ (xs:=aR.Av.cps.toList) (j:=r.toNat) (v:=97+r.toNat) (hn ⟨r.toNat,hj⟩)
 rw [e] at q
 exact q
theorem mN {c:Nat} {n:Int} (h0:0≤n) (h1:n≤2):(Txt.mul (⟨#[c]⟩:Str) n).cps.toList=List.replicate n.toNat c∧MulOk (⟨#[c]⟩:Str) n:=by
 have:n=0∨n=1∨n=2:=by omega
 rcases this with rfl | rfl | rfl
 ·exact ⟨rfl,rfl,fun h=>absurd (by decide) h,fun h=>absurd (by decide) h⟩
 ·exact ⟨rfl,rfl,fun _ h=>absurd h (by simp),fun _ h=>absurd h (by simp)⟩
 ·exact ⟨rfl,rfl,fun _ _=>by show ¬ ((1:Nat):Int) > (2 ^ 63 - 1) / 2;decide,fun _ _=>by show PySem.Builtin.Str.tooLong (1 * 2)=false;decide⟩
theorem iC {α:Type} {z:α}:∀ {ws:List α} (i:Nat),ws.Nodup→z∉ws→(ws.set i z).Nodup
 | [],i,h,hz=>by simpa using h
 | w::ws,0,h,hz=>by
  rw [List.set_cons_zero]
  rw [List.nodup_cons] at h ⊢
  exact ⟨fun m=>hz (List.mem_cons_of_mem _ m),h.2⟩
 | w::ws,i+1,h,hz=>by
  rw [List.set_cons_succ]
  rw [List.nodup_cons] at h ⊢
  refine ⟨fun m=>?_,iC i h.2 fun m=>hz (List.mem_cons_of_mem _ m)⟩
  rcases List.mem_or_eq_of_mem_set m with m | e
  ·exact h.1 m
  ·exact hz (by rw [← e];exact List.mem_cons_self)
open PySem.Builtin PySem.Builtin.Str in
theorem lp (x:Str) (l u:Option Int):(Txt.slice x l u).length≤(strSliceIndices l u 1 x.length).length:=by
 unfold Txt.slice
 split
 ·rename_i h
  simp at h
  omega
 ·show (List.filterMap _ (strSliceIndices l u 1 x.length)).toArray.size≤_
  rw [List.size_toArray]
  exact List.length_filterMap_le _ _
open PySem.Builtin PySem.Builtin.Str in
theorem oF {x:Str} {i:Int} (h0:0≤i) (h1:i≤x.length):(Txt.slice x none (some i)).length+(Txt.slice x (some i) none).length≤x.length:=by
 have a:=lp x none (some i)
 have b:=lp x (some i) none
 have ha:(strSliceIndices none (some i) 1 x.length).length≤i.toNat:=by
  unfold strSliceIndices sliceRange
  simp only [show (1:Int) > 0 by decide,if_true,List.length_map,List.length_range]<;>(split<;>(try split)<;>(try split)<;>(try simp only [Int.ediv_one])<;>omega)
 have hb:(strSliceIndices (some i) none 1 x.length).length≤x.length - i.toNat:=by
  unfold strSliceIndices sliceRange
  simp only [show (1:Int) > 0 by decide,if_true,List.length_map,List.length_range]<;>(split<;>(try split)<;>(try split)<;>(try simp only [Int.ediv_one])<;>omega)
 omega
def kT (pre post:List Nat) (tn:Nat) (ws:List Str):Prop:=∀ (j:Nat) (w:Str),ws[j]?=some w→Nm w∧∃ e,w.cps.toList=wl pre post tn j e
theorem kT.nodup {pre post:List Nat} {tn:Nat} {ws:List Str} (h:kT pre post tn ws):ws.Nodup:=by
 rw [List.nodup_iff_pairwise_ne,List.pairwise_iff_getElem]
 intro i j hi hj Gi e
 obtain ⟨_,e1,h1⟩:=h i ws[i] (List.getElem?_eq_getElem hi)
 obtain ⟨_,e2,h2⟩:=h j ws[j] (List.getElem?_eq_getElem hj)
 rw [e,h2] at h1
 have:=v9 h1
 omega
theorem kT.snoc {pre post:List Nat} {tn:Nat} {ws:List Str} {u:Str} {e:Nat} (h:kT pre post tn ws) (hu:Nm u) (he:u.cps.toList=wl pre post tn ws.length e):kT pre post tn (ws++[u]):=fun j w q=>by
 by_cases hj:j < ws.length
 ·rw [List.getElem?_append_left hj] at q
  exact h j w q
 ·rw [List.getElem?_append_right (by omega)] at q
  obtain ⟨h1,h2⟩:=List.getElem?_eq_some_iff.mp q
  simp at h1
  have:j=ws.length:=by omega
  subst this
  simp at h2
  subst h2
  exact ⟨hu,e,he⟩
theorem kT.nm {pre post:List Nat} {tn:Nat} {ws:List Str} (h:kT pre post tn ws):∀ w∈ws,Nm w:=fun w m=>by
 obtain ⟨j,hj,e⟩:=List.getElem_of_mem m
 exact (h j w (by rw [List.getElem?_eq_getElem hj,e])).1
def qL (d:Addr):List D→(D→Prop)→Prop:=fun ds R=>∃ m:Int,ds=[.eK d,.int m]∧(0 < m∧m≤60)∧∀ ws:List Str,ws.length=m.toNat→ws.Nodup→(∀ x∈ws,Nm x)→R (.lst (ws.map .str))
end DL
namespace DL
open PySem PySem.Spec L2
open PyProof.Rows hiding St
section
variable {X:Cx} {c:Ent}
def qH:D→Bool
 | .aS=>true
 | _=>false
theorem Rep.zx {K:PySem.W.Frag} {H:Hp} {M:Addr→Prop} {d:D} {v:V} (r:Rep K H M d v):decide (v=.aS)=qH d:=by
 cases d with
 | aS=>rw [show v=.aS from r];rfl
 | bl b=>rw [show v=.bl b from r];rfl
 | int b=>rw [show v=.int b from r];rfl
 | str b=>rw [show v=.str b from r];rfl
 | eK b=>rw [show v=.ref b from r];rfl
 | ty b=>rw [show v=.ty b from r];rfl
 | tup _=>obtain ⟨a,xs,rfl,_⟩:=r;rfl
 | lst _=>obtain ⟨a,xs,rfl,_⟩:=r;rfl
 | mE _ _=>obtain ⟨a,xs,rfl,_⟩:=r;rfl
 | dA _ _=>obtain ⟨a,xs,rfl,_⟩:=r;rfl
def Fs:D→D→(D→Prop)→Prop:=fun a b k=>b=.aS∧k (.bl (qH a))
theorem vo:jX X c (fun x y H Q=>y=.aS∧Q (.bl (decide (x=.aS))) H) Fs:=fun M s as σ H x y dx dy k Q L rx ry ⟨e,hk⟩ kk=>by
 subst e
 refine ⟨ry,?_⟩
 rw [rx.zx]
 exact kk _ hk M H _ L .refl rfl
end
end DL
namespace PyZ
open PySem Sem
section
variable {prog:Program} {w:World} {A:Around} {E:Value→Shared→Prop} {s:Shared} {z TI TO i1 i2:Addr} {f1 f2:List Addr} {n1 n2:Nat} {P1 P2:Nat→Value→Prop} {S1 S2:Nat→Heap→Prop}
end
end PyZ
namespace PyZ
open PySem Sem L2
section
variable {prog:Program} {w:World} {A:Around} {E:Value→Shared→Prop} {s:Shared}
end
section
variable {prog:Program} {w:World} {A:Around} {E:Value→Shared→Prop} {s:Shared}
end
end PyZ
namespace L2
open PySem PySem.Spec PyZ
open PyProof.Rows hiding St
section
variable {P:Program} {w:World} {K:PySem.W.Frag}
end
end L2
namespace L2
open PySem PySem.Spec PyZ
open PyProof.Rows hiding St
section
variable {X:Cx}
end
end L2
namespace DL
open PySem PySem.Spec L2
open PyProof.Rows hiding St
section
variable {X:Cx} {c:Ent}
end
end DL
namespace DL
open PySem PySem.Spec L2
open PyProof.Rows hiding St
section
variable {X:Cx} {c:Ent}
end
end DL
namespace L2
open PySem PySem.Spec PyProof.Rows
section
variable {X:Cx}
end
end L2
namespace DL
open PySem PySem.Spec L2
open PyProof.Rows hiding St
section
variable {X:Cx} {c:Ent}
end
end DL
namespace PySem.F
end PySem.F
namespace PyZ
open PySem Sem
section
variable {prog:Program} {w:World} {A:Around} {E:Value→Shared→Prop} {s:Shared} {z TI TO i1 i2:Addr} {f1 f2:List Addr} {n1 n2:Nat} {P1 P2:Nat→Value→Prop} {S1 S2:Nat→Heap→Prop}
end
end PyZ
namespace L2
open PySem PySem.Spec PyZ
open PyProof.Rows hiding St
section
variable {X:Cx} {pins:List (Addr×Obj)} {σ:St}
end
end L2
namespace L2
open PySem PySem.Spec PyZ
open PyProof.Rows hiding St
section
variable {X:Cx} {pins:List (Addr×Obj)} {σ:St}
end
end L2
namespace DL
open PySem PySem.Spec L2
open PyProof.Rows hiding St
section
variable {X:Cx} {c:Ent}
end
end DL
namespace DL
open PySem PySem.Spec L2
open PyProof.Rows hiding St
section
variable {X:Cx} {c:Ent}
end
end DL
namespace A4
open PySem Sem
open PySem.AutoSeq1 (wpAny_loadPart')
section
variable {prog:Program} {w:World} {A:Around} {E:Value→Shared→Prop} {s:Shared}
end
end A4
namespace L2
open PySem PySem.Spec
open PyProof.Rows hiding St
section
variable {P:Program} {w:World} {K:PySem.W.Frag}
section
variable {M:Model} {A:Around} {E:Value→Shared→Prop} {s:Shared} {env:Env}
end
section
variable {X:Cx}
end
end
end L2
namespace DL
open PySem PySem.Spec L2
open PyProof.Rows hiding St
section
variable {X:Cx} {c:Ent}
end
end DL
namespace A4
open PySem Sem
theorem jt:typeLookup (.type "list") "keys"=Pure.pure none:=by rw [typeLookup_type,builtinLookup_eq_fast];kernel_rfl
theorem mD:typeLookup (.type "list") "__getattr__"=Pure.pure none:=by rw [typeLookup_type,builtinLookup_eq_fast];kernel_rfl
section
variable {prog:Program} {w:World} {A:Around} {E:Value→Shared→Prop} {h:Heap} {g:Array GenState} {d:Drawn} {t:Nat} {os:OsState} {a:Addr} {o:Obj}
theorem g9:isSubtype (.type "AttributeError") (.type "AttributeError")=Pure.pure true:=by rw [isSubtype_type];kernel_rfl
theorem lA (vs:List Value):firstArgMember (.type "AttributeError") vs=Pure.pure .none:=by
 unfold firstArgMember
 have e:((Manifest.find? "AttributeError").elim false fun t=>t.mro.contains "StopIteration"||t.mro.contains "SystemExit")=false:=by decide +kernel
 simp only [pure_bind,e]
 rfl
theorem lF {α:Type} {h2:Heap} {e:Addr} {p v:Value} {nm:Str} {sl:Array (Option Value)} {Q:α→Shared→Prop} (hh:A.handled=none) (he:h2.get? e=some ⟨.type "AttributeError",none,.fields #[p,.none,.none,.none,.bool false,.none,unsetMember,unsetMember],sl⟩)
  (hq:∀ h3 t',(∀ b u,b≠e→h2.get? b=some u→h3.get? b=some u)→(∃ u,h3.get? e=some u∧u.cls=.type "AttributeError")→E (.ref e) ⟨h3,g,d,t',os⟩) :
  wpAny (model prog w) A (mkText nm >>= fun n=>noteAttr (.ref e) v n >>= fun _=>raiseNew (.ref e)) Q E ⟨h2,g,d,t,os⟩:=by
 have hT:∀ t',(⟨h2,g,d,t',os⟩:Shared).TypeIs (.ref e) "AttributeError":=fun _=>⟨_,he,rfl⟩
 have hT1:=hT (t+1)
 have f6:=g9
 unfold noteAttr raiseNew
 repeat (any_goals (first | assumption | wp_step))
 exact hq _ _ (fun b u hb x=>(Heap.get?_update_ne _ _ _ _ hb).trans x) ⟨_,Heap.get?_update_self _ he (Obj.isFreed_of_fields (Obj.data_mapFields rfl _)),(Obj.cls_mapFields ..).trans rfl⟩
theorem l6 {α:Type} {v:Value} {nm msg:Str} {Q:α→Shared→Prop} (hh:A.handled=none) (hz:msg.length≤sizeLine) (hq:∀ h' e t',(∀ b u,h.get? b=some u→h'.get? b=some u)→(∃ u,h'.get? e=some u∧u.cls=.type "AttributeError")→E (.ref e) ⟨h',g,d,t',os⟩) :
  wpAny (model prog w) A (raiseAttrError v nm msg) Q E ⟨h,g,d,t,os⟩:=by
 unfold raiseAttrError
 simp only [newExc,newTuple]
 refine wpAny_bind (wpAny_mkStr ?_ hz)
 refine wpAny_bind (wpAny_bind (wpAny_newObj_type ?_ (by size_fits)))
 refine wpAny_bind (m:=firstArgMember _ _) (wpAny_of_eq (lA _) ?_)
 refine wpAny_newObj_type ?_ (by size_fits)
 dsimp only
 refine lF (sl:=#[]) hh (Heap.get?_push_size _ rfl) fun h3 t' k c=>hq h3 _ t' (fun b u x=>k b u (Nat.ne_of_lt (Nat.lt_of_lt_of_le (Heap.lt_size x) ?_)) (Heap.get?_push_of_some _ (Heap.get?_push_of_some _ x))) c
 rw [Heap.size_push]
 exact Nat.le_succ _
theorem lQ {tk:Tok} {items:Array Value} {n:Nat} {sl:Array (Option Value)} {Q:PySem.Fin→Shared→Prop} (hh:A.handled=none) (hx:h.get? a=some ⟨.type "list",none,.seq items n,sl⟩) (hq:∀ h' e t',(∀ b u,h.get? b=some u→h'.get? b=some u)→(∃ u,h'.get? e=some u∧u.cls=.type "AttributeError")→E (.ref e) ⟨h',g,d,t',os⟩) :
  wpAny (model prog w) A (Builtin.«object.__getattribute__» ⟨[.ref a,.str "keys" tk],[]⟩) Q E ⟨h,g,d,t,os⟩:=by
 have hT:(⟨h,g,d,t,os⟩:Shared).TypeIs (.ref a) "list":=⟨_,hx,rfl⟩
 have f4:=jt
 repeat (any_goals (first | assumption | with_reducible refine l6 hh (by decide +kernel) hq | wp_step))
theorem tW {tk:Tok} {items:Array Value} {n:Nat} {sl:Array (Option Value)} {Q:Value→Shared→Prop} (hh:A.handled=none) (hx:h.get? a=some ⟨.type "list",none,.seq items n,sl⟩) (hq:∀ h' e t',(∀ b u,h.get? b=some u→h'.get? b=some u)→(∃ u,h'.get? e=some u∧u.cls=.type "AttributeError")→E (.ref e) ⟨h',g,d,t',os⟩) :
  wpAny (model prog w) A (getAttrBy (.ref a) (.str "keys" tk) false) Q E ⟨h,g,d,t,os⟩:=by
 have hT:(⟨h,g,d,t,os⟩:Shared).TypeIs (.ref a) "list":=⟨_,hx,rfl⟩
 have f2:=F.slot_list_getattribute.lookup
 have f3:=F.slot_list_getattribute.bind (.ref a)
 have f5:=mD
 repeat (any_goals (first | assumption | wp_step))
 refine codeAny_call_builtin F.slot_list_getattribute.plain F.entry_list_ga (F.slot_list_getattribute.check _ _ _ _ _ _ _ _ hT (F.args_list_getattribute_2 _ _) (lQ hh hx fun h' e t' k c=>?_))
 obtain ⟨u,hu,hc⟩:=c
 have hT2:(⟨h',g,d,t',os⟩:Shared).TypeIs (.ref e) "AttributeError":=⟨u,hu,hc⟩
 have f6:=g9
 show wpAny _ _ (getattributeRaised (.ref a) (.str "keys" tk) (.type "list") (.ref e) none false false) _ _ _
 have hE:=hq h' e t' k ⟨u,hu,hc⟩
 repeat (any_goals (first | assumption | wp_step))
theorem ub {items:Array Value} {n:Nat} {sl:Array (Option Value)} {Q:Option Value→Shared→Prop} (hh:A.handled=none) (hx:h.get? a=some ⟨.type "list",none,.seq items n,sl⟩) (hq:∀ h' t',(∀ b u,h.get? b=some u→h'.get? b=some u)→Q none ⟨h',g,d,t',os⟩) :
  wpAny (model prog w) A (getAttr? (.ref a) "keys") Q E ⟨h,g,d,t,os⟩:=by
 unfold getAttr? getAttrBy?
 refine wpAny_bind ?_
 have f6:=g9
 unfold mkText
 repeat (any_goals (first | assumption | with_reducible apply tW hh hx | wp_step))
 intro h' e t' k c
 obtain ⟨u,hu,hc⟩:=c
 have hT2:(⟨h',g,d,t',os⟩:Shared).TypeIs (.ref e) "AttributeError":=⟨u,hu,hc⟩
 have hE:=hq h' t' k
 repeat (any_goals (first | assumption | wp_step))
end
end A4
namespace L2
open PySem PySem.Spec
open PyProof.Rows hiding St
section
variable {X:Cx} {pins:List (Addr×Obj)} {σ:St}
def gR (H:Hp) (x:V) (kv:List Key×V):Prop:=∃ p k,x=.ref p∧H p=some (.tup [.ref k,kv.2])∧H k=some (.tup (kv.1.map kV))
theorem gR.up {H:Hp} {x:V} {kv:List Key×V} {a:Addr} {m m':List (List Key×V)} (e:H a=some (.dT m)) (h:gR H x kv):gR (upd H a (.dT m')) x kv:=by
 obtain ⟨p,k,e1,e2,e3⟩:=h
 have n1:p≠a:=fun z=>by subst z;rw [e] at e2;cases e2
 have n2:k≠a:=fun z=>by subst z;rw [e] at e3;cases e3
 exact ⟨p,k,e1,by rw [ag n1];exact e2,by rw [ag n2];exact e3⟩
def putAll (m:List (List Key×V)) (kvs:List (List Key×V)):List (List Key×V):=kvs.foldl (fun m kv=>putK m kv.1 kv.2) m
theorem i4:entryFor table "dict.update.loop"=some Builtin.«dict.update.loop»:=entryFor_of_tree (by kernel_rfl)
theorem wC {K:PySem.W.Frag} {H:Hp} {l a:Addr} {xs:List V} {m:List (List Key×V)} {o:HO} (e:H a=some (.dT m)) (h:bS K H l xs):bS K (upd H a o) l xs:=by
 rcases h with (h | ⟨u,h⟩) | h
 ·have n:l≠a:=fun z=>by subst z;rw [e] at h;cases h
  exact .inl (.inl (by rw [ag n];exact h))
 ·have n:l≠a:=fun z=>by subst z;rw [e] at h;cases h
  exact .inl (.inr ⟨u,by rw [ag n];exact h⟩)
 ·exact .inr h
theorem oI {H:Hp} {s:Shared} {A:Around} {E:Value→Shared→Prop} {a b:Addr} {k:List Key} {v:V} {r:Value} {m:List (List Key×V)} {Q:Unit→Shared→Prop} (hu:(tupleKind (ax X.prog X.w)).room A) (I:Inv X pins σ H s) (e:H a=some (.dT m)) (eb:H b=some (.tup (k.map kV))) (l:m.length < sizeLine) (rv:RelV v r)
  (h:∀ s',Inv X pins σ (upd H a (.dT (putK m k v))) s'→Heap.SameBut a s.heap s'.heap→Q () s'):wpAny (model X.prog X.w) A (dictSet a (.ref b) r) Q E s:=by
 obtain ⟨z,hd,xs,rel,dd⟩:=pq I.aH e
 have hz:xs.length≤sizeLine:=by rw [← Paired.length rel];exact z
 have hl:(putK m k v).length≤sizeLine:=by have:=cg m k v;omega
 refine wpAny_dictSet_heap (hsz:=hz) hu (g8 I.aH eb) dd fun h' dd' hs=>h _ ?_ hs
 obtain ⟨q,es,ep,hq,h2,h3,h4,_,h5⟩:=dd'
 refine gc I (by rw [e];exact True.intro) hs ⟨q,hq⟩ ⟨hl,hd,_,(rel.put k eb rv).keeps fun c ys ec=>?_,q,es,ep,hq,h2,h3,h4,h5⟩
 rw [ag (qh ec e (fun z=>nomatch z))]
 exact ec
theorem iz {A:Around} {E:Value→Shared→Prop} {a it l:Addr} {xs:List V} {Q:Shared→Prop} (hh:A.in1.handled=none) (hu:A.units+1 < cLine):∀ (rest:List (List Key×V)) (i:Nat) (acc:List (List Key×V)) (H:Hp) (s:Shared),
  Inv X pins σ H s→H a=some (.dT acc)→bS X.K H l xs→Paired (gR H) (xs.drop i) rest→dO X pins H it→s.heap.IsListIter it l i→acc.length+rest.length < sizeLine →
  (∀ s',Inv X pins σ (upd H a (.dT (putAll acc rest))) s'→Q s') →
  codeAny (model X.prog X.w) A (.builtin "dict.update.loop" ⟨[.ref a,.ref it,rawInt i,.none],[]⟩) (wants (fun r s2=>r=.none∧Q s2) E) s
 | [],i,acc,H,s,I,ha,hl,hp,hf,hit,hz,q=>by
  have hx:xs.drop i=[]:=by
   have:=Paired.length hp
   exact List.eq_nil_of_length_eq_zero this
  obtain ⟨its,rv,pl,_⟩:=I.list hl
  have hn:its.toArray[i]?=none:=by
   have:=rv.length
   have:=congrArg List.length hx
   simp at this ⊢
   omega
  refine codeAny_builtin i4 ?_
  rw [Around.under_plain rfl rfl]
  show wpAny _ _ (pyNext (.ref it) >>= _) _ _ _
  refine wpAny_bind (wpAny_pyNext_list_end hh hit pl.isList hn fun h' eb=>?_)
  have I1:Inv X pins σ H { s with heap:=h' }:=Inv.gb (t':=s.toks) (fp:=[it]) I (fun b o hb z=>eb b o (fun y=>hb (by simp [y])) z) fun b hb=>by rw [List.mem_singleton.mp hb];exact hf
  show wpAny _ _ (Builtin.Dict.addKeywords a [] >>= _) _ _ _
  refine wpAny_bind (wpAny_pure (wpAny_pure ⟨rfl,q _ ?_⟩))
  have e:upd H a (.dT (putAll acc []))=H:=by
   funext b
   by_cases hb:b=a
   ·subst hb
    rw [ah,ha]
    rfl
   ·rw [ag hb]
  rw [e]
  exact I1
 | kv::rest,i,acc,H,s,I,ha,hl,hp,hf,hit,hz,q=>by
  have eu:i < xs.length:=by
   have:=Paired.length hp
   rw [List.length_drop,List.length_cons] at this
   omega
  rw [List.drop_eq_getElem_cons eu] at hp
  cases hp with
  | cons hx hr =>
  obtain ⟨p,k,e1,e2,e3⟩:=hx
  obtain ⟨its,rv,pl,_⟩:=I.list hl
  obtain ⟨u,hu1,ru⟩:=rv.get (show xs[i]?=some xs[i] from List.getElem?_eq_getElem eu)
  rw [e1] at ru
  have ru:u=.ref p:=ru
  subst ru
  refine codeAny_builtin i4 ?_
  rw [Around.under_plain rfl rfl]
  show wpAny _ _ (pyNext (.ref it) >>= _) _ _ _
  refine wpAny_bind (wpAny_pyNext_list_item hit pl.isList (by simpa using hu1) fun h' hit' hs=>?_)
  have I1:Inv X pins σ H { s with heap:=h' }:=Inv.gb (t':=s.toks) (fp:=[it]) I (fun b o hb z=>(hs.2 b (fun y=>hb (by simp [y]))).trans z) fun b hb=>by rw [List.mem_singleton.mp hb];exact hf
  obtain ⟨_,ps,rp,op,g1,g2,nn,g3⟩:=(show aV X.prog X.w H h' p (.tup [.ref k,kv.2]) from I1.aH p _ e2)
  obtain ⟨kr,vr,rfl,rk,rvv⟩:=Vals.two rp
  have rk:kr=.ref k:=rk
  subst rk
  show wpAny _ _ (holding [Value.ref p] _ >>= _) _ _ _
  refine wpAny_bind (wpAny_holding (wpAny_bind (wpAny_tryCatch ?_)))
  have hT:Shared.TypeIs { s with heap:=h' } (.ref p) "tuple":=⟨op,g1,g2⟩
  unfold Builtin.Dict.pairItems
  refine wpAny_bind (wpAny_typeOf hT ?_)
  rw [if_pos (by decide)]
  refine wpAny_bind (wpAny_seqItems g1 g3 (wpAny_pure ?_))
  show wpAny _ _ (holding [Value.ref k,vr] (dictSet a (.ref k) vr)) _ _ _
  have hzl:acc.length+(rest.length+1) < sizeLine:=hz
  refine wpAny_holding (oI (tupleKind_room_in1 hu) I1 ha e3 (by omega) rvv fun s2 I2 uY=>?_)
  have hia:it≠a:=fun z=>by
   subst z
   rw [hf.1] at ha
   cases ha
  refine wpAny_pure ⟨Code.quiet_builtin _ (by decide +kernel),?_⟩
  have fg:=cg acc kv.1 kv.2
  refine iz hh hu rest (i+1) (putK acc kv.1 kv.2) (upd H a (.dT (putK acc kv.1 kv.2))) s2 I2 ah (wC ha hl) (Paired.qg hr fun _ _ z=>gR.up ha z) ⟨by rw [ag hia];exact hf.1,hf.2⟩ (hit'.at fun o z=>(uY.2 it hia).trans z) (by omega) fun s3 I3=>q s3 ?_
  have e:upd (upd H a (.dT (putK acc kv.1 kv.2))) a (.dT (putAll (putK acc kv.1 kv.2) rest))=upd H a (.dT (putAll acc (kv::rest))):=by
   funext b
   by_cases hb:b=a
   ·subst hb
    rw [ah,ah]
    rfl
   ·rw [ag hb,ag hb,ag hb]
  rw [e] at I3
  exact I3
theorem tM {K:PySem.W.Frag} {H:Hp} {l a:Addr} {xs:List V} {o:HO} (e:H a=none) (h:bS K H l xs):bS K (upd H a o) l xs:=by
 rcases h with (h | ⟨u,h⟩) | h
 ·exact .inl (.inl (by rw [ag (ak h e)];exact h))
 ·exact .inl (.inr ⟨u,by rw [ag (ak h e)];exact h⟩)
 ·exact .inr h
theorem gR.new {H:Hp} {x:V} {kv:List Key×V} {a:Addr} {o:HO} (e:H a=none) (h:gR H x kv):gR (upd H a o) x kv:=by
 obtain ⟨p,k,e1,e2,e3⟩:=h
 exact ⟨p,k,e1,by rw [ag (ak e2 e)];exact e2,by rw [ag (ak e3 e)];exact e3⟩
theorem lX {H:Hp} {s:Shared} {E:Value→Shared→Prop} {l:Addr} {xs:List V} {kvs:List (List Key×V)} {Q:Value→Shared→Prop} (hh:X.A.handled=none) (hu:X.A.units+150 < cLine) (I:Inv X pins σ H s) (hl:bS X.K H l xs) (hp:Paired (gR H) xs kvs) (hz:kvs.length < sizeLine)
  (h:∀ a s',H a=none→Inv X pins σ (upd H a (.dT (putAll [] kvs))) s'→Q (.ref a) s'):wpAny (model X.prog X.w) X.A (call (.type "dict") [.ref l]) Q E s:=by
 refine callType_codes (Q₁:=fun obj s₁=>obj=.ref s.heap.objs.size∧s₁={ s with heap:=s.heap.push { cls:=.type "dict",data:=.dict #[] } }) PySem.F.kt_called_dict (PySem.F.kt_typeCall_dict_1 _) PySem.F.entry_dict_init (kt_code_dict_new _ ⟨rfl,rfl⟩) fun obj s₁ h₁=>?_
 obtain ⟨rfl,rfl⟩:=h₁
 have hfr:H s.heap.objs.size=none:=I.aH.fresh (Nat.le_refl _)
 have I1:Inv X pins σ (upd H s.heap.objs.size (.dT [])) { s with heap:=s.heap.push { cls:=.type "dict",data:=.dict #[] } }:=I.laid (a:=s.heap.objs.size) (o:=.dT []) (t':=s.toks) (fun _ _ q=>Heap.get?_push_of_some _ q) (Nat.le_refl _) (kQ s.heap I.big)
 have hT:Shared.TypeIs { s with heap:=s.heap.push { cls:=.type "dict",data:=.dict #[] } } (.ref s.heap.objs.size) "dict":=⟨_,Heap.get?_push_size _ rfl,rfl⟩
 refine ⟨hT,PySem.F.args_dict_init_2 _ _,?_⟩
 unfold Builtin.«dict.__init__»
 refine wpAny_bind ?_
 unfold Builtin.Dict.selfAndRest
 refine wpAny_bind (wpAny_notOrdered_dict hT ?_)
 refine wpAny_pure ?_
 show wpAny _ _ (Builtin.Dict.updateFrom "dict.__init__" s.heap.objs.size (.ref l) [] .none) _ _ _
 have hl1:bS X.K (upd H s.heap.objs.size (.dT [])) l xs:=tM hfr hl
 obtain ⟨its,rv,pl,_⟩:=I1.list hl1
 obtain ⟨⟨cl,od,dt,sl⟩,nn,x1,x2,x3,x4⟩:=pl
 replace x2:cl=.type "list":=x2
 replace x3:od=none:=x3
 replace x4:dt=.seq its.toArray nn:=x4
 subst x2 x3 x4
 have hTl:Shared.TypeIs { s with heap:=s.heap.push { cls:=.type "dict",data:=.dict #[] } } (.ref l) "list":=⟨_,x1,rfl⟩
 unfold Builtin.Dict.updateFrom
 refine wpAny_bind (wpAny_typeOf hTl ?_)
 rw [if_pos (by decide)]
 have hhn:(X.A.in1.in1).handled=none:=hh
 refine wpAny_bind (A4.ub hhn x1 fun h' t' k=>?_)
 have I2:Inv X pins σ (upd H s.heap.objs.size (.dT [])) { s with heap:=h',toks:=t' }:=I1.kept (t':=t') k
 have hL2:Heap.IsList h' l its.toArray:=⟨_,k l _ x1,rfl,nn,rfl⟩
 show wpAny _ _ (rule _ >>= _) _ _ _
 refine wpAny_bind (wpAny_rule ?_)
 refine wpAny_bind (wpAny_pyIter_list (s:={ s with heap:=h',toks:=t' }) hL2 ?_)
 have I3:=I2.kept (h':=h'.push { cls:=.type "list_iterator",data:=.fields #[.ref l,.int 0 0] }) (t':=t') fun b u z=>Heap.get?_push_of_some _ z
 have eu:s.heap.objs.size < h'.objs.size:=Heap.lt_size (k _ _ (Heap.get?_push_size _ rfl))
 have Dd:upd H s.heap.objs.size (.dT []) h'.objs.size=none:=by
  rw [ag (Nat.ne_of_gt eu)]
  exact I.aH.fresh (Nat.le_of_lt eu)
 refine wpAny_pure ⟨Code.quiet_builtin _ (by decide +kernel),?_⟩
 refine iz (A:=X.A.in1) hh (by show X.A.units+1+1 < cLine;omega) kvs 0 [] (upd H s.heap.objs.size (.dT [])) _ I3 ah hl1 (by rw [List.drop_zero];exact Paired.qg hp fun _ _ z=>z.new hfr) (I2.lW (Nat.le_refl _) Dd) ⟨_,Heap.get?_push_size _ rfl,rfl,rfl⟩ (by simpa using hz) fun s' I4=>h _ s' hfr ?_
 have e:upd (upd H s.heap.objs.size (.dT [])) s.heap.objs.size (.dT (putAll [] kvs))=upd H s.heap.objs.size (.dT (putAll [] kvs)):=by
  funext b
  by_cases hb:b=s.heap.objs.size
  ·subst hb
   rw [ah,ah]
  ·rw [ag hb,ag hb,ag hb]
 rw [e] at I4
 exact I4
end
end L2
namespace L2
open PySem PySem.Spec
open PyProof.Rows hiding St
def m3 (K:PySem.W.Frag):List V→Hp→VK→Prop:=fun vs H Q=>∃ l xs kvs,vs=[.ref l]∧bS K H l xs∧Paired (gR H) xs kvs∧kvs.length < sizeLine∧∀ a,H a=none→Q (.ref a) (upd H a (.dT (putAll [] kvs)))
theorem kc {X:Cx} (hc:X.calm=true) (hu:X.A.units+150 < cLine):cu X (.type "dict") (m3 X.K):=by
 intro pins s σ H xs us Q I r h
 obtain ⟨l,ys,kvs,rfl,hl,hp,hz,q⟩:=h
 obtain ⟨u,rfl,ru⟩:=Vals.one r
 cases ru
 exact lX (I.ok.hd hc) hu I hl hp hz fun a s' hn I2=>⟨.ref a,_,I2,rfl,q a hn⟩
end L2
namespace DL
open PySem PySem.Spec L2
section
variable {X:Cx} {c:Ent}
def putD (m:List (List Key)×List D) (kv:List Key×D):List (List Key)×List D:=(cp m.1 kv.1,cA m.1 m.2 kv.1 kv.2)
def tu (ds:List D) (k:D→Prop):Prop:=∃ qs:List (List D×(List Key×D)),ds=[.lst (qs.map fun q=>.tup [.tup q.1,q.2.2])]∧(∀ q∈qs,fK q.1=some q.2.1)∧qs.length < sizeLine∧k (.dA ((qs.map (·.2)).foldl putD ([],[])).1 ((qs.map (·.2)).foldl putD ([],[])).2)
theorem rK {K:PySem.W.Frag} {H:Hp} {M:Addr→Prop}:∀ {qs:List (List D×(List Key×D))} {xs:List V},(∀ q∈qs,fK q.1=some q.2.1)→ai K H M (qs.map fun q=>.tup [.tup q.1,q.2.2]) xs→∃ kvs:List (List Key×V),Paired (gR H) xs kvs∧Paired (fun (kv:List Key×V) (q:List D×(List Key×D))=>kv.1=q.2.1∧Rep K H M q.2.2 kv.2) kvs qs
 | [],xs,_,r=>by
  have r:xs=[]:=r
  subst r
  exact ⟨[],.nil,.nil⟩
 | q::qs,xs,hq,r=>by
  obtain ⟨x,xr,rfl,r1,r2⟩:=r
  obtain ⟨kvs,p1,p2⟩:=rK (fun z hz=>hq z (List.mem_cons_of_mem _ hz)) r2
  obtain ⟨p,ys,rfl,⟨_,hp⟩,ry⟩:=r1
  obtain ⟨y1,yr,rfl,⟨kb,zs,rfl,⟨_,hk⟩,rz⟩,ry2⟩:=ry
  obtain ⟨y2,yr2,rfl,rv,ry3⟩:=ry2
  have ry3:yr2=[]:=ry3
  subst ry3
  have ez:=dX (hq q List.mem_cons_self) rz
  subst ez
  exact ⟨(q.2.1,y2)::kvs,.cons ⟨p,kb,rfl,hp,hk⟩ p1,.cons ⟨rfl,rv⟩ p2⟩
theorem iQ {K:PySem.W.Frag} {H:Hp} {M:Addr→Prop}:∀ {kvs:List (List Key×V)} {qs:List (List D×(List Key×D))} {acc:List (List Key×V)} {m:List (List Key)×List D},Paired (fun (kv:List Key×V) (q:List D×(List Key×D))=>kv.1=q.2.1∧Rep K H M q.2.2 kv.2) kvs qs→acc.map (·.1)=m.1→ai K H M m.2 (acc.map (·.2)) →
  (putAll acc kvs).map (·.1)=((qs.map (·.2)).foldl putD m).1∧ai K H M ((qs.map (·.2)).foldl putD m).2 ((putAll acc kvs).map (·.2))
 | _,_,acc,m,.nil,h1,h2=>⟨h1,h2⟩
 | _,_,acc,m,.cons (a:=kv) (b:=q) r t,h1,h2=>by
  obtain ⟨e,rv⟩:=r
  obtain ⟨g1,g2⟩:=lY (q:=kv.1) rv h2
  rw [h1,e] at g1 g2
  have:=iQ (acc:=putK acc kv.1 kv.2) (m:=putD m q.2) t (by rw [e];exact g1) (by rw [e];exact g2)
  exact this
theorem nV:wg X c (m3 X.K) tu:=fun M s as σ H xs ds k Q L r ⟨qs,e,hq,hz,hk⟩ q=>by
 subst e
 obtain ⟨v,rfl,a,ys,rfl,⟨m,h⟩,ry⟩:=bY r
 obtain ⟨kvs,p1,p2⟩:=rK hq ry
 have hl:=Paired.length p2
 refine ⟨a,ys,kvs,rfl,.of h,p1,by omega,fun b hb=>q _ hk b _ hb ?_⟩
 exact iQ (acc:=[]) (m:=([],[])) p2 rfl rfl
end
end DL
namespace HT
open PySem PySem.Spec PyProof.Rows
open PySem.AutoSeq1
theorem tuple_addW0 (l b:Addr) (items vS:Array Value) (n n2:Nat) (dd yj:Option Addr) (sl yi:Array (Option Value)) (Dx:items.isEmpty=true) :
  Meets (Builtin.«tuple.__add__» ⟨[.ref l,.ref b],[]⟩) (fun _ R s=>s.heap.get? l=some ⟨.type "tuple",dd,.seq items n,sl⟩∧s.heap.get? b=some ⟨.type "tuple",yj,.seq vS n2,yi⟩∧R (.ok (.ret (.ref b))) s) :=
 .of_wp fun prog w A R s h=>by
  obtain ⟨hp,g,d,tk,os⟩:=s
  obtain ⟨hl,hb,h⟩:=h
  have f2:=PySem.AutoSeq1.sub_tuple_tuple
  wp_walk using wpAny_loadPart' hl,wpAny_loadPart' hb
  exact ⟨_,rfl,h⟩
section
variable {prog:Program} {w:World} {A:Around} {E:Value→Shared→Prop} {s:Shared}
theorem qt {t b:Addr} {ws:List Value} {Q:Value→Shared→Prop} (ht:IsTup s.heap t ([]:List Value).toArray) (hb:IsTup s.heap b ws.toArray) (h:Q (.ref b) s):wpAny (model prog w) A (binaryOp .Add (.ref t) (.ref b)) Q E s:=by
 obtain ⟨⟨cls,dd,data,sl⟩,ho,hc,n,hd⟩:=id ht
 obtain ⟨⟨cls2,yj,data2,yi⟩,ho2,hc2,n2,hd2⟩:=id hb
 simp only at hc hd hc2 hd2
 subst hc hd hc2 hd2
 exact concat_meets ⟨_,ho,rfl⟩ ⟨_,ho2,rfl⟩ noFill_tuple_add seq_tuple_add PySem.F.slot_tuple_add PySem.F.entry_tuple_add (PySem.F.args_tuple_add_2 _ _) (tuple_addW0 t b _ ws.toArray n n2 dd yj sl yi rfl) ⟨ho,ho2,h⟩
end
end HT
namespace L2
open PySem PySem.Spec PyProof.Rows
section
variable {X:Cx}
def uI (K:PySem.W.Frag):R2:=fun x y H Q=>∃ a b xs ys,x=.ref a∧y=.ref b∧dw K H a xs∧dw K H b ys∧xs.length+ys.length≤sizeLine∧(xs=[]→Q (.ref b) H)∧(xs≠[]→ys=[]→Q (.ref a) H)∧(xs≠[]→ys≠[]→∀ p,H p=none→Q (.ref p) (upd H p (.tup (xs++ys))))
theorem nF:fe X (binaryOp .Add) (uI X.K):=by
 intro pins s σ H x y v u Q I rx ry h
 obtain ⟨a,b,xs,ys,rfl,rfl,ha,hb,hz,q0,q1,q2⟩:=h
 by_cases hx:xs=[]
 ·cases rx
  cases ry
  obtain ⟨its,r1,p1,_⟩:=I.tuple ha
  obtain ⟨its2,r2,p2,_⟩:=I.tuple hb
  have e:its=[]:=r1.fX.mpr hx
  subst e
  exact HT.qt p1 p2 ⟨.ref b,H,I,rfl,q0 hx⟩
 ·exact uu pins s σ H _ _ v u Q I rx ry ⟨a,b,xs,ys,rfl,rfl,ha,hb,hx,hz,q1 hx,q2 hx⟩
end
end L2
namespace DL
open PySem PySem.Spec L2
section
variable {X:Cx} {c:Ent}
def z3:D→D→(D→Prop)→Prop:=fun a b k=>∃ xs ys,a=.tup xs∧b=.tup ys∧xs.length+ys.length≤sizeLine∧k (.tup (xs++ys))
theorem qX:jX X c (uI X.K) z3:=fun M s as σ H x y dx dy k Q L rx ry ⟨xs,ys,e1,e2,hl,hk⟩ kk=>by
 subst e1;subst e2
 obtain ⟨p,vs,rfl,t,r⟩:=rx
 obtain ⟨p',vs',rfl,t',r'⟩:=ry
 refine ⟨p,p',vs,vs',rfl,rfl,t.sq,t'.sq,by rw [r.length,r'.length];exact hl,fun z=>?_,fun _ z=>?_,fun _ z q hq=>?_⟩
 ·have:=r.length
  rw [z] at this
  have e:xs=[]:=List.eq_nil_of_length_eq_zero this.symm
  subst e
  rw [List.nil_append] at hk
  exact kk _ hk M H _ L .refl ⟨p',vs',rfl,t',r'⟩
 ·have:=r'.length
  rw [z] at this
  have e:ys=[]:=List.eq_nil_of_length_eq_zero this.symm
  subst e
  rw [List.append_nil] at hk
  exact kk _ hk M H _ L .refl ⟨p,vs,rfl,t,r⟩
 ·exact kk _ hk _ _ _ (L.fresh hq) (Ext.fresh hq) ⟨q,vs++vs',rfl,⟨.inr rfl,ah⟩,eS hq (r.append r')⟩
end
end DL
namespace DL
open PySem PySem.Spec L2
open PyProof.Rows hiding St
section
variable {K:PySem.W.Frag} {H:Hp} {M:Addr→Prop} {a:Addr}
end
section
variable {X:Cx} {c:Ent} {k:Nat} {f:Addr} {fd:FuncData} {ps:List Str} {t:List D→(D→Prop)→Prop} {x:Str} {p pos:Pos} {e ex:Expr} {te:bj}
end
end DL
namespace DL
open PySem PySem.Spec L2
theorem Nm.ok {x:Str} (h:Nm x):PyData.strOk x=true:=h.1.strOk
end DL
namespace DL
open PySem PySem.Spec L2
theorem iR {α β:Type} {nt:Nat} {us:List Nat} {g:jY} {te:bj} (h:α→D) (f:β→D) (Rl:α→β→Prop) {Q:List D→DS→Prop} {s:DS}:∀ (xs:List α) {acc:List D},(∀ x∈xs,∀ k:D→DS→Prop,(∀ (y:β) (s':DS),Rl x y→s'.os=s.os→k (f y) s')→g (h x) (dJ nt us s) fun s1=>te s1 k)→(∀ ys:List β,Paired Rl xs ys→Q (acc++ys.map f) s)→bE nt us g br te (xs.map h) acc s Q
 | [],acc,_,q=>by
  have:=q [] .nil
  rw [List.map_nil,List.append_nil] at this
  exact this
 | x::xs,acc,hx,q=>by
  have:=hx x List.mem_cons_self (fun y s3=>bE nt us g br te (xs.map h) (acc++[y]) ⟨s.sl,s3.os⟩ Q) fun y s' hy e=>by
   show bE nt us g br te (xs.map h) (acc++[f y]) ⟨s.sl,s'.os⟩ Q
   rw [e]
   refine iR h f Rl xs (fun z hz=>hx z (List.mem_cons_of_mem _ hz)) fun ys hp=>?_
   rw [List.append_assoc]
   exact q (y::ys) (.cons hy hp)
  rw [List.map_cons,bE]
  simpa [br] using this
theorem wA {α:Type} {f:α→D} {xs:List α} {r:Int} (h0:0≤r) (h1:r < xs.length):∃ x,xs[r.toNat]?=some x∧jU (xs.map f) r=some (f x):=by
 have hj:r.toNat < xs.length:=by omega
 refine ⟨xs[r.toNat],List.getElem?_eq_getElem hj,?_⟩
 have e:(r.toNat:Int)=r:=Int.toNat_of_nonneg h0
 have q:=jQ (xs:=xs.map f) (j:=r.toNat) (v:=f xs[r.toNat]) (by simp [hj])
 rw [e] at q
 exact q
theorem l8 {α:Type} {f:α→D} {xs:List α} {r:Int} (h0:0≤r) (h1:r < xs.length):∃ x,x∈xs∧jU (xs.map f) r=some (f x):=by
 obtain ⟨x,h,e⟩:=wA (f:=f) h0 h1
 exact ⟨x,List.mem_of_getElem? h,e⟩
end DL
namespace DL
open PySem PySem.Spec L2
end DL
namespace DL
open PySem PySem.Spec L2
end DL
namespace DL
open PySem PySem.Spec L2
end DL
namespace DL
open PySem PySem.Spec L2
end DL
namespace DL
end DL
namespace DL
open PySem L2
end DL
namespace DL
open PySem L2
end DL
namespace DL
open PySem L2
end DL
namespace DL
open PySem L2
end DL
namespace DL
open PySem L2
end DL
namespace DL
open PySem PySem.Spec L2
end DL
namespace DL
open PySem PySem.Spec L2
end DL
namespace DL
open PySem L2
end DL
namespace DL
open PySem L2
end DL
namespace DL
open PySem L2
end DL
namespace DL
open PySem L2
end DL
namespace DL
open PySem L2
end DL
namespace DL
open PySem PySem.Spec L2
open PyProof.Rows hiding St
def del (H:Hp) (r:Addr):Hp:=fun b=>if b=r then none else H b
theorem jF {H:Hp} {r b:Addr} (h:b≠r):del H r b=H b:=if_neg h
theorem gz {H:Hp} {r:Addr}:del H r r=none:=if_pos rfl
section
variable {K:PySem.W.Frag} {d l r:Addr} {M:Addr→Prop} {H:Hp}
end
section
variable {P:Program} {w:World} {K:PySem.W.Frag} {mg:Str→Option Value} {base:Heap} {d l r:Addr}
end
section
variable {X:Cx} {c:Ent} {st:Stmt} {e:Expr} {te:bj} {pos:Pos}
end
section
variable {K:PySem.W.Frag} {c:Ent} {M M':Addr→Prop} {s:DS} {as:List Addr} {σ:St} {H H':Hp} {d l r:Addr}
end
end DL
namespace DL
open PySem PySem.Spec L2
open PyProof.Rows hiding St
section
variable {X:Cx} {k:Nat} {f d l r:Addr} {M0:Addr→Prop} {H0:Hp} {fd:FuncData} {ps:List Str} {x:Str} {p pos:Pos} {e:Expr} {es:List Expr} {ta:dm}
end
end DL
namespace HT
open PySem PySem.Spec PyProof.Rows
open PySem.AutoSeq1
section
variable {prog:Program} {w:World} {A:Around} {E:Value→Shared→Prop} {s:Shared}
end
end HT
namespace L2
open PySem PySem.Spec PyProof.Rows
section
variable {X:Cx}
end
end L2
namespace DL
open PySem PySem.Spec L2
section
variable {X:Cx} {c:Ent}
theorem iY {nt:Nat} {us:List Nat} {g:jY} {te:bj} {sl:List Sl} {Q:List D→DS→Prop} (I:List D→List D→List (Option D)→Prop)
  (step:∀ x xs acc os,I (x::xs) acc os→∀ k:D→DS→Prop,(∀ (y:D) (s':DS),I xs (acc++[y]) s'.os→k y s')→g x (dJ nt us ⟨sl,os⟩) fun s1=>te s1 k)
  (fin:∀ acc os,I [] acc os→Q acc ⟨sl,os⟩):∀ (xs acc:List D) (os:List (Option D)),I xs acc os→bE nt us g br te xs acc ⟨sl,os⟩ Q
 | [],acc,os,h=>fin acc os h
 | x::xs,acc,os,h=>by
  rw [bE]
  exact step x xs acc os h (fun y s3=>bE nt us g br te xs (acc++[y]) ⟨sl,s3.os⟩ Q) fun y s' h'=>iY I step fin xs (acc++[y]) s'.os h'
end
end DL
namespace DL
open PySem L2
end DL
namespace DL
open PySem L2
end DL
namespace DL
open PySem L2
end DL
namespace L2
open PySem PySem.Spec PyProof.Rows
section
variable {X:Cx}
end
end L2
namespace DL
open PySem PySem.Spec L2
section
variable {X:Cx} {c:Ent}
end
end DL
namespace DL
open PySem L2
end DL
namespace DL
open PySem L2
end DL
namespace DL
open PySem L2
end DL
namespace DL
open PySem L2
end DL
namespace HT
open PySem PySem.Spec PyProof.Rows
open PySem.Builtin PySem.Builtin.Str
section
variable {prog:Program} {w:World} {A:Around} {E:Value→Shared→Prop} {s:Shared} {x y:Str} {t u:Tok} {Q:Value→Shared→Prop}
end
end HT
namespace L2
open PySem PySem.Spec PyProof.Rows
section
variable {X:Cx}
end
end L2
namespace DL
open PySem L2
end DL
namespace DL
open PySem L2
open PySem.Builtin.Str
end DL
namespace L2
open PySem PySem.Calls PyProof.Rows PyProof.V PySem.Spec
section
variable {X:Cx} {d:Addr} {kvs:List (Str×Value)}
def yH (X:Cx) (k:Nat) (f:Addr) (sp:Sp):Prop:=∃ fd ps,aw X.prog X.w X.K X.mg X.base bz k f fd ps sp∧PySem.W.keepIn X.K (.ref f)=true∧Binds X.K fd ps []
def w6 (X:Cx) (k:Nat) (tf:TE) (t:TA):TE:=fun σ H Q=>tf σ H fun v H1=>∃ f sp,v=.ref f∧yH X k f sp∧t σ H1 fun vs H2=>sp vs H2 Q E0
end
end L2
namespace fm
open PySem L2 DL
def top (i:Nat):Stmt:=PySem.Challenge.pw_sideturn_k31_values_read_by_names.main.body.getD i (.Pass ⟨0,0,0,0⟩)
abbrev b9:Stmt:=top 1
theorem bZ:aD ["value","of_number","of_thing","done","ahead","part","is_entered","inside"] ["value","of_number","of_thing"] (af b9):=⟨rfl,rfl,rfl,by decide +kernel,rfl,by decide +kernel,by decide +kernel⟩
abbrev aG:Stmt:=top 2
theorem fu:aD ["number"] ["number"] (af aG):=⟨rfl,rfl,rfl,by decide +kernel,rfl,by decide +kernel,by decide +kernel⟩
abbrev aE:Stmt:=top 4
theorem gk:aD ["names","name"] ["names","name"] (af aE):=⟨rfl,rfl,rfl,by decide +kernel,rfl,by decide +kernel,by decide +kernel⟩
abbrev aq:Stmt:=top 5
abbrev a9:Stmt:=top 6
theorem il:aD ["names","end"] ["names","end"] (af a9):=⟨rfl,rfl,rfl,by decide +kernel,rfl,by decide +kernel,by decide +kernel⟩
abbrev bQ:Stmt:=top 8
abbrev aN:Stmt:=top 9
abbrev az:Stmt:=top 10
theorem ay:aD ["_law_deal_here","_law_many","_law_letters","_law_core","_law_at","_law_turn","_law_found","_law_k","_law_own","_law_word","_law_near"] ["_law_deal_here","_law_many"] (af az):=⟨rfl,rfl,rfl,by decide +kernel,rfl,by decide +kernel,by decide +kernel⟩
abbrev bp:Stmt:=top 11
theorem kf:aD ["_law_names","_law_name_here"] ["_law_names","_law_name_here"] (af bp):=⟨rfl,rfl,rfl,by decide +kernel,rfl,by decide +kernel,by decide +kernel⟩
abbrev a7:Stmt:=top 12
theorem jk:aD ["_law_names","_law_value_here"] ["_law_names","_law_value_here"] (af a7):=⟨rfl,rfl,rfl,by decide +kernel,rfl,by decide +kernel,by decide +kernel⟩
abbrev cb:Stmt:=top 13
theorem lH:aD ["_law_names","_law_end_here"] ["_law_names","_law_end_here"] (af cb):=⟨rfl,rfl,rfl,by decide +kernel,rfl,by decide +kernel,by decide +kernel⟩
abbrev aF:Stmt:=top 14
theorem fO:aD ["_law_deal_here","_law_words_here","_law_places"] ["_law_deal_here","_law_words_here","_law_places"] (af aF):=⟨rfl,rfl,rfl,by decide +kernel,rfl,by decide +kernel,by decide +kernel⟩
abbrev aC:Stmt:=top 15
theorem aY:aD ["_law_deal_here","_law_words_here","_law_places","_law_room","_law_form","_law_name_here","_law_word","_law_many"] ["_law_deal_here","_law_words_here","_law_places","_law_room"] (af aC):=⟨rfl,rfl,rfl,by decide +kernel,rfl,by decide +kernel,by decide +kernel⟩
abbrev aU:Stmt:=top 16
theorem dH:aD ["_law_deal_here","_law_words_here","_law_places","_law_form"] ["_law_deal_here","_law_words_here","_law_places"] (af aU):=⟨rfl,rfl,rfl,by decide +kernel,rfl,by decide +kernel,by decide +kernel⟩
abbrev fb:Stmt:=top 17
theorem cn:aD ["_law_script","_law_deal_here","_law_words_here","_law_places","_law_names","_law_k","_law_place","_law_other","_law_turn","_law_value_here","_law_end_here","_law_told"] ["_law_script"] (af fb):=⟨rfl,rfl,rfl,by decide +kernel,rfl,by decide +kernel,by decide +kernel⟩
structure Txt (K:PySem.W.Frag) (mg:Str→Option Value):Prop where
 dict:mg "dict"=none
 enumerate:mg "enumerate"=none
 int:mg "int"=none
 A2:mg "isinstance"=none
 len:mg "len"=none
 list:mg "list"=none
 max:mg "max"=none
 range:mg "range"=none
 rev:mg "reversed"=none
 set:mg "set"=none
 sorted:mg "sorted"=none
 tuple:mg "tuple"=none
 str:mg "str"=none
 bool:mg "bool"=none
end fm
namespace fm
open PySem L2 DL
section
variable {P:Program} {w:World} {K:PySem.W.Frag} {mg:Str→Option Value} {base:Heap}
theorem cH {b b':Bool} {A B:Prop} (h:b=b') (q1:b'=true→A) (q2:b'=false→B):if b=true then A else B:=by
 subst h
 cases b with
 | true=>exact mm (q1 rfl)
 | false=>exact lI (q2 rfl)
theorem oD {ws:List Str}:(ws.map D.str).all d6=true:=by
 rw [List.all_map]
 exact List.all_eq_true.mpr fun _ _=>rfl
theorem sr {ws:List Str}:(ws.map D.str).map fv=ws.map V.str:=by
 rw [List.map_map]
 rfl
theorem sZ {zs:List Str} {r:Int} (h0:0≤r) (h1:r < zs.length):∃ z∈zs,jU (zs.map D.str) r=some (.str z):=by
 have hj:r.toNat < zs.length:=by omega
 refine ⟨zs[r.toNat],List.getElem_mem hj,?_⟩
 have e:(r.toNat:Int)=r:=Int.toNat_of_nonneg h0
 have q:=jQ (xs:=zs.map D.str) (j:=r.toNat) (v:=.str zs[r.toNat]) (by simp [hj])
 rw [e] at q
 exact q
theorem k8:∀ (ys:List D),(∀ y∈ys,∃ ch,(97≤ch∧ch≤122)∧y=D.str ⟨#[ch]⟩)→∃ cs:List Nat,ys=(cs.map fun c=>(⟨#[c]⟩:Str)).map D.str∧(∀ c∈cs,97≤c∧c≤122)∧cs.length=ys.length
 | [],_=>⟨[],rfl,fun _ h=>absurd h (by simp),rfl⟩
 | y::ys,h=>by
  obtain ⟨ch,hc,e⟩:=h y List.mem_cons_self
  obtain ⟨cs,e2,h2,h3⟩:=k8 ys fun z hz=>h z (List.mem_cons_of_mem _ hz)
  subst e
  refine ⟨ch::cs,by rw [e2];simp,fun c hm=>?_,by simp [h3]⟩
  rcases List.mem_cons.mp hm with rfl | hm
  ·exact hc
  ·exact h2 c hm
theorem qP {d l:Addr} {gX:Addr} {c7:FuncData} (fY:aw P w K mg base bz 1 gX c7 ["_law_deal_here","_law_many"] (cW K (bg d l) (iU d))) (eh:cq K "_law_draw" "_law_draw" aN gX c7) (eM:mg "_law_draw"=some (.ref gX)) (eN:Binds K c7 ["_law_deal_here","_law_many"] []) {f:Addr} {fd:FuncData} (F:cq K "_law_words" "_law_words" az f fd) (T:Txt K mg):aw P w K mg base bz 2 f fd ["_law_deal_here","_law_many"] (cW K (bg d l) (qL d)):=by
 refine r9 (nos:=1) F ay (fun ds R h=>?_) fun bW A outer s H E M hr=>?_
 ·obtain ⟨m,rfl,_⟩:=h
  rfl
 have hb:ao az=zc (ao az) 6 (pX ((ao az).getD 6 ow)):=rfl
 have ha:jP (pX ((ao az).getD 6 ow))=true:=rfl
 have hz:mR (pX ((ao az).getD 6 ow))=aR.near:=rfl
 have hl3:(pX ((ao az).getD 6 ow)).length=aR.near.length:=rfl
 generalize pX ((ao az).getD 6 ow)=es at hb ha hz hl3
 have hn:(es.length≤1000:Bool)=true:=by rw [hl3];decide
 rw [hb]
 refine ⟨_,(aj (bT (aB (i:=2) ay.nd rfl (Or.inr rfl) (DE.pe aI)))
 (aj (bT (aB (i:=3) ay.nd rfl (Or.inl rfl) (DE.pe (wO aI (aa (DN.de (c9 (ts:=["_law_k"]) (us:=[2,0]) ⟨rfl,rfl,rfl,rfl,rfl,rfl⟩ rfl (dB rfl T.range (aa (aO (hr.mono (by first | decide | omega)) rfl eM eh.kp eN (aa (dv (pv 0)) (aa av ae)) fY) ae)) (fun _ _ _ _=>(bD (aK (i:=0) (show List.Nodup (["_law_k","_law_letters","_law_deal_here"]:List Str) by decide +kernel) rfl (Or.inl rfl)) (by decide))) (fun _ _ _ _=>c5)
 (fun _ _ _ _=>(cF lZ qw (dv (pv 1)) (aO (hr.mono (by first | decide | omega)) rfl eM eh.kp eN (aa (dv (pv 2)) (aa av ae)) fY) (fun _ _=>rfl))))) ae)))))
 (aj (bT (aB (i:=4) ay.nd rfl (Or.inl rfl) (DE.pe (aO (hr.mono (by first | decide | omega)) rfl eM eh.kp eN (aa (dv (pv 0)) (aa (cL c8 qb (cM jC wZ rfl T.len PySem.boot_len (aa (dv (pv 3)) ae)) av) ae)) fY))))
 (aj (bT (aB (i:=5) ay.nd rfl (Or.inl rfl) (DE.pe (aO (hr.mono (by first | decide | omega)) rfl eM eh.kp eN (aa (dv (pv 0)) (aa av ae)) fY))))
 (aj (jq (k:=0) (aB (i:=6) ay.nd rfl (Or.inl rfl) (DN.pe (iq ae))))
 (aj (mU (n:=1000) PassesOwn.never rfl (dB rfl T.range (aa (dv (pv 1)) ae)) (bD (aK (i:=7) ay.nd rfl (Or.inl rfl)) (by decide))
 (aj (bT (aB (i:=8) ay.nd rfl (Or.inl rfl) (DE.pe (cF lZ qw (dv (pv 2)) (cL cS zi (cL c8 qb (dv (pv 5)) (cL eJ zi av (dv (pv 7)))) av) (fun _ _=>rfl)))))
 (aj (bT (aB (i:=9) ay.nd rfl (Or.inl rfl) (DE.pe (cL bx dD (cL bx dD (cL bx dD (cL bx dD (gD (dv (pv 3)) g6 (gr (dv (pv 4)))) (dv (pv 8))) (gD (dv (pv 3)) (gr (dv (pv 4))) g6)) (cL gm rE aI (cL cS zi (dv (pv 7)) av))) (cL gm rE aI (cL gh zi (dv (pv 7)) av))))))
 (aj (dk (bC iV okIn (dv (pv 9)) (bV (aa aI (aa aI (aa aI (aa aI (aa aI (aa aI (aa aI ae)))))))) rfl)
 (au (bT (aB (i:=9) ay.nd rfl (Or.inl rfl) (DE.pe (cL bx dD (dv (pv 9)) aI)))))
 bB)
 (aj (dk (bC iV okIn (dv (pv 9)) (bV (aa aI (aa aI (aa aI (aa aI (aa aI (aa aI ae))))))) rfl)
 (au (bT (aB (i:=9) ay.nd rfl (Or.inl rfl) (DE.pe (cL bx dD (dv (pv 9)) aI)))))
 bB)
 (au (gM (p9 PySem.F.slot_list_append PySem.F.type_list_append cY mW (pv 6) (aa (dv (pv 9)) ae)))))))))
 (aj (bT (aB (i:=10) ay.nd rfl (Or.inl rfl) (DE.pe (DN.de (iq (tm ha hz hl3) hn)))))
 (aj (bT (aB (i:=9) ay.nd rfl (Or.inl rfl) (DE.pe (cF dR i7 (dv (pv 10)) (aO (hr.mono (by first | decide | omega)) rfl eM eh.kp eN (aa (dv (pv 0)) (aa av ae)) fY) (fun _ _=>rfl)))))
 (aj (dk (DW.dt (wD (bC d5 jL (aO (hr.mono (by first | decide | omega)) rfl eM eh.kp eN (aa (dv (pv 0)) (aa av ae)) fY) av (bf _)) (sy (wF jw (dv (pv 9)) (pv 6) rfl))))
 (au (sP (pY (DE.pe (dv (pv 9))) (wz (pv 6) (DE.pe (aO (hr.mono (by first | decide | omega)) rfl eM eh.kp eN (aa (dv (pv 0)) (aa (dv (pv 1)) ae)) fY)) set_list))))
 bB)
 (au (a6 (FZ (pv 6))))))))))))),fun ds R h=>?_⟩
 ·obtain ⟨m,rfl,⟨hm0,hm1⟩,q⟩:=h
  repeat (first | refine fF (by decide +kernel) ?_ | refine oW (by decide +kernel) ?_ | refine ⟨_,rfl,?_⟩ | refine ⟨_,_,_,rfl,rfl,rfl,?_⟩ | refine ⟨_,_,_,rfl,rfl,kD,?_⟩ | refine ⟨_,_,rfl,rfl,?_⟩ | refine ⟨⟨rfl,rfl,rfl⟩,?_⟩ | refine ⟨_,.inr rfl,⟨rfl,rfl⟩,?_⟩ | refine ⟨_,.inl rfl,⟨rfl,rfl⟩,?_⟩ | refine ⟨_,.inr rfl,?_⟩ | refine ⟨_,.inl rfl,?_⟩ | refine ⟨_,_,rfl,rfl,rfl,?_⟩ | refine .inl ⟨_,rfl,?_⟩ | refine .inr ⟨_,_,rfl,rfl,?_⟩ | refine ⟨_,_,_,rfl,rfl,?_⟩ | refine ⟨⟨rfl,rfl⟩,?_⟩)
  refine ⟨⟨by decide,by decide⟩,fun r r0 r1=>?_⟩
  refine ⟨r,rfl,⟨by omega,by omega⟩,?_⟩
  refine cC (fun y=>∃ ch,(97≤ch∧ch≤122)∧y=D.str ⟨#[ch]⟩) _ (fun x hx k hk=>?_) fun ys hyl hyp=>?_
  ·refine ⟨_,rfl,_,rfl,_,rfl,⟨by decide,by decide⟩,fun a a0 a1=>?_⟩
   exact ⟨_,_,_,rfl,rfl,by decide +kernel,mK a0 a1,hk _ _ ⟨_,⟨by omega,by omega⟩,rfl⟩ rfl⟩
  obtain ⟨cs,e1,hcs,xn⟩:=k8 ys hyp
  subst e1
  have hcl':cs.length≤4:=by
   have:(bM 0 r.toNat).length=r.toNat:=by simp [bM]
   rw [xn,hyl,this]
   omega
  refine ⟨cs.map fun c=>(⟨#[c]⟩:Str),rfl,?_,?_⟩
  ·rw [aR.k4,List.length_map]
   show cs.length+cs.length * 0≤16777216
   omega
  have hcore:(Txt.join ("":Str) (cs.map fun c=>(⟨#[c]⟩:Str))).length≤4:=by
   have:=aR.join_ones cs
   omega
  have hlw:Lw (Txt.join ("":Str) (cs.map fun c=>(⟨#[c]⟩:Str))):=fun c hc=>by
   rw [kK] at hc
   exact hcs c hc
  generalize Txt.join ("":Str) (cs.map fun c=>(⟨#[c]⟩:Str))=core at hcore hlw
  have hsz:(1000:Nat)≤sizeLine:=by decide
  refine ⟨_,rfl,_,rfl,_,rfl,by omega,_,_,rfl,rfl,_,rfl,⟨by omega,by omega⟩,fun at_' a0 a1=>?_⟩
  refine ⟨_,rfl,_,rfl,⟨by decide,by decide⟩,fun tn t0 t1=>?_⟩
  refine ⟨⟨rfl,rfl⟩,_,rfl,m,rfl,⟨by omega,by omega⟩,?_⟩
  have h2s:=oF (x:=core) (i:=at_') a0 (by omega)
  have hL1:=hlw.slice none (some at_')
  have hL2:=hlw.slice (some at_') none
  generalize oh:Txt.slice core none (some at_')=pre at h2s hL1
  generalize hpost:Txt.slice core (some at_') none=post at h2s hL2
  refine cV (fun xs s=>∃ (ws:List Str) (a b e:Sl),(∀ (i:Nat) (x:D),xs[i]?=some x→x=D.int ((ws.length+i:Nat):Int))∧ws.length+xs.length=m.toNat∧kT pre.cps.toList post.cps.toList tn.toNat ws∧s=⟨[.dat (.eK d),.dat (.int m),.dat (.str aR.Av),.dat (.str core),.dat (.int at_'),.dat (.int tn),.own 0,a,b,e,.no],[some (.lst (ws.map D.str))]⟩) ?_ ?_ _ _ ⟨[],.no,.no,.no,?_,?_,fun _ _ h=>absurd h (by simp),rfl⟩
  ·rintro s ⟨ws,a,b,e,h1,h2,h3,rfl⟩
   replace h2:ws.length=m.toNat:=h2
   repeat (first | refine fF (by decide +kernel) ?_ | refine oW (by decide +kernel) ?_ | refine ⟨_,rfl,?_⟩ | refine ⟨_,_,_,rfl,rfl,rfl,?_⟩ | refine ⟨_,_,_,rfl,rfl,kD,?_⟩ | refine ⟨_,_,rfl,rfl,?_⟩ | refine ⟨⟨rfl,rfl,rfl⟩,?_⟩ | refine ⟨_,.inr rfl,⟨rfl,rfl⟩,?_⟩ | refine ⟨_,.inl rfl,⟨rfl,rfl⟩,?_⟩ | refine ⟨_,.inr rfl,?_⟩ | refine ⟨_,.inl rfl,?_⟩ | refine ⟨_,_,rfl,rfl,rfl,?_⟩ | refine .inl ⟨_,rfl,?_⟩ | refine .inr ⟨_,_,rfl,rfl,?_⟩ | refine ⟨_,_,_,rfl,rfl,?_⟩ | refine ⟨⟨rfl,rfl⟩,?_⟩)
   refine ⟨⟨by decide,by decide⟩,fun r r0 r1=>?_⟩
   obtain ⟨z,hz2,ez⟩:=sZ (zs:=aR.near) r0 r1
   have hzw:=sH z hz2
   refine ⟨_,_,_,rfl,rfl,ez,?_⟩
   refine ⟨_,rfl,_,rfl,⟨by decide,by decide⟩,fun r2 r20 r21=>?_⟩
   refine ⟨⟨rfl,rfl,rfl⟩,_,rfl,?_⟩
   refine cH rfl (fun _=>?_) fun _=>?_
   ·refine ⟨_,rfl,0,_,rfl,rfl,⟨rfl,oD⟩,_,rfl,?_⟩
    refine cH rfl (fun hni=>?_) fun _=>?_
    ·refine ⟨_,rfl,0,rfl,_,rfl,_,rfl,_,rfl,⟨by omega,by omega⟩,fun r3 r30 r31=>?_⟩
     have hj:p5 (ws.map D.str).length r3=some r3.toNat:=by
      rw [List.length_map]
      unfold p5
      rw [if_pos (by omega),if_pos (by omega)]
     refine ⟨_,_,_,rfl,rfl,hj,?_⟩
     refine .inr ⟨0,_,rfl,rfl,?_⟩
     show R (.lst ((ws.map D.str).set r3.toNat (.str z)))
     rw [← List.map_set]
     have hnz:z∉ws:=fun hm=>by
      replace hni:(!oS (.str z) ((ws.map D.str).map fv))=true:=hni
      rw [sr,cB,decide_eq_true hm] at hni
      cases hni
     refine q _ (by simpa using h2) (iC _ h3.nodup hnz) fun y hy=>?_
     rcases List.mem_or_eq_of_mem_set hy with hy | rfl
     ·exact h3.nm y hy
     ·exact hzw
    ·exact .inr ⟨0,_,rfl,rfl,q ws h2 h3.nodup h3.nm⟩
   ·exact .inr ⟨0,_,rfl,rfl,q ws h2 h3.nodup h3.nm⟩
  ·rintro x xs s N ⟨ws,a,b,e,h1,h2,h3,rfl⟩ hN
   have hx:=h1 0 x rfl
   subst hx
   replace h2:ws.length+(xs.length+1)=m.toNat:=h2
   have hk:ws.length < 60:=by omega
   repeat (first | refine fF (by decide +kernel) ?_ | refine oW (by decide +kernel) ?_ | refine ⟨_,rfl,?_⟩ | refine ⟨_,_,_,rfl,rfl,rfl,?_⟩ | refine ⟨_,_,_,rfl,rfl,kD,?_⟩ | refine ⟨_,_,rfl,rfl,?_⟩ | refine ⟨⟨rfl,rfl,rfl⟩,?_⟩ | refine ⟨_,.inr rfl,⟨rfl,rfl⟩,?_⟩ | refine ⟨_,.inl rfl,⟨rfl,rfl⟩,?_⟩ | refine ⟨_,.inr rfl,?_⟩ | refine ⟨_,.inl rfl,?_⟩ | refine ⟨_,_,rfl,rfl,rfl,?_⟩ | refine .inl ⟨_,rfl,?_⟩ | refine .inr ⟨_,_,rfl,rfl,?_⟩ | refine ⟨_,_,_,rfl,rfl,?_⟩ | refine ⟨⟨rfl,rfl⟩,?_⟩)
   refine ⟨.inl ⟨by decide,by decide⟩,?_⟩
   refine ⟨_,_,rfl,rfl,?_⟩
   refine ⟨_,_,rfl,rfl,(show (0:Int) < 26 by decide),?_⟩
   have ea:=mK (r:=(tn+7 * ((ws.length+0:Nat):Int)) % 26) (Int.emod_nonneg _ (by decide)) (Int.emod_lt_of_pos _ (by decide))
   refine ⟨_,_,_,rfl,rfl,by decide +kernel,ea,?_⟩
   rw [show ((tn+7 * ((ws.length+0:Nat):Int)) % 26).toNat=(tn.toNat+7 * ws.length) % 26 by omega]
   have mQ:97≤97+(tn.toNat+7 * ws.length) % 26∧97+(tn.toNat+7 * ws.length) % 26≤122:=⟨by omega,by omega⟩
   obtain ⟨mx,ox⟩:=mN (c:=120) (n:=((ws.length+0:Nat):Int) % 2) (Int.emod_nonneg _ (by decide)) (by omega)
   obtain ⟨my,oy⟩:=mN (c:=121) (n:=((ws.length+0:Nat):Int) / 26) (by omega) (by omega)
   rw [show (((ws.length+0:Nat):Int) % 2).toNat=ws.length % 2 by omega] at mx
   rw [show (((ws.length+0:Nat):Int) / 26).toNat=ws.length / 26 by omega] at my
   generalize hmx:Txt.mul (⟨#[120]⟩:Str) (((ws.length+0:Nat):Int) % 2)=tx at mx
   generalize hmy:Txt.mul (⟨#[121]⟩:Str) (((ws.length+0:Nat):Int) / 26)=ty at my
   have lx:tx.length=ws.length % 2:=by rw [show tx.length=tx.cps.toList.length by simp [Str.length],mx,List.length_replicate]
   have ly:ty.length=ws.length / 26:=by rw [show ty.length=ty.cps.toList.length by simp [Str.length],my,List.length_replicate]
   have wx:Lw tx:=fun c hc=>by rw [mx] at hc;have:=List.eq_of_mem_replicate hc;omega
   have wy:Lw ty:=fun c hc=>by rw [my] at hc;have:=List.eq_of_mem_replicate hc;omega
   have hL:Lw (pre++(⟨#[97+(tn.toNat+7 * ws.length) % 26]⟩:Str)++post++tx++ty) :=
    (((hL1.app (fun c hc'=>by simp at hc';subst hc';exact mQ)).app hL2).app wx).app wy
   have hl1:(pre++(⟨#[97+(tn.toNat+7 * ws.length) % 26]⟩:Str)++post++tx++ty).length≤8∧1≤(pre++(⟨#[97+(tn.toNat+7 * ws.length) % 26]⟩:Str)++post++tx++ty).length:=by
    rw [aR.aW,aR.aW,aR.aW,aR.aW,aR.dY]
    omega
   have hcp:(pre++(⟨#[97+(tn.toNat+7 * ws.length) % 26]⟩:Str)++post++tx++ty).cps.toList=wl pre.cps.toList post.cps.toList tn.toNat ws.length 0:=by
    rw [eY,eY,eY,eY,mx,my]
    simp [wl]
   refine ⟨_,rfl,_,rfl,_,rfl,_,rfl,by omega,?_⟩
   rw [oh]
   refine ⟨_,rfl,_,_,rfl,rfl,by rw [aR.dY];omega,?_⟩
   refine ⟨_,rfl,_,rfl,_,rfl,_,rfl,by omega,?_⟩
   rw [hpost]
   refine ⟨_,_,rfl,rfl,by rw [aR.aW,aR.dY];omega,?_⟩
   refine ⟨_,rfl,_,_,rfl,rfl,(show (0:Int) < 2 by decide),?_⟩
   refine ⟨_,_,rfl,rfl,ox,?_⟩
   rw [show Txt.mul (Str.ofString "x") (((ws.length+0:Nat):Int) % 2)=tx from hmx]
   refine ⟨_,_,rfl,rfl,by rw [aR.aW,aR.aW,aR.dY];omega,?_⟩
   refine ⟨_,rfl,_,_,rfl,rfl,⟨by decide,by decide⟩,?_⟩
   refine ⟨_,_,rfl,rfl,oy,?_⟩
   rw [show Txt.mul (Str.ofString "y") (((ws.length+0:Nat):Int) / 26)=ty from hmy]
   refine ⟨_,_,rfl,rfl,by rw [aR.aW,aR.aW,aR.aW,aR.dY];omega,?_⟩
   generalize pre++(⟨#[97+(tn.toNat+7 * ws.length) % 26]⟩:Str)++post++tx++ty=wd at hL hl1 hcp
   have hLq:Lw ("q":Str):=by decide +kernel
   have hq1:("q":Str).length=1:=rfl
   have hcq:(wd++("q":Str)).cps.toList=wl pre.cps.toList post.cps.toList tn.toNat ws.length 1:=by
    rw [eY,hcp]
    simp [wl]
    rfl
   have fin:∀ (u:Str) (a b:Sl) (e:Nat),Nm u→u.cps.toList=wl pre.cps.toList post.cps.toList tn.toNat ws.length e→N ⟨[.dat (.eK d),.dat (.int m),.dat (.str aR.Av),.dat (.str core),.dat (.int at_'),.dat (.int tn),.own 0,a,b,.dat (.str u),.no],[some (.lst (ws.map D.str++[D.str u]))]⟩:=fun u a b e hu he=>by
    refine hN _ ⟨ws++[u],a,b,.dat (.str u),fun i z hz=>?_,?_,h3.snoc hu he,by simp⟩
    ·have:=h1 (i+1) z hz
     rw [this]
     simp
     omega
    ·rw [List.length_append]
     simp
     omega
   have rW:(ws.map D.str).length < sizeLine:=by
    rw [List.length_map]
    omega
   refine ⟨_,rfl,?_⟩
   refine ⟨_,.inr rfl,⟨rfl,rfl⟩,_,rfl,?_⟩
   refine cH (b':=oS (.str wd) (lh.map V.str)) rfl (fun c1=>?_) fun c1=>?_
   ·rw [cB] at c1
    have c1:=sQ wd (of_decide_eq_true c1)
    refine ⟨_,rfl,_,_,rfl,rfl,by omega,?_⟩
    refine ⟨_,rfl,?_⟩
    refine ⟨_,.inr rfl,⟨rfl,rfl⟩,_,rfl,?_⟩
    refine cH (b':=oS (.str (wd++("q":Str))) (iN.map V.str)) rfl (fun c2=>?_) fun c2=>?_
    ·rw [cB] at c2
     exact absurd (of_decide_eq_true c2) c1.2.1
    ·have nm:Nm (wd++("q":Str)):=⟨hL.app hLq,by rw [aR.aW];omega,by rw [aR.aW];omega,c1.1,c1.2.1⟩
     exact ⟨0,_,rfl,rfl,rfl,_,rfl,_,rfl,_,_,rfl,rfl,rW,fin _ _ _ 1 nm hcq⟩
   ·rw [cB] at c1
    have c1:=of_decide_eq_false c1
    refine ⟨_,rfl,?_⟩
    refine ⟨_,.inr rfl,⟨rfl,rfl⟩,_,rfl,?_⟩
    refine cH (b':=oS (.str wd) (iN.map V.str)) rfl (fun c2=>?_) fun c2=>?_
    ·rw [cB] at c2
     have c2:=tD wd (of_decide_eq_true c2)
     have nm:Nm (wd++("q":Str)):=⟨hL.app hLq,by rw [aR.aW];omega,by rw [aR.aW];omega,c2.1,c2.2.1⟩
     refine ⟨_,rfl,_,_,rfl,rfl,by omega,?_⟩
     exact ⟨0,_,rfl,rfl,rfl,_,rfl,_,rfl,_,_,rfl,rfl,rW,fin _ _ _ 1 nm hcq⟩
    ·rw [cB] at c2
     exact ⟨0,_,rfl,rfl,rfl,_,rfl,_,rfl,_,_,rfl,rfl,rW,fin _ _ _ 0 ⟨hL,hl1.2,hl1.1,c1,of_decide_eq_false c2⟩ hcp⟩
  ·intro i x hx
   unfold bM at hx
   rw [List.getElem?_map] at hx
   obtain ⟨j,hj,rfl⟩:=Option.map_eq_some_iff.mp hx
   obtain ⟨_,e⟩:=List.getElem?_eq_some_iff.mp hj
   simp at e
   subst e
   simp
  ·simp [bM]
end
end fm
namespace fm
open PySem L2 DL
section
variable {P:Program} {w:World} {K:PySem.W.Frag} {mg:Str→Option Value} {base:Heap}
def me (ws:List Str) (ps:List (Int×Int)) (d:D):Prop:=(∃ x∈ws,d=.str x)∨∃ p∈ps,d=.tup [.int p.1,.int p.2]
def mI (p:Int×Int):D:=.tup [.int p.1,.int p.2]
def Fn (d:Addr):List D→(D→Prop)→Prop:=fun ds R=>∃ (ws:List Str) (ps:List (Int×Int)),ds=[.eK d,.lst (ws.map .str),.lst (ps.map mI)]∧(0 < ws.length∧ws.length≤60∧0 < ps.length∧ps.length≤60)∧∀ x,me ws ps x→R x
theorem yE {d l:Addr} {gX:Addr} {c7:FuncData} (fY:aw P w K mg base bz 1 gX c7 ["_law_deal_here","_law_many"] (cW K (bg d l) (iU d))) (eh:cq K "_law_draw" "_law_draw" aN gX c7) (eM:mg "_law_draw"=some (.ref gX)) (eN:Binds K c7 ["_law_deal_here","_law_many"] []) {f:Addr} {fd:FuncData} (F:cq K "_law_any_name" "_law_any_name" aF f fd) (T:Txt K mg):aw P w K mg base bz 2 f fd ["_law_deal_here","_law_words_here","_law_places"] (cW K (bg d l) (Fn d)):=by
 refine r9 (nos:=0) F fO (fun ds R h=>?_) fun bW A outer s H E M hr=>⟨_,(aj (dk (bC d5 jL (aO (hr.mono (by first | decide | omega)) rfl eM eh.kp eN (aa (dv (pv 0)) (aa av ae)) fY) av (bf _))
 (au (a6 (cF dR i7 (dv (pv 1)) (aO (hr.mono (by first | decide | omega)) rfl eM eh.kp eN (aa (dv (pv 0)) (aa (cM cx pV rfl T.len PySem.boot_len (aa (dv (pv 1)) ae)) ae)) fY) (fun _ _=>rfl))))
 bB)
 (au (a6 (cF dR i7 (dv (pv 2)) (aO (hr.mono (by first | decide | omega)) rfl eM eh.kp eN (aa (dv (pv 0)) (aa (cM cx pV rfl T.len PySem.boot_len (aa (dv (pv 2)) ae)) ae)) fY) (fun _ _=>rfl))))),fun ds R h=>?_⟩
 ·obtain ⟨ws,ps,rfl,_⟩:=h
  rfl
 ·obtain ⟨ws,ps,rfl,⟨h0,h1,h2,h3⟩,q⟩:=h
  refine ⟨_,rfl,_,rfl,⟨by decide,by decide⟩,fun a a0 a1=>?_⟩
  refine ⟨⟨rfl,rfl,rfl⟩,_,rfl,?_⟩
  refine cH rfl (fun _=>?_) fun _=>?_
  ·refine ⟨_,rfl,_,rfl,_,rfl,_,.inl rfl,_,rfl,⟨by rw [List.length_map];omega,by rw [List.length_map];omega⟩,fun r r0 r1=>?_⟩
   rw [List.length_map] at r1
   obtain ⟨x,hx,ex⟩:=l8 (f:=D.str) (xs:=ws) r0 r1
   exact ⟨_,_,_,rfl,rfl,ex,q _ (.inl ⟨x,hx,rfl⟩)⟩
  ·refine ⟨_,rfl,_,rfl,_,rfl,_,.inl rfl,_,rfl,⟨by rw [List.length_map];omega,by rw [List.length_map];omega⟩,fun r r0 r1=>?_⟩
   rw [List.length_map] at r1
   obtain ⟨x,hx,ex⟩:=l8 (f:=mI) (xs:=ps) r0 r1
   exact ⟨_,_,_,rfl,rfl,ex,q _ (.inr ⟨x,hx,rfl⟩)⟩
end
end fm
namespace DL
open PySem L2
section
variable {X:Cx} {c:Ent}
def AF (i j:Nat) (ta:dm):ff:=fun R s=>ta s fun ds s1=>∃ x y,ds=[x,y]∧R.nx ((s1.set i (.dat x)).set j (.dat y))
theorem vb {i j:Nat} {st:Stmt} {ta:dm} (h:PS X st (AD i j (tA X.K c 2 ta))):ot X c st (AF i j ta):=⟨h.imp fun E σ H ⟨M,s,as,R,L,q,k⟩ =>
 ⟨M,s,as,_,L,q,fun ds s1 ⟨x,y,e,r⟩ M' H' vs L' E' rv hl=>by
  subst e
  obtain ⟨v,us,rfl,r1,r2⟩:=rv
  obtain ⟨w,rfl,r3⟩:=bY r2
  exact ⟨v,w,rfl,k.nx _ as M' _ H' r ((L'.ux i r1).ux j r3) (E'.grow L)⟩⟩⟩
end
end DL
namespace fm
open PySem L2 DL
section
variable {P:Program} {w:World} {K:PySem.W.Frag} {mg:Str→Option Value} {base:Heap}
inductive Vl where
 | num (i:Int) | h8 (w:Str) (n:D) (ks:List Vl)
mutual
def vD:Vl→D
 | .num i=>.int i
 | .h8 w n ks=>.tup [.str w,n,.tup (yx ks)]
def yx:List Vl→List D
 | []=>[]
 | v::vs=>vD v::yx vs
end
mutual
def Vl.sz:Vl→Nat
 | .num _=>1
 | .h8 _ _ ks=>1+bR ks
def bR:List Vl→Nat
 | []=>0
 | v::vs=>v.sz+bR vs
end
mutual
def Vl.ok (ws:List Str) (ps:List (Int×Int)):Vl→Prop
 | .num i=>0≤i∧i < 1000000
 | .h8 w n ks=>((w="asked"∧me ws ps n)∨(w="made"∧∃ x∈ws,n=.str x))∧ks.length≤3∧lT ws ps ks
def lT (ws:List Str) (ps:List (Int×Int)):List Vl→Prop
 | []=>True
 | v::vs=>v.ok ws ps∧lT ws ps vs
end
theorem gd:∀ vs:List Vl,yx vs=vs.map vD
 | []=>rfl
 | v::vs=>by rw [yx,gd vs];rfl
theorem rC {ws:List Str} {ps:List (Int×Int)} {B:Nat}:∀ (ys:List D),(∀ y∈ys,∃ v:Vl,y=vD v∧v.ok ws ps∧v.sz≤B)→∃ ks:List Vl,ys=yx ks∧ks.length=ys.length∧lT ws ps ks∧bR ks≤B * ys.length
 | [],_=>⟨[],rfl,rfl,trivial,Nat.zero_le _⟩
 | y::ys,h=>by
  obtain ⟨v,rfl,h1,h2⟩:=h y List.mem_cons_self
  obtain ⟨ks,rfl,h3,h4,h5⟩:=rC ys fun z hz=>h z (List.mem_cons_of_mem _ hz)
  refine ⟨v::ks,rfl,by rw [List.length_cons,List.length_cons,h3],⟨h1,h4⟩,?_⟩
  show v.sz+bR ks≤_
  rw [List.length_cons,Nat.mul_succ]
  omega
def Fh (d:Addr):Nat→List D→(D→Prop)→Prop
 | 0=>fun _ _=>False
 | n+1=>fun ds R=>∃ (ws:List Str) (ps:List (Int×Int)) (room:Int),ds=[.eK d,.lst (ws.map .str),.lst (ps.map mI),.int room]∧(0 < ws.length∧ws.length≤60∧0 < ps.length∧ps.length≤60∧0≤room∧room≤n)∧∀ v:Vl,v.ok ws ps→(v.sz:Int)≤4 * room+1→R (vD v)
theorem vd {d l:Addr} {gX:Addr} {c7:FuncData} (fY:aw P w K mg base bz 1 gX c7 ["_law_deal_here","_law_many"] (cW K (bg d l) (iU d))) (eh:cq K "_law_draw" "_law_draw" aN gX c7) (eM:mg "_law_draw"=some (.ref gX)) (eN:Binds K c7 ["_law_deal_here","_law_many"] []) {p6:Addr} {lK:FuncData} (yo:aw P w K mg base bz 2 p6 lK ["_law_deal_here","_law_words_here","_law_places"] (cW K (bg d l) (Fn d))) (rJ:cq K "_law_any_name" "_law_any_name" aF p6 lK) (tY:mg "_law_any_name"=some (.ref p6)) (tj:Binds K lK ["_law_deal_here","_law_words_here","_law_places"] []) {l7:Addr} {gJ:FuncData} (oR:cq K "_law_any_value" "_law_any_value" aC l7 gJ) (rS:mg "_law_any_value"=some (.ref l7)) (rX:Binds K gJ ["_law_deal_here","_law_words_here","_law_places","_law_room"] []) (T:Txt K mg):∀ n:Nat,aw P w K mg base bz (n+3) l7 gJ ["_law_deal_here","_law_words_here","_law_places","_law_room"] (cW K (bg d l) (Fh d n))
 | 0=>j8
 | n+1=>by
  have Ab:=vd fY eh eM eN yo rJ tY tj oR rS rX T n
  refine r9 (nos:=0) oR aY (fun ds R h=>?_) fun bW A outer s H E M hr=>⟨_,(aj (bT (aB (i:=4) aY.nd rfl (Or.inl rfl) (DE.pe (aO (hr.mono (by first | decide | omega)) rfl eM eh.kp eN (aa (dv (pv 0)) (aa av ae)) fY))))
 (aj (dk (bC d5 jL (dv (pv 4)) av (bf _))
 (au (a6 (aO (hr.mono (by first | decide | omega)) rfl eM eh.kp eN (aa (dv (pv 0)) (aa av ae)) fY)))
 bB)
 (aj (dk (bC y3 As (dv (pv 4)) av (bf _))
 (au (vb (rD (i:=5) (j:=6) rfl aY.nd rfl rfl (by decide) rfl rfl (DA.pa (aa (aO (hr.mono (by first | decide | omega)) rfl tY rJ.kp tj (aa (dv (pv 0)) (aa (dv (pv 1)) (aa (dv (pv 2)) ae))) yo) (aa aI ae))) rfl)))
 (au (vb (rD (i:=5) (j:=6) rfl aY.nd rfl rfl (by decide) rfl rfl (DA.pa (aa (cF dR i7 (dv (pv 1)) (aO (hr.mono (by first | decide | omega)) rfl eM eh.kp eN (aa (dv (pv 0)) (aa (cM cx pV rfl T.len PySem.boot_len (aa (dv (pv 1)) ae)) ae)) fY) (fun _ _=>rfl)) (aa aI ae))) rfl))))
 (aj (bT (aB (i:=7) aY.nd rfl (Or.inr rfl) (DE.pe (aO (hr.mono (by first | decide | omega)) rfl eM eh.kp eN (aa (dv (pv 0)) (aa (cF dR i7 (DN.de (iq (aa av (aa av ae)))) (cT oq v7 rfl T.int (by decide +kernel) (aa (zk o8 As (dv (pv 3)) av (bf _)) ae)) (fun _ _=>rfl)) ae)) fY))))
 (au (a6 (bV (aa (dv (pv 6)) (aa (dv (pv 5)) (aa (cT bG k9 rfl T.tuple (by decide +kernel) (aa (DN.de (c9 (ts:=["_law_k"]) (us:=[0,1,2,3,7]) ⟨rfl,rfl,rfl,rfl,rfl,rfl⟩ rfl (dB rfl T.range (aa (dv (pv 7)) ae)) (fun _ _ _ _=>(bD (aK (i:=0) (show List.Nodup (["_law_k","_law_deal_here","_law_words_here","_law_places","_law_room","_law_many"]:List Str) by decide +kernel) rfl (Or.inl rfl)) (by decide))) (fun _ _ _ _=>c5)
 (fun _ _ _ _=>(aO (hr.mono (by first | decide | omega)) rfl rS oR.kp rX (aa (dv (pv 1)) (aa (dv (pv 2)) (aa (dv (pv 3)) (aa (cL gh zi (cL o5 qb (dv (pv 4)) av) (cM (iZ rfl) z1 rfl T.max PyProof.Rows.boot_max (aa av (aa (dv (pv 5)) ae)))) ae)))) Ab)))) ae)) ae)))))))))),fun ds R h=>?_⟩
  ·obtain ⟨ws,ps,room,rfl,_⟩:=h
   rfl
  ·obtain ⟨ws,ps,room,rfl,⟨h0,h1,h2,h3,h4,h5⟩,q⟩:=h
   refine ⟨_,rfl,_,rfl,⟨by decide,by decide⟩,fun a a0 a1=>?_⟩
   refine ⟨_,rfl,⟨rfl,rfl,rfl⟩,_,rfl,?_⟩
   refine cH rfl (fun _=>?_) fun _=>?_
   ·exact ⟨_,rfl,_,rfl,⟨by decide,by decide⟩,fun r r0 r1=>q (.num r) ⟨r0,r1⟩ (by show ((1:Nat):Int)≤_;omega)⟩
   refine ⟨_,rfl,_,_,rfl,rfl,_,rfl,?_⟩
   refine cH rfl (fun _=>?_) fun _=>?_
   ·refine ⟨_,rfl,_,rfl,_,rfl,ws,ps,rfl,⟨h0,h1,h2,h3⟩,fun nm hnm=>⟨_,_,rfl,?_⟩⟩
    have hc:((("asked":Str)="asked"∧me ws ps nm)∨(("asked":Str)="made"∧∃ x∈ws,nm=.str x)):=.inl ⟨rfl,hnm⟩
    refine ⟨_,rfl,_,rfl,_,_,rfl,rfl,?_⟩
    refine .inr ⟨decide ((1:Int) < room),rfl,?_⟩
    generalize hB:decide ((1:Int) < room)=bb
    refine ⟨_,_,.int (if bb=true then 4 else 1),rfl,rfl,by cases bb<;>rfl,_,rfl,⟨by cases bb<;>decide,by cases bb<;>decide⟩,fun many m0 m1=>?_⟩
    have hm:many≤3∧(0 < many→1 < room):=by
     cases bb with
     | true=>exact ⟨by have:many < 4:=m1;omega,fun _=>of_decide_eq_true hB⟩
     | false=>have:many < 1:=m1;exact ⟨by omega,fun h=>by omega⟩
    refine ⟨_,rfl,_,rfl,_,rfl,_,rfl,?_⟩
    refine ⟨⟨by omega,by omega⟩,?_⟩
    have hlr:(bM 0 many.toNat).length=many.toNat:=by simp [bM]
    refine cC (fun y=>∃ v:Vl,y=vD v∧v.ok ws ps∧v.sz≤(4 * ((room - 1) / many)+1).toNat) _ (fun x hx k hk=>?_) fun ys hyl hyp=>?_
    ·have hpos:0 < many:=by
      have:=List.length_pos_of_mem hx
      rw [hlr] at this
      omega
     have hrm:=hm.2 hpos
     refine ⟨_,rfl,_,rfl,_,rfl,_,rfl,_,_,rfl,rfl,_,rfl,_,_,rfl,?_⟩
     have hmx:(if many > 1 then many else 1)=many:=by split<;>omega
     refine ⟨_,_,rfl,rfl,⟨by rw [hmx];exact hpos,by rw [hmx];omega⟩,?_⟩
     rw [hmx]
     have oV:0≤(room - 1) / many:=Int.ediv_nonneg (by omega) (by omega)
     have hd1:(room - 1) / many≤room - 1:=Int.ediv_le_self _ (by omega)
     obtain ⟨m,rfl⟩:∃ m,n=m+1:=⟨n - 1,by omega⟩
     exact ⟨ws,ps,_,rfl,⟨h0,h1,h2,h3,oV,by omega⟩,fun v hv hs=>hk _ _ ⟨v,rfl,hv,by omega⟩ rfl⟩
    ·obtain ⟨ks,rfl,hkl,hko,hks⟩:=rC ys hyp
     rw [hlr] at hyl
     have hsz:((Vl.h8 "asked" nm ks).sz:Int)≤4 * room+1:=by
      show ((1+bR ks:Nat):Int)≤_
      rw [hyl] at hks
      by_cases hz:many=0
      ·subst hz
       have:bR ks≤0:=by simpa using hks
       omega
      ·have oV:0≤(room - 1) / many:=Int.ediv_nonneg (by omega) (by omega)
       have hd2:(room - 1) / many * many≤room - 1:=Int.ediv_mul_le _ hz
       have h9:((bR ks:Nat):Int)≤(4 * ((room - 1) / many)+1) * many:=by
        have:((bR ks:Nat):Int)≤(((4 * ((room - 1) / many)+1).toNat * many.toNat:Nat):Int):=Int.ofNat_le.mpr hks
        rw [Int.natCast_mul,Int.toNat_of_nonneg (by omega),Int.toNat_of_nonneg m0] at this
        exact this
       have h10:(4 * ((room - 1) / many)+1) * many=4 * ((room - 1) / many * many)+many:=by rw [Int.add_mul,Int.mul_assoc,Int.one_mul]
       have:=hm.1
       omega
     exact ⟨_,.inl rfl,q (.h8 "asked" nm ks) ⟨hc,by omega,hko⟩ hsz⟩
   ·refine ⟨_,rfl,_,rfl,_,rfl,_,.inl rfl,_,rfl,⟨by rw [List.length_map];omega,by rw [List.length_map];omega⟩,fun r r0 r1=>?_⟩
    rw [List.length_map] at r1
    obtain ⟨x,hx,ex⟩:=l8 (f:=D.str) (xs:=ws) r0 r1
    refine ⟨_,_,_,rfl,rfl,ex,_,_,rfl,?_⟩
    have hc:((("made":Str)="asked"∧me ws ps (.str x))∨(("made":Str)="made"∧∃ y∈ws,D.str x=.str y)):=.inr ⟨rfl,x,hx,rfl⟩
    refine ⟨_,rfl,_,rfl,_,_,rfl,rfl,?_⟩
    refine .inr ⟨decide ((1:Int) < room),rfl,?_⟩
    generalize hB:decide ((1:Int) < room)=bb
    refine ⟨_,_,.int (if bb=true then 4 else 1),rfl,rfl,by cases bb<;>rfl,_,rfl,⟨by cases bb<;>decide,by cases bb<;>decide⟩,fun many m0 m1=>?_⟩
    have hm:many≤3∧(0 < many→1 < room):=by
     cases bb with
     | true=>exact ⟨by have:many < 4:=m1;omega,fun _=>of_decide_eq_true hB⟩
     | false=>have:many < 1:=m1;exact ⟨by omega,fun h=>by omega⟩
    refine ⟨_,rfl,_,rfl,_,rfl,_,rfl,?_⟩
    refine ⟨⟨by omega,by omega⟩,?_⟩
    have hlr:(bM 0 many.toNat).length=many.toNat:=by simp [bM]
    refine cC (fun y=>∃ v:Vl,y=vD v∧v.ok ws ps∧v.sz≤(4 * ((room - 1) / many)+1).toNat) _ (fun x2 hx k hk=>?_) fun ys hyl hyp=>?_
    ·have hpos:0 < many:=by
      have:=List.length_pos_of_mem hx
      rw [hlr] at this
      omega
     have hrm:=hm.2 hpos
     refine ⟨_,rfl,_,rfl,_,rfl,_,rfl,_,_,rfl,rfl,_,rfl,_,_,rfl,?_⟩
     have hmx:(if many > 1 then many else 1)=many:=by split<;>omega
     refine ⟨_,_,rfl,rfl,⟨by rw [hmx];exact hpos,by rw [hmx];omega⟩,?_⟩
     rw [hmx]
     have oV:0≤(room - 1) / many:=Int.ediv_nonneg (by omega) (by omega)
     have hd1:(room - 1) / many≤room - 1:=Int.ediv_le_self _ (by omega)
     obtain ⟨m,rfl⟩:∃ m,n=m+1:=⟨n - 1,by omega⟩
     exact ⟨ws,ps,_,rfl,⟨h0,h1,h2,h3,oV,by omega⟩,fun v hv hs=>hk _ _ ⟨v,rfl,hv,by omega⟩ rfl⟩
    ·obtain ⟨ks,rfl,hkl,hko,hks⟩:=rC ys hyp
     rw [hlr] at hyl
     have hsz:((Vl.h8 "made" (.str x) ks).sz:Int)≤4 * room+1:=by
      show ((1+bR ks:Nat):Int)≤_
      rw [hyl] at hks
      by_cases hz:many=0
      ·subst hz
       have:bR ks≤0:=by simpa using hks
       omega
      ·have oV:0≤(room - 1) / many:=Int.ediv_nonneg (by omega) (by omega)
       have hd2:(room - 1) / many * many≤room - 1:=Int.ediv_mul_le _ hz
       have h9:((bR ks:Nat):Int)≤(4 * ((room - 1) / many)+1) * many:=by
        have:((bR ks:Nat):Int)≤(((4 * ((room - 1) / many)+1).toNat * many.toNat:Nat):Int):=Int.ofNat_le.mpr hks
        rw [Int.natCast_mul,Int.toNat_of_nonneg (by omega),Int.toNat_of_nonneg m0] at this
        exact this
       have h10:(4 * ((room - 1) / many)+1) * many=4 * ((room - 1) / many * many)+many:=by rw [Int.add_mul,Int.mul_assoc,Int.one_mul]
       have:=hm.1
       omega
     exact ⟨_,.inl rfl,q (.h8 "made" (.str x) ks) ⟨hc,by omega,hko⟩ hsz⟩
end
end fm
namespace fm
open PySem L2 DL
section
variable {P:Program} {w:World} {K:PySem.W.Frag} {mg:Str→Option Value} {base:Heap}
inductive En where
 | aS | lP | great (n:D) | fault (n m:D) | ua (v:Vl)
def eD:En→D
 | .aS=>.aS
 | .lP=>.tup [.str "late"]
 | .great n=>.tup [.str "great",n]
 | .fault n m=>.tup [.str "fault",n,m]
 | .ua v=>.tup [.str "answer",vD v]
def En.ok (ws:List Str) (ps:List (Int×Int)):En→Prop
 | .great n=>me ws ps n
 | .fault n m=>me ws ps n∧me ws ps m
 | .ua v=>v.ok ws ps∧v.sz≤121
 | _=>True
def Gb (d:Addr):List D→(D→Prop)→Prop:=fun ds R=>∃ (ws:List Str) (ps:List (Int×Int)),ds=[.eK d,.lst (ws.map .str),.lst (ps.map mI)]∧(0 < ws.length∧ws.length≤60∧0 < ps.length∧ps.length≤60)∧∀ e:En,e.ok ws ps→R (eD e)
theorem zP {d l:Addr} {gX:Addr} {c7:FuncData} (fY:aw P w K mg base bz 1 gX c7 ["_law_deal_here","_law_many"] (cW K (bg d l) (iU d))) (eh:cq K "_law_draw" "_law_draw" aN gX c7) (eM:mg "_law_draw"=some (.ref gX)) (eN:Binds K c7 ["_law_deal_here","_law_many"] []) {p6:Addr} {lK:FuncData} (yo:aw P w K mg base bz 2 p6 lK ["_law_deal_here","_law_words_here","_law_places"] (cW K (bg d l) (Fn d))) (rJ:cq K "_law_any_name" "_law_any_name" aF p6 lK) (tY:mg "_law_any_name"=some (.ref p6)) (tj:Binds K lK ["_law_deal_here","_law_words_here","_law_places"] []) {l7:Addr} {gJ:FuncData} (Ab:aw P w K mg base bz 34 l7 gJ ["_law_deal_here","_law_words_here","_law_places","_law_room"] (cW K (bg d l) (Fh d 31))) (oR:cq K "_law_any_value" "_law_any_value" aC l7 gJ) (rS:mg "_law_any_value"=some (.ref l7)) (rX:Binds K gJ ["_law_deal_here","_law_words_here","_law_places","_law_room"] []) {f:Addr} {fd:FuncData} (F:cq K "_law_any_end" "_law_any_end" aU f fd) (T:Txt K mg):aw P w K mg base bz 35 f fd ["_law_deal_here","_law_words_here","_law_places"] (cW K (bg d l) (Gb d)):=by
 refine r9 (nos:=0) F dH (fun ds R h=>?_) fun bW A outer s H E M hr=>⟨_,(aj (bT (aB (i:=3) dH.nd rfl (Or.inl rfl) (DE.pe (aO (hr.mono (by first | decide | omega)) rfl eM eh.kp eN (aa (dv (pv 0)) (aa av ae)) fY))))
 (aj (dk (bC d5 jL (dv (pv 3)) av (bf _))
 (au (a6 (cF dR i7 (DN.de (iq (aa nE (aa (bV (aa aI ae)) ae)))) (aO (hr.mono (by first | decide | omega)) rfl eM eh.kp eN (aa (dv (pv 0)) (aa av ae)) fY) (fun _ _=>rfl))))
 bB)
 (aj (dk (bC d5 jL (dv (pv 3)) av (bf _))
 (au (a6 (bV (aa aI (aa (aO (hr.mono (by first | decide | omega)) rfl tY rJ.kp tj (aa (dv (pv 0)) (aa (dv (pv 1)) (aa (dv (pv 2)) ae))) yo) ae)))))
 bB)
 (aj (dk (bC d5 jL (dv (pv 3)) av (bf _))
 (au (a6 (bV (aa aI (aa (aO (hr.mono (by first | decide | omega)) rfl tY rJ.kp tj (aa (dv (pv 0)) (aa (dv (pv 1)) (aa (dv (pv 2)) ae))) yo) (aa (aO (hr.mono (by first | decide | omega)) rfl tY rJ.kp tj (aa (dv (pv 0)) (aa (dv (pv 1)) (aa (dv (pv 2)) ae))) yo) ae))))))
 bB)
 (au (a6 (bV (aa aI (aa (aO (hr.mono (by first | decide | omega)) rfl rS oR.kp rX (aa (dv (pv 0)) (aa (dv (pv 1)) (aa (dv (pv 2)) (aa av ae)))) Ab) ae))))))))),fun ds R h=>?_⟩
 ·obtain ⟨ws,ps,rfl,_⟩:=h
  rfl
 ·obtain ⟨ws,ps,rfl,⟨h0,h1,h2,h3⟩,q⟩:=h
  have hh:=And.intro h0 (And.intro h1 (And.intro h2 h3))
  refine ⟨_,rfl,_,rfl,⟨by decide,by decide⟩,fun a a0 a1=>?_⟩
  refine ⟨_,rfl,⟨rfl,rfl,rfl⟩,_,rfl,?_⟩
  refine cH rfl (fun _=>?_) fun _=>?_
  ·refine ⟨_,rfl,_,rfl,⟨by decide,by decide⟩,fun r r0 r1=>?_⟩
   have hb:r=0∨r=1:=by omega
   rcases hb with rfl | rfl
   ·exact ⟨_,_,_,rfl,rfl,rfl,q .aS trivial⟩
   ·exact ⟨_,_,_,rfl,rfl,rfl,q .lP trivial⟩
  refine ⟨_,rfl,⟨rfl,rfl,rfl⟩,_,rfl,?_⟩
  refine cH rfl (fun _=>?_) fun _=>?_
  ·exact ⟨_,rfl,_,rfl,_,rfl,ws,ps,rfl,hh,fun n hn=>q (.great n) hn⟩
  refine ⟨_,rfl,⟨rfl,rfl,rfl⟩,_,rfl,?_⟩
  refine cH rfl (fun _=>?_) fun _=>?_
  ·exact ⟨_,rfl,_,rfl,_,rfl,ws,ps,rfl,hh,fun n hn=>⟨_,rfl,_,rfl,_,rfl,ws,ps,rfl,hh,fun m hm=>q (.fault n m) ⟨hn,hm⟩⟩⟩
  ·exact ⟨_,rfl,_,rfl,_,rfl,ws,ps,30,rfl,⟨h0,h1,h2,h3,by decide,by decide⟩,fun v hv hs=>q (.ua v) ⟨hv,by omega⟩⟩
end
end fm
namespace ST
open PySem PySem.SetTable
structure Tb (t:SetTable) (n:Nat):Prop where
 sz:t.place.size=n
 du:t.dummies=#[]
 up:t.place.toList.Pairwise (·< ·)
 ms:(t.mask=7∧n≤4)∨(t.mask=31∧n≤18)
section
variable {t:SetTable} {n:Nat}
theorem rh:∀ (m:Nat) (l:List Nat),l.length < m→∃ j,j < m∧j∉l
 | 0,l,h=>absurd h (Nat.not_lt_zero _)
 | m+1,l,h=>by
  by_cases hm:m∈l
  ·obtain ⟨j,h1,h2⟩:=rh m (l.erase m) (by rw [List.length_erase_of_mem hm];have:=List.length_pos_of_mem hm;omega)
   refine ⟨j,by omega,fun z=>h2 ?_⟩
   rw [List.mem_erase_of_ne (by omega)]
   exact z
  ·exact ⟨m,by omega,hm⟩
theorem lL {j:Nat} (du:t.dummies=#[]) (h:j∉t.place.toList):t.slot j=.empty:=by
 unfold slot
 have h1:(t.place[below t.place j]? == some j)=false:=by
  rw [beq_eq_false_iff_ne]
  intro e
  exact h (by rw [← Array.getElem?_toList] at e;exact List.mem_of_getElem? e)
 have h2:has t.dummies j=false:=by
  unfold has
  rw [du]
  rfl
 dsimp only
 rw [h1,h2]
 rfl
theorem gq {j:Nat} (du:t.dummies=#[]):t.slot j=.empty∨∃ i,t.slot j=.live i∧t.place[i]?=some j:=by
 unfold slot
 dsimp only
 cases h1:(t.place[below t.place j]? == some j) with
 | true =>
  refine .inr ⟨below t.place j,rfl,?_⟩
  exact eq_of_beq h1
 | false =>
  refine .inl ?_
  have h2:has t.dummies j=false:=by
   unfold has
   rw [du]
   rfl
  rw [h2]
  rfl
theorem Tb.free (T:Tb t n):∃ j,j≤t.mask∧t.slot j=.empty:=by
 obtain ⟨j,h1,h2⟩:=rh (t.mask+1) t.place.toList (by
  rw [Array.length_toList,T.sz]
  rcases T.ms with ⟨a,b⟩ | ⟨a,b⟩<;>omega)
 exact ⟨j,by omega,lL T.du h2⟩
theorem gj {xs:Array Nat} (up:xs.toList.Pairwise (·< ·)) (j:Nat):below xs j≤xs.size∧(∀ k x,k < below xs j→xs.toList[k]?=some x→x < j)∧∀ k x,below xs j≤k→xs.toList[k]?=some x→j≤x:=by
 have mon:∀ {i k x y:Nat},i≤k→xs.toList[i]?=some x→xs.toList[k]?=some y→x≤y:=fun {i k x y} h h1 h2=>by
  obtain ⟨a1,rfl⟩:=List.getElem?_eq_some_iff.mp h1
  obtain ⟨a2,rfl⟩:=List.getElem?_eq_some_iff.mp h2
  rcases Nat.lt_or_eq_of_le h with h | rfl
  ·exact Nat.le_of_lt (List.pairwise_iff_getElem.mp up _ _ a1 a2 h)
  ·exact Nat.le_refl _
 unfold below
 suffices ∀ (f lo hi:Nat),lo≤hi→hi≤xs.size→hi - lo≤f→(∀ k x,k < lo→xs.toList[k]?=some x→x < j)→(∀ k x,hi≤k→xs.toList[k]?=some x→j≤x) →
   below.go xs j f lo hi≤xs.size∧(∀ k x,k < below.go xs j f lo hi→xs.toList[k]?=some x→x < j)∧∀ k x,below.go xs j f lo hi≤k→xs.toList[k]?=some x→j≤x from
  this _ _ _ (Nat.zero_le _) (Nat.le_refl _) (by omega) (fun k x h=>absurd h (Nat.not_lt_zero _)) fun k x h e=>by
   rw [List.getElem?_eq_none (by rw [Array.length_toList];exact h)] at e
   cases e
 intro f
 induction f with
 | zero =>
  intro lo hi h1 h2 h3 h4 h5
  have e:lo=hi:=by omega
  subst e
  exact ⟨h2,h4,h5⟩
 | succ f ih =>
  intro lo hi h1 h2 h3 h4 h5
  unfold below.go
  by_cases hl:lo < hi
  ·rw [if_pos hl]
   dsimp only
   have hm:(lo+hi) / 2 < xs.size:=by omega
   have em:xs.toList[(lo+hi) / 2]?=some (xs.getD ((lo+hi) / 2) j):=by
    rw [Array.getElem?_toList,Array.getElem?_eq_getElem hm]
    simp [Array.getD,hm]
   by_cases hq:xs.getD ((lo+hi) / 2) j < j
   ·rw [if_pos hq]
    exact ih _ _ (by omega) h2 (by omega) (fun k x h e=>Nat.lt_of_le_of_lt (mon (by omega) e em) hq) h5
   ·rw [if_neg hq]
    exact ih _ _ (by omega) (by omega) (by omega) h4 fun k x h e=>Nat.le_trans (Nat.le_of_not_lt hq) (mon h em e)
  ·rw [if_neg hl]
   have e:lo=hi:=by omega
   subst e
   exact ⟨h2,h4,h5⟩
theorem lG {α:Type} (xs:Array α) (p:Nat) (y:α):(insertAt xs p y).toList=xs.toList.take p++y::xs.toList.drop p:=by
 unfold insertAt
 rw [Array.toList_append,Array.toList_push,Array.toList_extract,Array.toList_extract]
 simp [List.extract]
 exact List.take_of_length_le (by simp)
theorem xA {j:Nat} (up:t.place.toList.Pairwise (·< ·)) (du:t.dummies=#[]) (h:t.slot j=.empty):(insertAt t.place (below t.place j) j).toList.Pairwise (·< ·):=by
 obtain ⟨h1,h2,h3⟩:=gj up j
 have hj:j∉t.place.toList:=fun m=>by
  rcases gq (j:=j) du with e | ⟨i,e,_⟩
  ·unfold slot at e
   dsimp only at e
   obtain ⟨k,hk,ek⟩:=List.getElem_of_mem m
   have e1:t.place.toList[k]?=some j:=List.getElem?_eq_some_iff.mpr ⟨hk,ek⟩
   have hb:¬ k < below t.place j:=fun z=>absurd (h2 k j z e1) (Nat.lt_irrefl _)
   have hb2:¬ below t.place j < k:=fun z=>by
    have eu:below t.place j < t.place.toList.length:=by omega
    have:=h3 _ _ (Nat.le_refl _) (List.getElem?_eq_getElem eu)
    have:=List.pairwise_iff_getElem.mp up _ _ eu hk z
    omega
   have:k=below t.place j:=by omega
   rw [this,Array.getElem?_toList] at e1
   rw [e1] at e
   simp at e
  ·rw [h] at e
   cases e
 rw [lG]
 refine List.pairwise_append.mpr ⟨up.sublist (List.take_sublist ..),List.pairwise_cons.mpr ⟨fun x hx=>?_,up.sublist (List.drop_sublist ..)⟩,fun a ha b hb=>?_⟩
 ·obtain ⟨k,hk,ek⟩:=List.getElem_of_mem hx
  have e1:t.place.toList[below t.place j+k]?=some x:=by
   rw [← List.getElem?_drop]
   exact List.getElem?_eq_some_iff.mpr ⟨hk,ek⟩
  have:=h3 _ _ (Nat.le_add_right ..) e1
  have:x≠j:=fun z=>hj (z▸List.mem_of_getElem? e1)
  omega
 ·obtain ⟨k,hk,ek⟩:=List.getElem_of_mem ha
  have hk':k < below t.place j:=by
   rw [List.length_take] at hk
   omega
  have e1:t.place.toList[k]?=some a:=by
   rw [← List.getElem?_take_of_lt hk']
   exact List.getElem?_eq_some_iff.mpr ⟨hk,ek⟩
  have ha:=h2 k a hk' e1
  rcases List.mem_cons.mp hb with rfl | hb
  ·exact ha
  ·obtain ⟨l,hl,el⟩:=List.getElem_of_mem hb
   have e2:t.place.toList[below t.place j+l]?=some b:=by
    rw [← List.getElem?_drop]
    exact List.getElem?_eq_some_iff.mpr ⟨hl,el⟩
   have:=h3 _ _ (Nat.le_add_right ..) e2
   omega
def d3 (t:SetTable):Probe→Nat→Prop
 | p,0=>t.slot p.j=.empty
 | p,n+1=>t.slot p.j=.empty∨d3 t (t.advance p) n
theorem d3.mono:∀ {n m:Nat} {p:Probe},d3 t p n→n≤m→d3 t p m
 | 0,0,p,h,_=>h
 | 0,m+1,p,h,_=>.inl h
 | n+1,0,p,h,hl=>absurd hl (by omega)
 | n+1,m+1,p,h,hl=>h.imp id fun h=>h.mono (by omega)
theorem pG (du:t.dummies=#[]) {f:Nat→Int} {h:Int}:∀ (fuel:Nat) (p:Probe) (n:Nat),p.dummy=none→d3 t p n→n < fuel →
  (∃ j,probe.go t f h fuel p=some (.empty j none)∧t.slot j=.empty)∨∃ j i q m,probe.go t f h fuel p=some (.candidate j i q)∧t.slot j=.live i∧t.place[i]?=some j∧q.dummy=none∧d3 t q m∧m < n
 | 0,p,n,hd,hh,hl=>absurd hl (Nat.not_lt_zero _)
 | fuel+1,p,n,hd,hh,hl=>by
  unfold probe.go
  rcases gq (j:=p.j) du with e | ⟨i,e,ei⟩
  ·rw [e]
   exact .inl ⟨p.j,by rw [hd],e⟩
  ·rw [e]
   dsimp only
   have uE:(t.advance p).dummy=none:=by
    unfold advance
    split<;>exact hd
   cases n with
   | zero =>
    have hh:t.slot p.j=.empty:=hh
    rw [e] at hh
    cases hh
   | succ n =>
    have hh:d3 t (t.advance p) n:=by
     rcases hh with hh | hh
     ·rw [e] at hh
      cases hh
     ·exact hh
    by_cases hq:f i == h
    ·rw [if_pos hq]
     exact .inr ⟨p.j,i,t.advance p,n,rfl,e,ei,uE,hh,by omega⟩
    ·rw [if_neg hq]
     rcases pG du fuel (t.advance p) n uE hh (by omega) with ⟨j,g,g'⟩ | ⟨j,i,q,m,g,g1,g2,g3,g4,g5⟩
     ·exact .inl ⟨j,g,g'⟩
     ·exact .inr ⟨j,i,q,m,g,g1,g2,g3,g4,by omega⟩
def fl (m i:Nat):Nat:=(i * 5+1) % (m+1)
def uW (f:Nat→Nat):Nat→Nat→Nat
 | 0,i=>i
 | n+1,i=>uW f n (f i)
theorem Dj:∀ i < 8,∀ j < 8,∃ d < 8,uW (fl 7) (d+1) i=j:=by decide
theorem vB:∀ i < 32,∀ j < 32,∃ d < 32,uW (fl 31) (d+1) i=j:=by decide +kernel
theorem qj (m i:Nat):runEnd m i - i≤9:=by
 unfold runEnd
 split<;>omega
theorem qJ {p:Probe} (h:p.more > 0):t.advance p={ p with j:=p.j+1,more:=p.more - 1 }:=by
 unfold advance
 rw [if_pos h]
theorem pC {p:Probe} (h:p.more=0):t.advance p={ p with j:=(leap t.mask p.i p.perturb).1,more:=runEnd t.mask (leap t.mask p.i p.perturb).1 - (leap t.mask p.i p.perturb).1,i:=(leap t.mask p.i p.perturb).1,perturb:=p.perturb / 32 }:=by
 unfold advance
 rw [if_neg (by omega)]
 rfl
theorem dW {N:Nat}:∀ (m:Nat) (p:Probe),p.more=m→(∀ q:Probe,q.j=(leap t.mask p.i p.perturb).1→q.i=(leap t.mask p.i p.perturb).1→q.more≤9→q.perturb=p.perturb / 32→d3 t q N)→d3 t p (N+(m+1))
 | 0,p,hm,h=>by
  refine .inr ?_
  rw [pC hm]
  exact h _ rfl rfl (qj _ _) rfl
 | m+1,p,hm,h=>by
  refine .inr ?_
  rw [qJ (by omega)]
  exact dW m _ (show p.more - 1=m by omega) h
theorem iD {j0:Nat} (hj:t.slot j0=.empty):∀ (d:Nat) (p:Probe),p.more≤9→p.perturb=0→uW (fl t.mask) (d+1) p.i=j0→d3 t p (10 * (d+1))
 | 0,p,hm,hp,he=>by
  refine (dW (N:=0) p.more p rfl fun q h1 h2 h3 h4=>?_).mono (by omega)
  show t.slot q.j=.empty
  rw [h1,hp]
  have he:fl t.mask p.i=j0:=he
  rw [show (leap t.mask p.i 0).1=fl t.mask p.i from rfl,he]
  exact hj
 | d+1,p,hm,hp,he=>by
  refine (dW (N:=10 * (d+1)) p.more p rfl fun q h1 h2 h3 h4=>?_).mono (by omega)
  refine iD hj d q h3 (by rw [h4,hp]) ?_
  rw [h2,hp]
  exact he
theorem kJ {j0 C:Nat} (hj:t.slot j0=.empty) (hc:∀ i,i≤t.mask→∃ d,d < C∧uW (fl t.mask) (d+1) i=j0):∀ (a:Nat) (p:Probe),p.more≤9→p.i≤t.mask→p.perturb < 32 ^ a→d3 t p (10 * a+10 * C)
 | 0,p,hm,hi,hp=>by
  obtain ⟨d,h1,h2⟩:=hc p.i hi
  exact (iD hj d p hm (by simpa using hp) h2).mono (by omega)
 | a+1,p,hm,hi,hp=>by
  refine (dW (N:=10 * a+10 * C) p.more p rfl fun q h1 h2 h3 h4=>?_).mono (by omega)
  refine kJ hj hc a q h3 ?_ ?_
  ·rw [h2]
   exact Nat.le_of_lt_succ (Nat.mod_lt _ (Nat.succ_pos _))
  ·rw [h4]
   exact Nat.div_lt_of_lt_mul (by rw [Nat.pow_succ] at hp;omega)
theorem Tb.GR (T:Tb t n) {j:Nat} (hj:j≤t.mask):∀ i,i≤t.mask→∃ d,d < t.mask+1∧uW (fl t.mask) (d+1) i=j:=by
 intro i hi
 rcases T.ms with ⟨e,_⟩ | ⟨e,_⟩
 ·rw [e] at hi hj ⊢
  exact Dj i (by omega) j (by omega)
 ·rw [e] at hi hj ⊢
  exact vB i (by omega) j (by omega)
theorem nh (h:Int):bits h < 32 ^ 13:=by
 unfold bits
 have:=Int.emod_nonneg h (show (2 ^ 64:Int)≠0 by decide)
 have:=Int.emod_lt_of_pos h (show (0:Int) < 2 ^ 64 by decide)
 omega
theorem Tb.hits (T:Tb t n) (h:Int):d3 t (t.probeStart h) (10 * (t.mask+14)):=by
 obtain ⟨j,h1,h2⟩:=T.free
 refine (kJ h2 (T.GR h1) 13 (t.probeStart h) (qj _ _) (Nat.le_of_lt_succ (Nat.mod_lt _ (Nat.succ_pos _))) (nh h)).mono (by omega)
theorem Tb.met (T:Tb t n) {f:Nat→Int} {h:Int} {p:Probe} {N:Nat} (hd:p.dummy=none) (hh:d3 t p N) (hN:N≤10 * (t.mask+14)) :
  (∃ j,t.probe f h p=some (.empty j none)∧t.slot j=.empty)∨∃ j i q m,t.probe f h p=some (.candidate j i q)∧t.slot j=.live i∧t.place[i]?=some j∧q.dummy=none∧d3 t q m∧m < N :=
 pG T.du _ p N hd hh (by unfold turns;omega)
end
end ST
namespace ST
open PySem PySem.SetTable
theorem iK:∀ (l:List (Option Nat)),(l.filterMap id).length < l.length→∃ j,j < l.length∧l[j]?=some none
 | [],h=>by simp at h
 | none::l,h=>⟨0,by simp,rfl⟩
 | some x::l,h=>by
  obtain ⟨j,h1,h2⟩:=iK l (by simpa using h)
  exact ⟨j+1,by simpa using h1,by simpa using h2⟩
theorem mY:∀ (l:List (Option Nat)) (j k:Nat),l[j]?=some none→((l.set j (some k)).filterMap id).length=(l.filterMap id).length+1∧∀ x∈(l.set j (some k)).filterMap id,x=k∨x∈l.filterMap id
 | [],j,k,h=>by simp at h
 | a::l,0,k,h=>by
  simp at h
  subst h
  constructor
  ·simp
  ·intro x hx
   simpa using hx
 | a::l,j+1,k,h=>by
  obtain ⟨h1,h2⟩:=mY l j k (by simpa using h)
  cases a with
  | none=>exact ⟨by simpa using h1,fun x hx=>by simpa using h2 x (by simpa using hx)⟩
  | some y =>
   refine ⟨by simpa using h1,fun x hx=>?_⟩
   have hx:x=y∨x∈(l.set j (some k)).filterMap id:=by simpa using hx
   rcases hx with rfl | hx
   ·right;simp
   ·rcases h2 x hx with h | h
    ·exact .inl h
    ·right
     have:x∈l.filterMap id:=h
     simpa using Or.inr this
structure Ow (m:Nat) (o:Array (Option Nat)) (k:Nat):Prop where
 sz:o.size=m+1
 ln:(o.toList.filterMap id).length=k
 lt:∀ x∈o.toList.filterMap id,x < k
section
variable {m:Nat} {o:Array (Option Nat)} {k:Nat}
theorem mO {j:Nat} (h:(o.getD j (some 0)).isNone=true):o.toList[j]?=some none:=by
 rw [Array.getElem?_toList]
 cases e:o[j]? with
 | none=>rw [Array.getD_eq_getD_getElem?,e] at h;cases h
 | some x =>
  rw [Array.getD_eq_getD_getElem?,e] at h
  cases x with
  | none=>rfl
  | some y=>cases h
theorem iG {f i pt:Nat} (h:∀ i',i'=(leap m i pt).1→∃ j,layClean.free m o f i' (pt / 32)=some j∧o.toList[j]?=some none):∃ j,layClean.free m o (f+1) i pt=some j∧o.toList[j]?=some none:=by
 unfold layClean.free
 split
 ·rename_i k hk
  have:=List.find?_some hk
  exact ⟨i+k,rfl,mO this⟩
 ·exact h _ rfl
theorem oM {f i pt:Nat} (h:o.toList[i]?=some none):∃ j,layClean.free m o (f+1) i pt=some j∧o.toList[j]?=some none:=by
 unfold layClean.free
 split
 ·rename_i k hk
  have:=List.find?_some hk
  exact ⟨i+k,rfl,mO this⟩
 ·rename_i hk
  exfalso
  rw [List.find?_eq_none] at hk
  refine hk 0 (List.mem_range.mpr (by unfold runEnd;split<;>omega)) ?_
  rw [Array.getElem?_toList] at h
  rw [Array.getD_eq_getD_getElem?,Nat.add_zero,h]
  rfl
theorem iu {j0:Nat} (hj:o.toList[j0]?=some none):∀ (d f i:Nat),uW (fl m) d i=j0→d < f→∃ j,layClean.free m o f i 0=some j∧o.toList[j]?=some none
 | _,0,_,_,h=>absurd h (Nat.not_lt_zero _)
 | 0,f+1,i,he,_=>oM (show o.toList[i]?=some none by rw [show i=j0 from he];exact hj)
 | d+1,f+1,i,he,hl=>iG fun i' e=>iu hj d f i' (by rw [e];exact he) (by omega)
theorem j7 {j0 C:Nat} (hj:o.toList[j0]?=some none) (hc:∀ i,i≤m→∃ d,d < C∧uW (fl m) (d+1) i=j0):∀ (a f i pt:Nat),i≤m→pt < 32 ^ a→a+C < f→∃ j,layClean.free m o f i pt=some j∧o.toList[j]?=some none
 | 0,f,i,pt,hi,hp,hf=>by
  obtain ⟨d,h1,h2⟩:=hc i hi
  have e:pt=0:=by simpa using hp
  subst e
  exact iu hj (d+1) f i h2 (by omega)
 | a+1,0,i,pt,hi,hp,hf=>absurd hf (by omega)
 | a+1,f+1,i,pt,hi,hp,hf=>iG fun i' e=>j7 hj hc a f i' (pt / 32) (by rw [e];exact Nat.le_of_lt_succ (Nat.mod_lt _ (Nat.succ_pos _))) (Nat.div_lt_of_lt_mul (by rw [Nat.pow_succ] at hp;omega)) (by omega)
theorem Ow.free (O:Ow 31 o k) (hk:k < 32) (h:Int):∃ j,layClean.free 31 o (turns 31) (bits h % 32) (bits h)=some j∧o.toList[j]?=some none:=by
 obtain ⟨j0,h1,h2⟩:=iK o.toList (by rw [O.ln,Array.length_toList,O.sz];exact hk)
 rw [Array.length_toList,O.sz] at h1
 exact j7 (C:=32) h2 (fun i hi=>vB i (by omega) j0 h1) 13 _ _ _ (Nat.le_of_lt_succ (Nat.mod_lt _ (by decide))) (nh h) (by decide)
theorem Ow.put (O:Ow m o k) {j:Nat} (h:o.toList[j]?=some none):Ow m (o.setIfInBounds j (some k)) (k+1):=by
 obtain ⟨h1,h2⟩:=mY o.toList j k h
 refine ⟨by rw [Array.size_setIfInBounds];exact O.sz,?_,fun x hx=>?_⟩
 ·rw [Array.toList_setIfInBounds,h1,O.ln]
 ·rw [Array.toList_setIfInBounds] at hx
  rcases h2 x hx with rfl | h
  ·omega
  ·have:=O.lt x h;omega
theorem qK:∀ (l:List Int) (o:Array (Option Nat)) (k:Nat),Ow 31 o k→k+l.length < 32 →
  ∃ o',l.foldl (fun acc h=>do
   let (owner,k) ← acc
   let j ← layClean.free 31 owner (turns 31) (bits h % (31+1)) (bits h)
   pure (owner.setIfInBounds j (some k),k+1)) (some (o,k))=some (o',k+l.length)∧Ow 31 o' (k+l.length)
 | [],o,k,O,_=>⟨o,rfl,O⟩
 | h::l,o,k,O,hl=>by
  rw [List.length_cons] at hl
  obtain ⟨j,h1,h2⟩:=O.free (by omega) h
  obtain ⟨o',e,O'⟩:=qK l _ _ (O.put h2) (by omega)
  refine ⟨o',?_,by rw [List.length_cons];exact (by rw [show k+(l.length+1)=k+1+l.length by omega];exact O')⟩
  rw [List.foldl_cons]
  rw [show (do
   let (owner,k) ← some (o,k)
   let j ← layClean.free 31 owner (turns 31) (bits h % (31+1)) (bits h)
   pure (owner.setIfInBounds j (some k),k+1))=some (o.setIfInBounds j (some k),k+1) by
    show (layClean.free 31 o (turns 31) (bits h % (31+1)) (bits h)).bind _=_
    rw [h1]
    rfl]
  rw [e,List.length_cons,show k+1+l.length=k+(l.length+1) by omega]
theorem qZ:Ow 31 (Array.replicate 32 none) 0:=⟨rfl,by decide,by decide⟩
theorem xi (hs:Array Int) (h:hs.size < 32):∃ o,layClean 31 hs=some o∧Ow 31 o hs.size:=by
 obtain ⟨o,e,O⟩:=qK hs.toList _ 0 qZ (by rw [Array.length_toList];omega)
 refine ⟨o,?_,by rw [Nat.zero_add,Array.length_toList] at O;exact O⟩
 unfold layClean
 rw [← Array.foldl_toList,show (some (Array.replicate (31+1) (none:Option Nat),0))=some (Array.replicate 32 none,0) from rfl,e]
 rfl
theorem oj {t:SetTable} {hs:Array Int} {n:Nat} (h:hs.size=n) (h5:n=5):∃ t' ord,t.relaid hs (SetTable.grown n)=some (t',ord)∧Tb t' n∧t'.led=t.led∧t'.plain=t.plain∧ord.size=n∧∀ x∈ord.toList,x < n:=by
 subst h5
 obtain ⟨o,e,O⟩:=xi hs (by omega)
 rw [h] at O
 have el:((List.range 32).filterMap fun j=>(o.getD j none).map (j,·)).map (·.2)=o.toList.filterMap id:=by
  rw [List.map_filterMap]
  have e2:o.toList=(List.range 32).map fun j=>o.getD j none:=by
   apply List.ext_getElem?
   intro i
   rw [Array.getElem?_toList,List.getElem?_map]
   by_cases hi:i < 32
   ·rw [List.getElem?_range hi]
    have lu:i < o.size:=by rw [O.sz];exact hi
    simp [Array.getD,lu]
   ·rw [List.getElem?_eq_none (by simpa using hi),Array.getElem?_eq_none (by rw [O.sz];omega)]
    rfl
  rw [e2,List.filterMap_map]
  congr 1
  funext j
  show ((o.getD j none).map (j,·)).map (·.2)=o.getD j none
  cases o.getD j none<;>rfl
 have es:(SetTable.sizeAbove (SetTable.grown 5))=32:=by decide
 have er:t.relaid hs (SetTable.grown 5)=some ({ mask:=31,place:=(((List.range 32).filterMap fun j=>(o.getD j none).map (j,·)).map (·.1)).toArray,dummies:=#[],finger:=t.finger,led:=t.led,moves:=t.movedTo 31,plain:=t.plain },(((List.range 32).filterMap fun j=>(o.getD j none).map (j,·)).map (·.2)).toArray):=by
  unfold relaid laid
  rw [es,show 32 - 1=31 from rfl,e]
  rfl
 refine ⟨_,_,er,⟨?_,rfl,?_,.inr ⟨rfl,by decide⟩⟩,rfl,rfl,?_,fun x hx=>?_⟩
 ·rw [List.size_toArray,List.length_map,← O.ln,← el,List.length_map]
 ·show (((List.range 32).filterMap fun j=>(o.getD j none).map (j,·)).map (·.1)).Pairwise (·< ·)
  refine List.pairwise_lt_range.sublist ((?_:_=(List.range 32).filter fun j=>(o.getD j none).isSome)▸List.filter_sublist)
  generalize List.range 32=l
  induction l with
  | nil=>rfl
  | cons x l ih =>
   rw [List.filterMap_cons,List.filter_cons]
   cases o.getD x none with
   | none=>simpa using ih
   | some y=>simpa using ih
 ·rw [List.size_toArray,← O.ln,← el]
 ·have hx:x∈((List.range 32).filterMap fun j=>(o.getD j none).map (j,·)).map (·.2):=by simpa using hx
  rw [el] at hx
  exact O.lt x hx
theorem pH {α:Type} {es:Array α} {ord:Array Nat} (h:∀ x∈ord.toList,x < es.size):(ord.filterMap (es[·]?)).size=ord.size∧∀ y∈(ord.filterMap (es[·]?)).toList,y∈es.toList:=by
 have e:(ord.filterMap (es[·]?)).toList=ord.toList.filterMap (es[·]?):=by simp
 refine ⟨?_,fun y hy=>?_⟩
 ·rw [← Array.length_toList,e,← Array.length_toList]
  generalize ord.toList=l at h
  induction l with
  | nil=>rfl
  | cons x l ih =>
   have hx:=h x (List.mem_cons_self ..)
   rw [List.filterMap_cons,Array.getElem?_eq_getElem hx]
   simp only [List.length_cons]
   rw [ih fun y hy=>h y (List.mem_cons_of_mem _ hy)]
 ·rw [e] at hy
  obtain ⟨i,_,hi⟩:=List.mem_filterMap.mp hy
  exact Array.mem_toList_iff.mpr (Array.mem_of_getElem? hi)
end
end ST
namespace ST
open PySem PySem.SetTable PySem.Spec
abbrev tR (es:Array (Int×Value)) (ep:Nat) (t:SetTable):Obj:={ cls:=.type "set",data:=.set es ep t }
section
variable {prog:Program} {w:World} {A:Around} {E:Value→Shared→Prop} {s:Shared}
def TK (prog:Program) (w:World) (h:Heap) (v:Value):Prop:=∃ ks a,v=.ref a∧IsTupleKey (intKind prog w) h ks a
theorem TK.keep {h h':Heap} {v:Value} (x:TK prog w h v) (k:∀ b o,o.cls=.type "tuple"→h.get? b=some o→h'.get? b=some o):TK prog w h' v:=by
 obtain ⟨ks,a,e,o,it,n,h1,h2,h3⟩:=x
 exact ⟨ks,a,e,o,it,n,k a o h2 h1,h2,h3⟩
theorem nU (n:Nat) {k:Int} {v:Value} (h:(intKind prog w).is k v=true):ofAClassStatement n v=pure false:=by
 cases v<;>first | (cases n<;>rfl) | (exact absurd ((intKind prog w).byValue k _ h) (by simp [carriedByValue]))
theorem iw {v:Value} {Q:Bool→Shared→Prop} (x:TK prog w s.heap v) (h:Q false s):wpAny (model prog w) A (ofAClassStatement 8 v) Q E s:=by
 obtain ⟨ks,a,rfl,o,it,n,h1,h2,h3,h4⟩:=x
 unfold ofAClassStatement
 refine wpAny_bind (wpAny_typeOf (⟨o,h1,h2⟩:s.TypeIs (.ref a) "tuple") ?_)
 dsimp only
 rw [if_pos (show ("tuple" == "tuple")=true by decide)]
 refine wpAny_bind (wpAny_pure ?_)
 simp only [Bool.not_true,Bool.false_eq_true,if_false]
 refine wpAny_bind (wpAny_seqItems h1 h3 ?_)
 dsimp only
 rw [← Array.forIn_toList]
 refine wpAny_bind (wpAny_forIn_list _ (fun rest r s'=>r.1=none∧s'=s∧∃ ks,ItemsAre (intKind prog w) ks rest) _ ?_ ?_ _ _ ⟨rfl,rfl,ks,h4⟩)
 ·rintro y rest r s' ⟨hr,rfl,ks',hk⟩
  cases hk with
  | cons g1 g2 =>
   rw [nU 7 g1]
   refine wpAny_bind (wpAny_pure ?_)
   simp only [Bool.false_eq_true,if_false]
   exact wpAny_pure ⟨rfl,rfl,_,g2⟩
 ·rintro ⟨r1,r2⟩ s' ⟨hr,rfl,_⟩
  simp only at hr
  subst hr
  exact wpAny_pure h
theorem sj {x:Value} {l:List Value} {Q:Bool→Shared→Prop} (hx:TK prog w s.heap x) (hl:∀ y∈l,TK prog w s.heap y) (h:Q false s):wpAny (model prog w) A (searchCouldBeSeen x l) Q E s:=by
 unfold searchCouldBeSeen
 refine wpAny_bind (wpAny_forIn_list _ (fun rest r s'=>r.1=none∧s'=s∧∀ y∈rest,TK prog w s.heap y) _ ?_ ?_ _ _ ⟨rfl,rfl,hl⟩)
 ·rintro y rest r s' ⟨hr,rfl,hk⟩
  have hy:=hk y (List.mem_cons_self ..)
  have hk':∀ z∈rest,TK prog w s'.heap z:=fun z hz=>hk z (List.mem_cons_of_mem _ hz)
  obtain ⟨ks,a,rfl,hx'⟩:=id hx
  obtain ⟨ks',b,rfl,hy'⟩:=id hy
  dsimp only
  split
  ·refine wpAny_pure ?_
   exact ⟨rfl,rfl,hk'⟩
  ·skip
   refine wpAny_bind (wpAny_eqIsQuiet_tuple hx' ?_)
   simp only [Bool.not_true,Bool.false_eq_true,if_false]
   refine wpAny_bind (wpAny_eqIsQuiet_tuple hy' ?_)
   simp only [Bool.not_true,Bool.false_eq_true,if_false]
   refine wpAny_bind (iw hx ?_)
   simp only [Bool.false_eq_true,if_false]
   refine wpAny_bind (iw hy ?_)
   simp only [Bool.false_eq_true,if_false]
   exact wpAny_pure ⟨rfl,rfl,hk'⟩
 ·rintro ⟨r1,r2⟩ s' ⟨hr,rfl,_⟩
  simp only at hr
  subst hr
  exact wpAny_pure h
theorem n0 {v:Value} {Q:Bool→Shared→Prop} (x:TK prog w s.heap v) (h:Q true s):wpAny (model prog w) A (hashByValue 8 v) Q E s:=by
 obtain ⟨ks,a,rfl,o,it,n,h1,h2,h3,h4⟩:=x
 unfold hashByValue
 refine wpAny_bind (wpAny_specialOf (⟨o,h1,h2⟩:s.TypeIs (.ref a) "tuple") F.slot_tuple_hash.lookup ?_)
 dsimp only
 refine wpAny_bind (wpAny_seqItems h1 h3 ?_)
 dsimp only [Option.getD_some]
 rw [← Array.forIn_toList]
 refine wpAny_bind (wpAny_forIn_list _ (fun rest r s'=>r.1=none∧s'=s∧∃ ks,ItemsAre (intKind prog w) ks rest) _ ?_ ?_ _ _ ⟨rfl,rfl,ks,h4⟩)
 ·rintro y rest r s' ⟨hr,rfl,ks',hk⟩
  cases hk with
  | @cons k _ _ _ g1 g2 =>
   have e:hashByValue 7 y=pure true:=by
    cases y<;>first | rfl | (exact absurd (show false=true from g1) (by simp))
   rw [e]
   refine wpAny_bind (wpAny_pure ?_)
   simp only [Bool.not_true,Bool.false_eq_true,if_false]
   exact wpAny_pure ⟨rfl,rfl,_,g2⟩
 ·rintro ⟨r1,r2⟩ s' ⟨hr,rfl,_⟩
  simp only at hr
  subst hr
  exact wpAny_pure h
end
end ST
namespace ST
open PySem PySem.SetTable PySem.Spec
section
variable {prog:Program} {w:World} {A:Around} {E:Value→Shared→Prop} {s:Shared} {a:Addr} {es:Array (Int×Value)} {ep:Nat} {t:SetTable} {x:Value} {h:Int}
theorem Tb.fits {n:Nat} (T:Tb t n):t.fits n=true:=by
 unfold SetTable.fits fill
 rw [T.sz,T.du]
 rcases T.ms with ⟨e,_⟩ | ⟨e,_⟩<;>simp [e]<;>omega
theorem Tb.stays {n:Nat} (T:Tb t n):t.gaveWay=false:=by
 unfold SetTable.gaveWay
 rcases T.ms with ⟨e,_⟩ | ⟨e,_⟩<;>rw [e]<;>rfl
theorem i9 {Q:SetFound→Shared→Prop} (hu:A.units < cLine) (hx:TK prog w s.heap x) (ho:s.heap.get? a=some (tR es ep t)) (T:Tb t es.size) (he:∀ e∈es.toList,TK prog w s.heap e.2)
  (h1:∀ j,t.slot j=.empty→Q (.free j false) s) (h2:0 < es.size→Q (.there none) s):∀ (fuel N:Nat) (st:Option Probe),d3 t (st.getD (t.probeStart h)) N→(st.getD (t.probeStart h)).dummy=none→N≤10 * (t.mask+14)→N < fuel→wpAny (model prog w) A (setSearchFrom a x h true fuel st) Q E s
 | 0,N,st,_,_,_,hf=>absurd hf (Nat.not_lt_zero _)
 | fuel+1,N,st,hh,hd,hN,hf=>by
  unfold setSearchFrom
  refine wpAny_bind (wpAny_setState_of ho rfl T.fits ?_)
  dsimp only
  rw [T.stays]
  simp only [Bool.false_eq_true,if_false]
  have key:∀ (f:Nat→Int) (r:Option Met),t.probe f h (st.getD (t.probeStart h))=r→(∃ j,r=some (.empty j none)∧t.slot j=.empty)∨∃ j i q m,r=some (.candidate j i q)∧t.slot j=.live i∧t.place[i]?=some j∧q.dummy=none∧d3 t q m∧m < N:=fun f r e=>by
   subst e
   exact T.met hd hh hN
  generalize hp:t.probe _ h (st.getD (t.probeStart h))=r
  rcases key _ _ hp with ⟨j,e,e'⟩ | ⟨j,i,q,m,e,g1,g2,g3,g4,g5⟩
  ·subst e
   exact wpAny_pure (h1 j e')
  ·subst e
   dsimp only
   have hi:i < es.size:=by
    have:=(Array.getElem?_eq_some_iff.mp g2).1
    rw [T.sz] at this
    exact this
   have hy:TK prog w s.heap es[i].2:=he es[i] (Array.mem_toList_iff.mpr (Array.getElem_mem hi))
   have rest:wpAny (model prog w) A (do
     let some (_,y):=es[i]? | unsupported "internal:set-entry"
     let equal ← holding [y] (eqBool y x)
     let (es',_,t') ← setState a
     if true&&equal then return .there none
     let some same:=t'.sameMemory t.moves t.mask | unsupported "set.changed-during-lookup:is-the-new-block-at-the-old-address"
     let still ← match (if same then t'.slot j else .empty) with
      | .live i'=>match es'[i']? with
       | some (_,y')=>do pure (if ← isSame y' y then some i' else none)
       | none=>pure none
      | _=>pure none
     match still with
     | none=>rule "set.search.anew";setSearchFrom a x h true fuel none
     | some i'=>if equal then return .there (some i') else setSearchFrom a x h true fuel (some q)) Q E s:=by
    rw [Array.getElem?_eq_getElem hi]
    dsimp only
    obtain ⟨ks,b,eb,hb⟩:=hy
    obtain ⟨ks',c,ec,hc⟩:=id hx
    rw [eb,ec]
    refine wpAny_bind (wpAny_holding (wpAny_eqBool_tuple hu hb hc ?_))
    refine wpAny_bind (wpAny_setState_of ho rfl T.fits ?_)
    dsimp only
    by_cases hk:ks=ks'
    ·rw [decide_eq_true hk]
     simp only [Bool.and_self,if_true]
     exact wpAny_pure (h2 (by omega))
    ·rw [decide_eq_false hk]
     simp only [Bool.and_false,Bool.false_eq_true,if_false]
     rw [show t.sameMemory t.moves t.mask=some true by unfold sameMemory;rw [if_pos (by simp)]]
     dsimp only
     rw [if_pos rfl,g1]
     dsimp only
     rw [Array.getElem?_eq_getElem hi]
     dsimp only
     rw [eb]
     have same:isSame (.ref b) (.ref b)=pure true:=by
      unfold isSame
      dsimp only
      rw [if_pos (by simp)]
     rw [same]
     refine wpAny_bind (wpAny_bind (wpAny_pure (wpAny_pure ?_)))
     rw [if_pos rfl]
     rw [← ec]
     exact i9 hu hx ho T he h1 h2 fuel m (some q) g4 g3 (by omega) (by omega)
   cases hl:t.led with
   | true =>
    simp only [Bool.not_true,Bool.false_eq_true,if_false]
    exact rest
   | false =>
    simp only [Bool.not_false,if_true]
    refine wpAny_bind (sj hx (fun y hy=>?_) ?_)
    ·simp only [List.mem_map,Array.toList_filter,List.mem_filter] at hy
     obtain ⟨e,⟨h1,_⟩,rfl⟩:=hy
     exact he e h1
    ·simp only [Bool.false_eq_true,if_false]
     exact rest
theorem jZ {α:Type} {xs:Array α} {p:Nat} {y:α} (hp:p≤xs.size):(insertAt xs p y).size=xs.size+1:=by
 unfold insertAt
 simp
 omega
theorem tP {α:Type} {xs:Array α} {p:Nat} {y z:α} (h:z∈(insertAt xs p y).toList):z=y∨z∈xs.toList:=by
 unfold insertAt at h
 rw [Array.toList_append,Array.toList_push] at h
 rcases List.mem_append.mp h with h | h
 ·rcases List.mem_append.mp h with h | h
  ·refine .inr ?_
   rw [Array.toList_extract] at h
   simp [List.extract] at h
   exact List.mem_of_mem_take h
  ·exact .inl (by simpa using h)
 ·refine .inr ?_
  rw [Array.toList_extract] at h
  simp [List.extract] at h
  exact List.mem_of_mem_drop (List.mem_of_mem_take h)
theorem kA (xs:Array Nat) (j:Nat):below xs j≤xs.size:=by
 unfold below
 suffices ∀ (f lo hi:Nat),lo≤xs.size→hi≤xs.size→below.go xs j f lo hi≤xs.size from this _ _ _ (Nat.zero_le _) (Nat.le_refl _)
 intro f
 induction f with
 | zero=>intro lo hi h _;exact h
 | succ f ih =>
  intro lo hi h1 h2
  unfold below.go
  split
  ·dsimp only
   split
   ·exact ih _ _ (by omega) h2
   ·exact ih _ _ h1 (by omega)
  ·exact h1
structure Ts (led:Bool) (P:Value→Prop) (o:Obj) (n:Nat):Prop where
 ex:∃ es ep t,o=tR es ep t∧Tb t es.size∧t.led=led∧t.plain=true∧es.size=n∧∀ e∈es.toList,P e.2
theorem rl {hp:Heap} {es':Array (Int×Value)} {t':SetTable} (ho:hp.get? a=some (tR es ep t)):(hp.update a (Obj.putSet es' t')).get? a=some (tR es' (ep+1) t'):=by
 have:=Heap.get?_update_self (Obj.putSet es' t') ho (by rw [putSet_of es' t' rfl];rfl)
 rw [putSet_of es' t' rfl] at this
 exact this
theorem xu {led:Bool} {P:Value→Prop} {o:Obj} {n:Nat} {Q:Bool→Shared→Prop} (hu:A.units < cLine) (hx:TK prog w s.heap x) (px:P x) (ho:s.heap.get? a=some o) (S:Ts led P o n) (hP:∀ v,P v→TK prog w s.heap v) (hn:n < 17)
  (hQ:∀ b tk h' o' n',s.toks≤tk→h'.get? a=some o'→Ts led P o' n'→0 < n'→n≤n'→n'≤n+1→Heap.SameBut a s.heap h'→Q b { s with heap:=h',toks:=tk }):wpAny (model prog w) A (setAdd a x) Q E s:=by
 obtain ⟨es,ep,t,rfl,T,tl,tp,rfl,he⟩:=S.ex
 have heT:∀ e∈es.toList,TK prog w s.heap e.2:=fun e h=>hP _ (he e h)
 unfold setAdd
 refine wpAny_holding ?_
 obtain ⟨ks,b,eb,hb⟩:=id hx
 rw [eb]
 refine wpAny_bind (wpAny_pyHash_tuple hu hb ?_)
 rw [← eb]
 have htk:s.toks≤s.toks+(ks.length+1):=Nat.le_add_right _ _
 generalize s.toks+(ks.length+1)=tk at htk ⊢
 generalize tupleKeyHash (intKind prog w) ks=hsh
 unfold setAddHashed
 refine wpAny_holding ?_
 unfold setAddHashedIn
 refine wpAny_bind (wpAny_setState_of (s:={ s with toks:=tk }) ho rfl T.fits ?_)
 dsimp only
 have hby:byScan x es=false:=by rw [eb];rfl
 rw [hby]
 simp only [Bool.false_eq_true,if_false]
 refine wpAny_bind (i9 (s:={ s with toks:=tk }) (es:=es) (ep:=ep) (t:=t) hu hx ho T heT (fun j hj=>?_) (fun h0=>?_) 100000 (10 * (t.mask+14)) none (T.hits hsh) rfl (Nat.le_refl _) ?_)
 ·dsimp only
  refine wpAny_bind (wpAny_setState_of (s:={ s with toks:=tk }) ho rfl T.fits ?_)
  dsimp only
  unfold SetTable.put
  dsimp only
  rw [if_pos tp]
  refine wpAny_bind (n0 (s:={ s with toks:=tk }) hx ?_)
  simp only [if_true]
  have hd:(if has t.dummies j=true then eraseAt t.dummies (below t.dummies j) else t.dummies)=#[]:=by
   rw [T.du]
   rfl
  rw [hd]
  have hz:(insertAt t.place (below t.place j) j).size=es.size+1:=by rw [jZ (kA _ _),T.sz]
  have hz2:(insertAt es (below t.place j) (hsh,x)).size=es.size+1:=jZ (by rw [← T.sz];exact kA _ _)
  have hm:∀ e∈(insertAt es (below t.place j) (hsh,x)).toList,P e.2:=fun e h=>by
   rcases tP h with rfl | h
   ·exact px
   ·exact he e h
  have hup:=xA T.up T.du hj
  generalize hes:insertAt es (below t.place j) (hsh,x)=es1 at hz2 hm ⊢
  generalize fg:insertAt t.place (below t.place j) j=pl at hz hup ⊢
  refine wpAny_bind (wpAny_storeSet_of (s:={ s with toks:=tk }) ho rfl ?_ (by rw [hz2,sizeLine_eq];omega))
  have ho1:=rl (es':=es1) (t':={ t with place:=pl,dummies:=#[] }) ho
  have sb1:=Heap.SameBut.update s.heap a (Obj.putSet es1 { t with place:=pl,dummies:=#[] })
  by_cases hfull:(!false&&SetTable.tooFull { t with place:=pl,dummies:=#[] })=true
  ·rw [if_pos hfull]
   have hf:(pl.size+0) * 5 ≥ t.mask * 3:=by simpa [SetTable.tooFull,fill] using hfull
   rw [hz] at hf
   have h5:es.size+1=5:=by
    rcases T.ms with ⟨e,e'⟩ | ⟨e,e'⟩<;>rw [e] at hf<;>omega
   have f1:SetTable.fits { t with place:=pl,dummies:=#[] } es1.size=true:=by
    unfold SetTable.fits fill
    rw [hz2,hz]
    rcases T.ms with ⟨e,_⟩ | ⟨e,_⟩<;>simp [e]<;>omega
   unfold setRelay
   refine wpAny_bind (wpAny_bind (wpAny_setState_of (s:={ s with toks:=tk,heap:=s.heap.update a (Obj.putSet es1 { t with place:=pl,dummies:=#[] }) }) ho1 rfl f1 ?_))
   dsimp only
   rw [h5,if_neg (by rw [sizeLine_eq];decide)]
   obtain ⟨t2,ord,e2,T2,l2,p2,oz,ol⟩:=oj (t:={ t with place:=pl,dummies:=#[] }) (hs:=es1.map (·.1)) (n:=5) (by rw [Array.size_map,hz2,h5]) rfl
   rw [e2]
   obtain ⟨g1,g2⟩:=pH (es:=es1) (ord:=ord) (by rw [hz2,h5];exact ol)
   refine wpAny_bind (m:=(if (ord.filterMap (es1[·]?)).size != es1.size then unsupported "internal:set-table-lost-an-element" >>= fun _:Unit=>pure (ord.filterMap (es1[·]?),t2) else pure (ord.filterMap (es1[·]?),t2):Sem (Array (Int×Value)×SetTable))) ?_
   rw [if_neg (by rw [g1,oz,hz2,h5];simp)]
   refine wpAny_pure ?_
   dsimp only
   refine wpAny_storeSet_of (s:={ s with toks:=tk,heap:=s.heap.update a (Obj.putSet es1 { t with place:=pl,dummies:=#[] }) }) ho1 rfl ?_ (by rw [g1,oz,sizeLine_eq];decide)
   refine wpAny_pure (hQ _ tk _ _ 5 htk (rl ho1) ⟨_,_,_,rfl,⟨by rw [g1,oz];exact T2.sz,T2.du,T2.up,by rw [g1,oz];exact T2.ms⟩,l2.trans tl,p2.trans tp,by rw [g1,oz],fun e h=>hm e (g2 e h)⟩ (by decide) (by omega) (by omega) (sb1.trans (Heap.SameBut.update _ a _)))
  ·rw [if_neg hfull]
   refine wpAny_pure (hQ _ tk _ _ _ htk ho1 ⟨es1,ep+1,_,rfl,⟨by rw [hz2];exact hz,rfl,hup,?_⟩,tl,tp,rfl,hm⟩ (by omega) (by omega) (by omega) sb1)
   rw [hz2]
   have hf:¬ (pl.size+0) * 5 ≥ t.mask * 3:=fun z=>hfull (by simpa [SetTable.tooFull,fill] using z)
   rw [hz] at hf
   rcases T.ms with ⟨e,e'⟩ | ⟨e,e'⟩
   ·exact .inl ⟨e,by rw [e] at hf;omega⟩
   ·exact .inr ⟨e,by omega⟩
 ·dsimp only
  exact wpAny_pure (hQ _ tk s.heap _ _ htk ho S h0 (Nat.le_refl _) (Nat.le_succ _) (Heap.SameBut.refl a s.heap))
 ·rcases T.ms with ⟨e,_⟩ | ⟨e,_⟩<;>rw [e]<;>decide
end
end ST
namespace ST
open PySem PySem.SetTable PySem.Spec
def cD (w:World):Bool:=!w.params.followText "set-order"
abbrev hZ (w:World):Obj:={ cls:=.type "set",dict:=none,data:=.set #[] 0 (.fresh 0 0 (cD w)) }
theorem xI {w:World} {P:Value→Prop}:Ts (cD w) P (hZ w) 0:=⟨#[],0,_,rfl,⟨rfl,rfl,.nil,.inl ⟨rfl,by decide⟩⟩,rfl,rfl,rfl,fun e h=>absurd h (by simp)⟩
section
variable {prog:Program} {w:World} {A:Around} {R:Result→Shared→Prop} {I:Addr} {fp wr:List Addr} {G:Array GenState→Array GenState→Prop} {n:Nat} {P:Nat→Value→Prop} {St:Nat→Shared→Prop}
theorem tK {PV:Value→Prop} {h0:Heap} (W:WalksS prog w A.in1 I fp wr G n P St) (S:Addr) (yb:S∉fp) (hu:A.in1.units < cLine) (hv:∀ i v,P i v→PV v) (hT:∀ v,PV v→TK prog w h0 v) (hn:n < 17) (Gu:∀ b∈S::wr,h0.get? b=none) :
  ∀ (k i:Nat) (s:Shared),n - i=k→i≤n→St i s→(∀ b o,h0.get? b=some o→s.heap.get? b=some o)→(∃ o c,s.heap.get? S=some o∧Ts (cD w) PV o c∧c≤i∧(0 < i→0 < c)) →
   (∀ s',Moved (S::wr) G s s'→(∃ o c,s'.heap.get? S=some o∧Ts (cD w) PV o c∧c≤n∧(0 < n→0 < c))→R (.ok (.ret .none)) s') →
   codeAny (model prog w) A (.builtin "set.update.loop" ⟨[.ref S,.ref I],[]⟩) R s:=by
 have hSw:S∉wr:=fun h=>yb (W.sub _ h)
 have up:∀ b∈wr,b∈S::wr:=fun b hb=>List.mem_cons_of_mem _ hb
 intro k
 induction k with
 | zero =>
  intro i s hk hi f9 hkp ⟨o,c,ho,hS,hc⟩ hR
  have e:i=n:=by omega
  subst e
  refine codeAny_builtin PyProof.Rows.F.entry_set_update_loop ?_
  rw [Around.under_plainId PyProof.Rows.F.plain_set_update_loop _]
  refine wpAny_bind (m:=pyNext (.ref I)) (W.done s _ _ f9 fun s' hm=>?_)
  exact wpAny_pure (hR s' (hm.mono up) ⟨o,c,hm.heap S _ hSw ho,hS,hc⟩)
 | succ k ih =>
  intro i s hk hi f9 hkp ⟨o,c,ho,hS,hc,Dx⟩ hR
  have eu:i < n:=by omega
  refine codeAny_builtin PyProof.Rows.F.entry_set_update_loop ?_
  rw [Around.under_plainId PyProof.Rows.F.plain_set_update_loop _]
  refine wpAny_bind (m:=pyNext (.ref I)) (W.item i s _ _ eu f9 fun v s' hP hst' hm=>?_)
  have hk':∀ b u,h0.get? b=some u→s'.heap.get? b=some u:=fun b u e=>hm.heap b u (fun hb=>by rw [Gu b (up b hb)] at e;cases e) (hkp b u e)
  have hT':∀ v,PV v→TK prog w s'.heap v:=fun v hv=>(hT v hv).keep fun b u _ e=>hk' b u e
  refine wpAny_bind (m:=holding [v] (setAdd S v)) (wpAny_holding (xu hu (hT' v (hv i v hP)) (hv i v hP) (hm.heap S _ hSw ho) hS hT' (by omega) fun b tk h' o' n' gt g1 g2 g3 g4 g5 sb=>?_))
  refine wpAny_pure ⟨plainId_quiet PyProof.Rows.F.plain_set_update_loop _,ih (i+1) _ (by omega) eu (W.frame _ s' h' tk hst' ?_ fun b hb u e=>?_) (fun b u e=>?_) ⟨o',n',g1,g2,by omega,fun _=>g3⟩ fun oN hm'' hS''=>?_⟩
  ·exact gt
  ·rw [sb.2 b (fun z:b=S=>yb (by rw [← z];exact hb))];exact e
  ·have hb:b≠S:=fun z=>by rw [z,Gu S (List.mem_cons_self ..)] at e;cases e
   show h'.get? b=some u
   rw [sb.2 b hb];exact hk' b u e
  ·refine hR oN (Moved.trans W.gtrans ((hm.mono up).then_heap ?_ fun b u hb e=>?_) hm'') hS''
   ·exact gt
   ·rw [sb.2 b (fun z:b=S=>hb (by rw [z];exact List.mem_cons_self))];exact e
end
section
variable {prog:Program} {w:World} {A:Around} {E:Value→Shared→Prop} {s:Shared}
theorem sk (a:Value) {Q:Value→Shared→Prop} (h:Q (.ref s.heap.objs.size) { s with heap:=s.heap.push (hZ w) }) :
  codeAny (model prog w) A (.call (.builtin "set.__new__") ⟨[.type "set",a],[]⟩) (wants Q E) s:=by
 refine codeAny_of_tree ?_
 show wpAny _ A.in1 (checkBuiltinCall "set.__new__" ⟨[.type "set",a],[]⟩ >>= fun _=>again (.builtin "set.__new__" ⟨[.type "set",a],[]⟩)) _ _ s
 refine wpAny_bind (wpAny_of_eq (PySem.F.newCall_set_1 a) (wpAny_pure ⟨plainId_quiet PySem.F.plain_set_new _,codeAny_builtin PySem.F.entry_set_new ?_⟩))
 rw [Around.under_plainId PySem.F.plain_set_new _]
 unfold Builtin.«set.__new__» Builtin.Frozenset.newClass
 have hs:=sub_set_self
 obtain ⟨hp,g,d,tk,os⟩:=s
 dsimp only
 wp_walk
 refine wpAny_askSetting (wpAny_pure ?_)
 dsimp only
 simp only [newObj]
 refine wpAny_bind (wpAny_alloc (wpAny_pure ?_))
 exact wpAny_pure h
theorem qI {l:Addr} {items:Array Value} {Q:Value→Shared→Prop} (hh:A.handled=none) (hu:A.in1.in1.in1.units < cLine) (hl:s.heap.IsList l items) (hT:∀ v∈items.toList,TK prog w s.heap v) (hb:items.size < 17)
  (h:∀ (h':Heap) (tk:Nat) o c,h'.get? s.heap.objs.size=some o→Ts (cD w) (·∈items.toList) o c→c≤items.size→(0 < items.size→0 < c)→(∀ b o,b < s.heap.objs.size→s.heap.get? b=some o→h'.get? b=some o)→Q (.ref s.heap.objs.size) { s with heap:=h',toks:=tk }) :
  wpAny (model prog w) A (call (.type "set") [.ref l]) Q E s:=by
 obtain ⟨c,tl,hmro⟩:=PySem.F.called_set.mro
 have hmade:=PySem.F.called_set.made
 have hsub:=PySem.F.called_set.sub
 refine wpAny_call (codeAny_of_tree ?_)
 show wpAny _ _ (callAny (.type "set") _) _ _ _
 refine wpAny_pure ⟨Code.quiet_builtin _ (by decide +kernel),codeAny_builtin PySem.F.entry_type_call ?_⟩
 rw [Around.under_plain (weight_type_call_type "set" [.ref l] []) rfl]
 have n1:=PySem.F.called_set.notType
 have n2:=PySem.F.called_set.canCreate
 have n3:=PySem.F.typeCall_set_1 (.ref l)
 repeat (any_goals (first | assumption | wp_step))
 refine codeAny_mono (sk (.ref l) (E:=E) (Q:=fun obj s₁=>obj=.ref s.heap.objs.size∧s₁={ s with heap:=s.heap.push (hZ w) }) ⟨rfl,rfl⟩) fun r s₁ hr=>?_
 cases r with
 | error e=>exact hr
 | ok f =>
  cases f with
  | ret obj =>
   obtain ⟨rfl,rfl⟩:=hr
   have hS:(s.heap.push (hZ w)).get? s.heap.objs.size=some (hZ w):=Heap.get?_push_size _ rfl
   have hTy:Shared.TypeIs { s with heap:=s.heap.push (hZ w) } (.ref s.heap.objs.size) "set":=⟨_,hS,rfl⟩
   have m1:=PySem.F.called_set.init.lookup
   have m2:=PySem.F.called_set.init.bind (.ref s.heap.objs.size)
   repeat (any_goals (first | assumption | wp_step))
   refine codeAny_mono (codeAny_call_builtin (R:=wants (fun r s₂=>r=.none∧∃ h' tk o c,s₂={ s with heap:=h',toks:=tk }∧h'.get? s.heap.objs.size=some o∧Ts (cD w) (·∈items.toList) o c∧c≤items.size∧(0 < items.size→0 < c) ∧
     (∀ b o,b < s.heap.objs.size→s.heap.get? b=some o→h'.get? b=some o)) E) PySem.F.called_set.init.plain PySem.F.entry_set_init (check_set_init_1 hTy ?_)) fun r₂ s₂ hr₂=>?_
   ·obtain ⟨ol,hol,xn,nl,hdl⟩:=hl
    obtain ⟨ocls,odict,odata,oslots⟩:=ol
    simp only at xn hdl
    subst xn;subst hdl
    have hol':(s.heap.push (hZ w)).get? l=some { cls:=.type "list",dict:=odict,data:=.seq items nl,slots:=oslots }:=Heap.get?_push_of_some _ hol
    have q1:=PySem.F.sub_list_set
    have q2:=PySem.F.sub_list_frozenset
    have q3:(Value.type "list" == Value.type "dict")=false:=by decide
    have hl1:(s.heap.push (hZ w)).IsList l items:=⟨_,hol',rfl,nl,rfl⟩
    unfold Builtin.«set.__init__» noKeywords Builtin.Frozenset.updateFrom
    generalize hPI:pyIter=PI
    wp_walk
    subst hPI
    refine wpAny_pyIter_list hl1 ?_
    refine wpAny_bind (wpAny_runValue ?_)
    have hlS:l < s.heap.objs.size:=Heap.lt_size hol
    have hh3:A.in1.in1.in1.handled=none:=by simp [hh]
    have hneI:l≠(s.heap.push (hZ w)).objs.size:=by
     rw [Heap.size_push];exact Nat.ne_of_lt (Nat.lt_succ_of_lt hlS)
    have yb:s.heap.objs.size∉[(s.heap.push (hZ w)).objs.size,l]:=by
     rw [Heap.size_push]
     intro z
     rcases List.mem_cons.mp z with z | z
     ·exact absurd z (Nat.ne_of_lt (Nat.lt_succ_self _))
     ·exact absurd (List.mem_singleton.mp z) (Nat.ne_of_gt hlS)
    refine tK (PV:=(·∈items.toList)) (h0:=s.heap) ((Walks.list hh3 _ l hneI items).toS) s.heap.objs.size yb hu (fun i v hv=>?_) hT hb (fun b hb=>?_) (items.size - 0) 0 _ (by omega) (Nat.zero_le _)
     ⟨⟨_,Heap.get?_push_size _ rfl,rfl,rfl⟩,(hl1.push _)⟩ (fun b o e=>Heap.get?_push_of_some _ (Heap.get?_push_of_some _ e)) ⟨_,0,Heap.get?_push_of_some _ hS,xI,Nat.le_refl _,fun z=>z⟩ ?_
    ·exact Array.mem_toList_iff.mpr (Array.mem_of_getElem? hv)
    ·refine Heap.get?_none_of_le ?_
     rcases List.mem_cons.mp hb with rfl | hb
     ·exact Nat.le_refl _
     ·rw [List.mem_singleton.mp hb,Heap.size_push]
      exact Nat.le_succ _
    ·intro s' hm ⟨o,c,ho,hTs,hc,Dx⟩
     obtain ⟨h',g',d',tk',os'⟩:=s'
     have eg:g'=s.gens:=hm.gens
     have ed:d'=s.drawn:=hm.drawn
     have eo:os'=s.os:=hm.os
     subst eg;subst ed;subst eo
     refine wpAny_pure ?_
     refine wpAny_pure ⟨rfl,h',tk',o,c,rfl,ho,hTs,hc,Dx,fun b o hb e=>?_⟩
     refine hm.heap b o (fun z=>?_) (Heap.get?_push_of_some _ (Heap.get?_push_of_some _ e))
     rcases List.mem_cons.mp z with z | z
     ·exact absurd z (Nat.ne_of_lt hb)
     ·rw [List.mem_singleton.mp z,Heap.size_push] at hb
      exact absurd hb (by omega)
   ·cases r₂ with
    | error e=>exact hr₂
    | ok f₂ =>
     cases f₂ with
     | ret r =>
      obtain ⟨rfl,h',tk,o,c,rfl,h1,h2,h3,h4,h5⟩:=hr₂
      repeat (any_goals (first | assumption | wp_step))
      exact h _ _ o c h1 h2 h3 h4 h5
     | _=>exact hr₂.elim
  | _=>exact hr.elim
end
end ST
namespace ST
open PySem PySem.SetTable PySem.Spec
theorem dZ:Slot "set_iterator" "__next__" "set_iterator.__next__" :=
 .of (owner:="set_iterator") (n:="__next__") (by rw [typeLookup_type,builtinLookup_eq_fast];kernel_rfl) (by decide +kernel) (by decide +kernel) (by decide +kernel) (by first | exact .inl (by decide +kernel) | exact .inr (by decide +kernel)) (by rw [isSubtype_type];kernel_rfl)
theorem nq:Slot "set_iterator" "__iter__" "set_iterator.__iter__" :=
 .of (owner:="set_iterator") (n:="__iter__") (by rw [typeLookup_type,builtinLookup_eq_fast];kernel_rfl) (by decide +kernel) (by decide +kernel) (by decide +kernel) (by first | exact .inl (by decide +kernel) | exact .inr (by decide +kernel)) (by rw [isSubtype_type];kernel_rfl)
theorem kj:entryFor table "set_iterator.__next__"=some Builtin.«set_iterator.__next__»:=entryFor_of_tree (by kernel_rfl)
theorem rA:entryFor table "set_iterator.__iter__"=some Builtin.«dict_keyiterator.__iter__» :=
 entryFor_alias (id':="dict_keyiterator.__iter__") (by kernel_rfl) rfl (by decide +kernel) (by kernel_rfl)
theorem pI:entryFor table "set.__iter__"=some Builtin.«frozenset.__iter__» :=
 entryFor_alias (id':="frozenset.__iter__") (by kernel_rfl) rfl (by decide +kernel) (by kernel_rfl)
theorem j9:Manifest.owners.lookup (String.ofList ['r','o','t','a','r','e','t','i','_','t','e','s'].reverse)=some Manifest.sig_set_iterator:=by kernel_rfl
theorem nz (a:Value):argsOk "set_iterator.__next__" ⟨[a],[]⟩:=by
 unfold argsOk;rw [signature?_of (id:="set_iterator.__next__") (n:=['_','_','t','x','e','n','_','_']) (o:=['r','o','t','a','r','e','t','i','_','t','e','s']) (by kernel_rfl) j9];kernel_rfl
theorem sN (a:Value):argsOk "set_iterator.__iter__" ⟨[a],[]⟩:=by
 unfold argsOk;rw [signature?_of (id:="set_iterator.__iter__") (n:=['_','_','r','e','t','i','_','_']) (o:=['r','o','t','a','r','e','t','i','_','t','e','s']) (by kernel_rfl) j9];kernel_rfl
section
variable {prog:Program} {w:World} {A:Around} {E:Value→Shared→Prop} {s:Shared} {a:Addr} {es:Array (Int×Value)} {ep:Nat} {t:SetTable}
theorem mZ {α:Type} {f:Nat→Nat}:∀ (n k:Nat) (l:List α) (out:Array α),l.length=n→(pickOrder.go f n k l out).size=out.size+n∧∀ x∈(pickOrder.go f n k l out).toList,x∈out.toList∨x∈l
 | 0,k,l,out,h=>⟨rfl,fun x hx=>.inl hx⟩
 | n+1,k,l,out,h=>by
  unfold pickOrder.go
  have hl:f k % l.length < l.length:=Nat.mod_lt _ (by omega)
  rw [List.getElem?_eq_getElem hl]
  dsimp only
  obtain ⟨h1,h2⟩:=mZ (f:=f) n (k+1) (l.eraseIdx (f k % l.length)) (out.push l[f k % l.length]) (by rw [List.length_eraseIdx_of_lt hl];omega)
  refine ⟨by rw [h1,Array.size_push];omega,fun x hx=>?_⟩
  rcases h2 x hx with h | h
  ·rw [Array.toList_push] at h
   rcases List.mem_append.mp h with h | h
   ·exact .inl h
   ·rw [List.mem_singleton.mp h]
    exact .inr (List.getElem_mem hl)
  ·exact .inr (List.mem_of_mem_eraseIdx h)
theorem m4 {α:Type} {f:Nat→Nat} (xs:Array α):(pickOrder f xs).size=xs.size∧∀ x∈(pickOrder f xs).toList,x∈xs.toList:=by
 obtain ⟨h1,h2⟩:=mZ (f:=f) xs.size 0 xs.toList #[] (by rw [Array.length_toList])
 refine ⟨by unfold pickOrder;rw [h1];simp,fun x hx=>?_⟩
 rcases h2 x hx with h | h
 ·simp at h
 ·exact h
def slotAt (w:World) (t:SetTable) (i:Nat):Nat:=if w.params.followText "set-order"=true then 0 else if i=0 then 0 else t.place.getD (i - 1) 0+1
theorem below_at {n i:Nat} (T:Tb t n) (hi:i≤n):below t.place (if i=0 then 0 else t.place.getD (i - 1) 0+1)=i:=by
 obtain ⟨h1,h2,h3⟩:=gj T.up (if i=0 then 0 else t.place.getD (i - 1) 0+1)
 have gt:∀ {k:Nat},k < n→t.place.toList[k]?=some (t.place.getD k 0):=fun {k} hk=>by
  have hk':k < t.place.size:=by rw [T.sz];exact hk
  rw [Array.getElem?_toList,Array.getElem?_eq_getElem hk']
  simp [Array.getD,hk']
 rw [T.sz] at h1
 generalize below t.place (if i=0 then 0 else t.place.getD (i - 1) 0+1)=b at h1 h2 h3
 by_cases hi0:i=0
 ·rw [if_pos hi0] at h2 h3
  by_cases hb:b=0
  ·omega
  ·exact absurd (h2 0 _ (by omega) (gt (by omega))) (Nat.not_lt_zero _)
 ·rw [if_neg hi0] at h2 h3
  by_cases hb:b < i
  ·have:=h3 (i - 1) _ (by omega) (gt (by omega))
   omega
  ·by_cases hb2:i < b
   ·have e1:=h2 i _ hb2 (gt (by omega))
    have g1:=gt (k:=i - 1) (by omega)
    have g2:=gt (k:=i) (by omega)
    obtain ⟨a1,b1⟩:=List.getElem?_eq_some_iff.mp g1
    obtain ⟨a2,b2⟩:=List.getElem?_eq_some_iff.mp g2
    have:=List.pairwise_iff_getElem.mp T.up _ _ a1 a2 (by omega)
    omega
   ·omega
theorem n5 {i:Nat} {Q:Option (Value×Nat)→Shared→Prop} (ho:s.heap.get? a=some (tR es ep t)) (T:Tb t es.size) (hl:t.led=cD w) (hp:t.plain=true) (hi:i < es.size)
  (h:∀ e∈es.toList,Q (some (e.2,slotAt w t (i+1))) s):wpAny (model prog w) A (setNext a (slotAt w t i) i ep) Q E s:=by
 unfold setNext
 refine wpAny_bind (wpAny_setState_of ho rfl T.fits ?_)
 dsimp only
 unfold setsByText
 refine wpAny_bind (wpAny_bind (wpAny_askSetting (wpAny_pure ?_)))
 cases hb:w.params.followText "set-order" with
 | true =>
  dsimp only
  rw [if_pos (show (model prog w).w.params.followText "set-order"=true from hb),if_neg (by simp)]
  refine wpAny_bind ?_
  unfold setWalk
  refine wpAny_bind (wpAny_setState_of ho rfl T.fits ?_)
  dsimp only
  unfold setsByText
  refine wpAny_bind (wpAny_bind (wpAny_askSetting (wpAny_pure ?_)))
  dsimp only
  rw [if_pos (show (model prog w).w.params.followText "set-order"=true from hb)]
  refine wpAny_bind (wpAny_askSetting (wpAny_pure (wpAny_pure ?_)))
  dsimp only
  obtain ⟨g1,g2⟩:=m4 (f:=(model prog w).w.params.setOrder a ep) es
  have lu:i < (pickOrder ((model prog w).w.params.setOrder a ep) es).size:=by rw [g1];exact hi
  rw [Array.getElem?_eq_getElem lu]
  have e:slotAt w t i=slotAt w t (i+1):=by unfold slotAt;rw [hb,if_pos rfl,if_pos rfl]
  rw [e]
  exact h _ (g2 _ (Array.mem_toList_iff.mpr (Array.getElem_mem lu)))
 | false =>
  dsimp only
  rw [if_neg (show ¬ ((model prog w).w.params.followText "set-order"=true) by rw [show (model prog w).w.params.followText "set-order"=false from hb];decide)]
  refine wpAny_ite_split (fun hab=>absurd (show (!t.plain&&decide (es.size > 1))=true from hab) (by rw [hp];simp)) (fun _=>?_)
  refine wpAny_bind (show wpAny _ _ (if (!t.led&&!es.isEmpty)=true then unsupported "set:maker-not-led" else pure ()) _ _ _ from ?_)
  rw [hl,if_neg (by unfold cD;rw [hb];simp)]
  refine wpAny_pure (wpAny_pure ?_)
  have e1:slotAt w t i=if i=0 then 0 else t.place.getD (i - 1) 0+1:=by unfold slotAt;rw [hb,if_neg (by decide)]
  rw [e1,below_at T (Nat.le_of_lt hi),Array.getElem?_eq_getElem hi]
  have lu:i < t.place.size:=by rw [T.sz];exact hi
  rw [Array.getElem?_eq_getElem lu]
  have e2:slotAt w t (i+1)=t.place[i]+1:=by
   unfold slotAt
   rw [hb,if_neg (by decide),if_neg (by omega)]
   simp [Array.getD,lu]
  have:=h es[i] (Array.mem_toList_iff.mpr (Array.getElem_mem hi))
  rw [e2] at this
  exact this
theorem oP {Q:Option (Value×Nat)→Shared→Prop} (ho:s.heap.get? a=some (tR es ep t)) (T:Tb t es.size) (hl:t.led=cD w) (hp:t.plain=true)
  (h:Q none s):wpAny (model prog w) A (setNext a (slotAt w t es.size) es.size ep) Q E s:=by
 unfold setNext
 refine wpAny_bind (wpAny_setState_of ho rfl T.fits ?_)
 dsimp only
 unfold setsByText
 refine wpAny_bind (wpAny_bind (wpAny_askSetting (wpAny_pure ?_)))
 cases hb:w.params.followText "set-order" with
 | true =>
  dsimp only
  rw [if_pos (show (model prog w).w.params.followText "set-order"=true from hb),if_neg (by simp)]
  refine wpAny_bind ?_
  unfold setWalk
  refine wpAny_bind (wpAny_setState_of ho rfl T.fits ?_)
  dsimp only
  unfold setsByText
  refine wpAny_bind (wpAny_bind (wpAny_askSetting (wpAny_pure ?_)))
  dsimp only
  rw [if_pos (show (model prog w).w.params.followText "set-order"=true from hb)]
  refine wpAny_bind (wpAny_askSetting (wpAny_pure (wpAny_pure ?_)))
  dsimp only
  obtain ⟨g1,g2⟩:=m4 (f:=(model prog w).w.params.setOrder a ep) es
  rw [Array.getElem?_eq_none (by rw [g1];exact Nat.le_refl _)]
  exact h
 | false =>
  dsimp only
  rw [if_neg (show ¬ ((model prog w).w.params.followText "set-order"=true) by rw [show (model prog w).w.params.followText "set-order"=false from hb];decide)]
  refine wpAny_ite_split (fun hab=>absurd (show (!t.plain&&decide (es.size > 1))=true from hab) (by rw [hp];simp)) (fun _=>?_)
  refine wpAny_bind (show wpAny _ _ (if (!t.led&&!es.isEmpty)=true then unsupported "set:maker-not-led" else pure ()) _ _ _ from ?_)
  rw [hl,if_neg (by unfold cD;rw [hb];simp)]
  refine wpAny_pure (wpAny_pure ?_)
  have e1:slotAt w t es.size=if es.size=0 then 0 else t.place.getD (es.size - 1) 0+1:=by unfold slotAt;rw [hb,if_neg (by decide)]
  rw [e1,below_at T (Nat.le_refl _),Array.getElem?_eq_none (Nat.le_refl _)]
  exact h
end
end ST
namespace ST
open PySem PySem.SetTable PySem.Spec PySem.W
section
variable {prog:Program} {w:World} {A:Around} {E:Value→Shared→Prop} {s:Shared} {a I:Addr} {es:Array (Int×Value)} {ep:Nat} {t:SetTable}
def yq (w:World) (a I:Addr) (es:Array (Int×Value)) (ep:Nat) (t:SetTable) (i:Nat) (h:Heap):Prop :=
 h.get? a=some (tR es ep t)∧∃ o,h.get? I=some o∧o.cls=.type "set_iterator"∧o.data=.fields #[rawInt (slotAt w t i:Nat),rawInt (i:Nat),.ref a,rawInt (es.size:Nat),rawInt (ep:Nat)]
theorem yq.ty {i:Nat} (x:yq w a I es ep t i s.heap):s.TypeIs (.ref I) "set_iterator":=let ⟨_,o,ho,hc,_⟩:=x;⟨o,ho,hc⟩
theorem tL {i:Nat} {Q:Option Value→Shared→Prop} (T:Tb t es.size) (hl:t.led=cD w) (hp:t.plain=true) (nX:a≠I) (x:yq w a I es ep t i s.heap) (hi:i < es.size)
  (hQ:∀ e∈es.toList,∀ h',yq w a I es ep t (i+1) h'→(∀ b o,b≠I→s.heap.get? b=some o→h'.get? b=some o)→Q (some e.2) { s with heap:=h' }):wpAny (model prog w) A (pyNext (.ref I)) Q E s:=by
 obtain ⟨h0,o,ho,hc,hd⟩:=id x
 unfold pyNext
 refine wpAny_bind (wpAny_attempt (wpAny_callSpecial?_slot (name:=Str.ofString "__next__") x.ty dZ (wpAny_call_entry dZ x.ty kj ?_ (nz _))))
 unfold Builtin.«set_iterator.__next__»
 refine wpAny_bind (wpAny_pure ?_)
 refine wpAny_bind (wpAny_fieldsOf ho hd ?_)
 dsimp only [rawInt]
 refine wpAny_bind (wpAny_setEntries_of h0 rfl T.fits ?_)
 rw [if_neg (by simp)]
 rw [Int.toNat_natCast,Int.toNat_natCast,Int.toNat_natCast]
 refine wpAny_bind (n5 h0 T hl hp hi fun e he=>?_)
 dsimp only
 refine wpAny_bind (wpAny_setField ho hd (by simp) ?_)
 have hd1:=Obj.data_mapFields hd (·.setIfInBounds 0 (rawInt ((slotAt w t (i+1):Nat):Int)))
 have ho1:=Heap.get?_update_self (Obj.mapFields (·.setIfInBounds 0 (rawInt ((slotAt w t (i+1):Nat):Int)))) ho (Obj.isFreed_of_fields hd1)
 refine wpAny_bind (wpAny_setField ho1 hd1 (by simp) ?_)
 have hd2:=Obj.data_mapFields hd1 (·.setIfInBounds 1 (rawInt ((i:Int)+1)))
 have ho2:=Heap.get?_update_self (Obj.mapFields (·.setIfInBounds 1 (rawInt ((i:Int)+1)))) ho1 (Obj.isFreed_of_fields hd2)
 refine wpAny_pure ⟨_,rfl,wpAny_pure (hQ e he _ ⟨?_,_,ho2,?_,?_⟩ fun b u hb e=>?_)⟩
 ·exact (Heap.get?_update_other _ _ (Ne.symm nX)).trans ((Heap.get?_update_other _ _ (Ne.symm nX)).trans h0)
 ·rw [Obj.cls_mapFields,Obj.cls_mapFields];exact hc
 ·rw [hd2];simp [rawInt]
 ·exact (Heap.get?_update_other _ _ (Ne.symm hb)).trans ((Heap.get?_update_other _ _ (Ne.symm hb)).trans e)
theorem wK {Q:Option Value→Shared→Prop} (hh:A.handled=none) (T:Tb t es.size) (hl:t.led=cD w) (hp:t.plain=true) (x:yq w a I es ep t es.size s.heap)
  (hQ:∀ h',(∀ b o,b≠I→s.heap.get? b=some o→h'.get? b=some o)→Q none { s with heap:=h' }):wpAny (model prog w) A (pyNext (.ref I)) Q E s:=by
 obtain ⟨h0,o,ho,hc,hd⟩:=id x
 unfold pyNext
 refine wpAny_bind (wpAny_attempt (wpAny_callSpecial?_slot (name:=Str.ofString "__next__") x.ty dZ (wpAny_call_entry dZ x.ty kj ?_ (nz _))))
 unfold Builtin.«set_iterator.__next__»
 refine wpAny_bind (wpAny_pure ?_)
 refine wpAny_bind (wpAny_fieldsOf ho hd ?_)
 dsimp only [rawInt]
 refine wpAny_bind (wpAny_setEntries_of h0 rfl T.fits ?_)
 rw [if_neg (by simp)]
 rw [Int.toNat_natCast,Int.toNat_natCast,Int.toNat_natCast]
 refine wpAny_bind (oP h0 T hl hp ?_)
 dsimp only
 refine wpAny_bind (wpAny_setField ho hd (by simp) ?_)
 refine wpAny_bind (m:=newExc (.type "StopIteration") []) ?_
 simp only [newExc,newTuple]
 refine wpAny_bind (wpAny_newObj_type ?_ (by size_fits))
 refine wpAny_bind (m:=firstArgMember _ _) (wpAny_of_eq (a:=Value.none) (by first | rfl | (simp only [firstArgMember];rfl)) ?_)
 refine wpAny_newObj_type ?_ (by size_fits)
 simp only [raiseNew]
 refine wpAny_bind (wpAny_handled ?_)
 rw [show A.in1.handled=none from hh]
 refine wpAny_bind (wpAny_pure (wpAny_throw ?_))
 refine wpAny_bind (wpAny_isInstance (T:="StopIteration") (b:=true) ⟨_,Heap.get?_push_size _ rfl,rfl⟩ isSubtype_stop ?_)
 refine wpAny_pure (hQ _ fun b u hb e=>?_)
 exact Heap.get?_push_of_some _ (Heap.get?_push_of_some _ ((Heap.get?_update_other _ _ (Ne.symm hb)).trans e))
theorem oJ (hh:A.handled=none) (I a:Addr) (nX:a≠I) (T:Tb t es.size) (hl:t.led=cD w) (hp:t.plain=true) :
  Walks prog w A I [I,a] [I] es.size (fun _ v=>∃ e∈es.toList,v=e.2) (fun i h=>yq w a I es ep t i h) where
 sub:=fun b hb=>by simp at hb;simp [hb]
 frame:=fun _ _ _ st hk=>by
  obtain ⟨h0,o,ho,r⟩:=st
  exact ⟨hk a (by simp) _ h0,o,hk I (by simp) _ ho,r⟩
 item:=fun i s Q E hi st hQ=>tL T hl hp nX st hi fun e he h' st' hk=>hQ e.2 h' s.toks ⟨e,he,rfl⟩ st' fun b o hb q=>hk b o (fun z=>hb (by simp [z])) q
 done:=fun s Q E st hQ=>wK hh T hl hp st fun h' hk=>hQ h' s.toks fun b o hb q=>hk b o (fun z=>hb (by simp [z])) q
 self:=fun i s Q E st hQ=>by
  refine wpAny_pyIter_slot st.ty nq (wpAny_call_entry nq st.ty rA ?_ (sN _))
  show wpAny _ _ (ret (.ref I)) _ _ s
  exact wpAny_pure ⟨_,rfl,"set_iterator",_,st.ty,dZ.lookup,hQ⟩
theorem vF {Q:Value→Shared→Prop} (h0:s.heap.get? a=some (tR es ep t)) (T:Tb t es.size) (hp:t.plain=true)
  (h:Q (.ref s.heap.objs.size) { s with heap:=s.heap.push { cls:=.type "set_iterator",data:=.fields #[rawInt 0,rawInt 0,.ref a,rawInt (es.size:Nat),rawInt (ep:Nat)] } }):wpAny (model prog w) A (pyIter (.ref a)) Q E s:=by
 have ty:s.TypeIs (.ref a) "set":=⟨_,h0,rfl⟩
 refine wpAny_pyIter_slot ty PySem.F.slot_set_iter (wpAny_call_entry PySem.F.slot_set_iter ty pI ?_ (PySem.F.args_set_iter_1 _))
 unfold Builtin.«frozenset.__iter__» Builtin.Frozenset.slot0 Builtin.Frozenset.sizeOf
 refine wpAny_bind (wpAny_bind (wpAny_pure (wpAny_pure ?_)))
 dsimp only
 refine wpAny_bind (wpAny_bind (wpAny_setEntries_of h0 rfl T.fits (wpAny_pure ?_)))
 unfold setDrawn setsByText
 refine wpAny_bind (wpAny_bind (wpAny_setState_of h0 rfl T.fits (wpAny_bind (wpAny_bind (wpAny_askSetting (wpAny_pure ?_))))))
 refine wpAny_pure ?_
 refine wpAny_ite_split (fun hab=>absurd (show (!(model prog w).w.params.followText "set-order"&&(!t.plain&&decide (es.size > 1)))=true from hab) (by rw [hp];simp)) (fun _=>?_)
 refine wpAny_bind (wpAny_pure ?_)
 refine wpAny_bind (wpAny_setEpoch_of h0 rfl T.fits ?_)
 unfold newFields
 refine wpAny_bind (wpAny_newObj_type (wpAny_pure ⟨_,rfl,"set_iterator",_,⟨_,Heap.get?_push_size _ rfl,rfl⟩,dZ.lookup,h⟩))
theorem pK {Q:Bool→Shared→Prop} (ty:s.TypeIs (.ref a) "set") (h:Q false s):wpAny (model prog w) A (Builtin.List.listLengthHint (.ref a)) Q E s:=by
 unfold Builtin.List.listLengthHint
 refine wpAny_bind (wpAny_specialOf ty PySem.F.slot_set_len.lookup ?_)
 generalize hid:("set.__len__":String)=id0
 wp_delta
 rw [show splitId id0=some ("set","__len__") from by subst hid;decide +kernel]
 subst hid
 refine wpAny_bind (wpAny_isInstance (T:="set") (b:=true) ty sub_set_self ?_)
 refine wpAny_ite_split (fun z=>absurd z (by decide)) (fun _=>?_)
 refine wpAny_ite_split (fun _=>?_) (fun z=>absurd (by decide +kernel) z)
 refine wpAny_bind (wpAny_typeOf ty ?_)
 exact wpAny_pure h
theorem sT (T:Tb t es.size) (hl:t.led=cD w) (hp:t.plain=true):KdlSrc prog w "set" a a es.size (fun _ v=>∃ e∈es.toList,v=e.2) (fun h=>h.get? a=some (tR es ep t)) where
 type:=fun _ h=>⟨_,h,rfl⟩
 there:=fun _ h=>⟨Heap.lt_size h,Heap.lt_size h⟩
 keep:=fun _ _ h hk=>hk a (.inl rfl) _ h
 notList:=by decide
 notTuple:=by decide
 hint:=fun _ _ _ _ h hq=>pK ⟨_,h,rfl⟩ hq
 iter:=fun _ s hh h=>⟨_,_,(fun _ _ hq=>vF h T hp hq),oJ hh _ a (Nat.ne_of_lt (Heap.lt_size h)) T hl hp,Heap.get?_push_of_some _ h,_,Heap.get?_push_size _ rfl,rfl,by
  have e:slotAt w t 0=0:=by unfold slotAt;split<;>rfl
  rw [e]
  rfl⟩
end
end ST
namespace ST
open PySem PySem.Spec PySem.W PyProof.Rows
def Gd {α:Type} (n:Nat) (L:α→Prop):KasT α→Prop
 | .ret a=>L a
 | .ask i j k=>i < n∧j < n∧∀ b,Gd n L (k b)
theorem Gd.bind {α β:Type} {n:Nat} {L:α→Prop} {L':β→Prop} {f:α→KasT β}:∀ {t:KasT α},Gd n L t→(∀ a,L a→Gd n L' (f a))→Gd n L' (t.bind f)
 | .ret a,h,k=>k a h
 | .ask i j c,h,k=>⟨h.1,h.2.1,fun b=>Gd.bind (h.2.2 b) k⟩
theorem Gd.wp {α:Type} {n:Nat} {L:α→Prop} {cmp:Nat→Nat→(Bool→Shared→Prop)→Shared→Prop} {s:Shared} (hc:∀ i j C,i < n→j < n→(∀ b,C b s)→cmp i j C s):∀ {t:KasT α} {Q:α→Shared→Prop},Gd n L t→(∀ a,L a→Q a s)→t.kasWp cmp Q s
 | .ret a,Q,h,q=>q a h
 | .ask i j c,Q,h,q=>hc i j _ h.1 h.2.1 fun b=>Gd.wp hc (h.2.2 b) q
def Al (n:Nat) (p:Array Nat):Prop:=∀ x∈p.toList,x < n
section
variable {n:Nat} {p:Array Nat}
theorem Al.at (h:Al n p) (h0:0 < n) (k:Nat):p.getD k 0 < n:=by
 by_cases hk:k < p.size
 ·have e:p.getD k 0=p[k]:=by simp [Array.getD,hk]
  rw [e]
  exact h _ (Array.mem_toList_iff.mpr (Array.getElem_mem hk))
 ·have e:p.getD k 0=0:=by simp [Array.getD,hk]
  rw [e]
  exact h0
theorem Al.perm {q:Array Nat} (h:Al n p) (e:q.Perm p):Al n q:=fun x hx=>h x (Array.mem_toList_iff.mpr (e.mem_iff.mp (Array.mem_toList_iff.mp hx)))
theorem Al.rev (h:Al n p) (i j:Nat):Al n (kas_rev p i j):=h.perm (mirror_perm ..)
theorem mC (h:Al n p) (h0:0 < n):∀ (f m:Nat),Gd n (fun _=>True) (kas_asc p f m)
 | 0,m=>trivial
 | f+1,m=>⟨h.at h0 _,h.at h0 _,fun b=>by cases b<;>first | exact mC h h0 f (m+1) | exact trivial⟩
theorem fW (h0:0 < n):∀ (f:Nat) (p:Array Nat) (m q:Nat),Al n p→Gd n (fun r=>Al n r.1) (kas_desc f p m q)
 | 0,p,m,q,h=>h
 | f+1,p,m,q,h=>⟨h.at h0 _,h.at h0 _,fun b=>by
  cases b with
  | true =>
   by_cases hq:q > 0
   ·simp only [hq,if_true]
    exact fW h0 f _ _ _ (h.rev _ _)
   ·simp only [hq,if_true,if_false]
    exact fW h0 f _ _ _ h
  | false=>exact ⟨h.at h0 _,h.at h0 _,fun d=>by cases d<;>first | exact fW h0 f p (m+1) (q+1) h | exact h⟩⟩
theorem mJ (h0:0 < n) (h:Al n p) (m r:Nat):Gd n (fun x=>Al n x.2) (kas_tail3 m r p):=(mC (h.rev 0 m) h0 _ _).bind fun _ _=>h.rev 0 m
theorem m7 (h0:0 < n) (h:Al n p) (m r:Nat):Gd n (fun x=>Al n x.2) (kas_descPart m r p):=(fW h0 _ _ _ _ h).bind fun a ha=>by
 split
 ·exact mJ h0 (ha.rev _ _) _ _
 ·exact mJ h0 ha _ _
theorem pR (h0:0 < n) (h:Al n p) (r:Nat):Gd n (fun x=>Al n x.2) (kas_count r p):=(mC h h0 _ _).bind fun m _=>by
 split
 ·exact h
 ·split
  ·refine ⟨h.at h0 _,h.at h0 _,fun b=>?_⟩
   cases b
   ·exact m7 h0 (h.rev _ _) _ _
   ·exact h
  ·exact m7 h0 h _ _
theorem kB (h0:0 < n) (h:Al n p) (k:Nat):∀ (f l r:Nat),Gd n (fun _=>True) (kas_place p k f l r)
 | 0,l,r=>trivial
 | f+1,l,r=>by
  unfold kas_place
  split
  ·exact trivial
  ·exact ⟨h.at h0 _,h.at h0 _,fun b=>by cases b<;>exact kB h0 h k f _ _⟩
theorem q5 (h0:0 < n):∀ (f:Nat) (p:Array Nat) (k:Nat),Al n p→Gd n (Al n) (kas_bin f p k)
 | 0,p,k,h=>h
 | f+1,p,k,h=>(kB h0 h k _ _ _).bind fun l _=>q5 h0 f _ _ (h.perm (bubble_perm ..))
theorem tF (h0:0 < n):Gd n (Al n) (kas_sort n):=(pR h0 (p:=List.toArray (List.range n)) (fun x hx=>List.mem_range.mp (by simpa using hx)) n).bind fun r hr=>by
 split
 ·exact q5 h0 _ _ _ hr
 ·exact hr
end
section
variable {prog:Program} {w:World} {A:Around} {E:Value→Shared→Prop} {s:Shared}
def TN (prog:Program) (w:World) (h:Heap) (v:Value):Prop:=∃ ks a,v=.ref a∧ks≠[]∧IsTupleKey (intKind prog w) h ks a
theorem TN.tk {h:Heap} {v:Value} (x:TN prog w h v):TK prog w h v:=let ⟨ks,a,e,_,r⟩:=x;⟨ks,a,e,r⟩
theorem TN.keep {h h':Heap} {v:Value} (x:TN prog w h v) (k:∀ b o,o.cls=.type "tuple"→h.get? b=some o→h'.get? b=some o):TN prog w h' v:=by
 obtain ⟨ks,a,e,hn,o,it,n,h1,h2,h3⟩:=x
 exact ⟨ks,a,e,hn,o,it,n,k a o h2 h1,h2,h3⟩
theorem qY {fin:Bool} {Q:Bool→Shared→Prop} (q:∀ b,Q b s):∀ (xs ys:List Value) (ks ls:List Int) (i:Nat),ItemsAre (intKind prog w) ks xs→ItemsAre (intKind prog w) ls ys→KatLex prog w A true fin Q (xs.zip ys) i s
 | [],_,_,_,_,_,_=>by rw [List.zip_nil_left];exact q fin
 | _::_,[],_,_,_,_,_=>by rw [List.zip_nil_right];exact q fin
 | x::xs,y::ys,_,_,i,.cons h1 h2,.cons g1 g2=>by
  rw [List.zip_cons_cons]
  refine kat_cons ((intKind prog w).eqBool h1 g1 (kat_go (fun _=>kat_yes (qY q xs ys _ _ (i+1) h2 g2)) fun _=>kat_no ?_))
  obtain ⟨t,rfl⟩:=Value.isInt_shape (show Value.isInt _ x=true from h1)
  obtain ⟨u,rfl⟩:=Value.isInt_shape (show Value.isInt _ y=true from g1)
  cases hi:(i == 0) with
  | true=>exact oneLt_int (q _)
  | false=>exact kat_one _ _ (PyProof.Rows.lt_int (q _))
theorem Ac {x y:Value} {Q:Bool→Shared→Prop} (hx:TN prog w s.heap x) (hy:TN prog w s.heap y) (q:∀ b,Q b s):wpAny (model prog w) A (keyLt' (tuples' true) x y) Q E s:=by
 obtain ⟨ks,a,rfl,_,o,it,n,h1,_,h3,h4⟩:=hx
 obtain ⟨ls,b,rfl,_,o',it',n',g1,_,g3,g4⟩:=hy
 exact kat_lt h1 h3 g1 g3 (qY q _ _ _ _ 0 h4 g4)
theorem qe:∀ (vs:List Value),(∀ v∈vs,TN prog w s.heap v)→∃ fs,KatTups s.heap vs fs∧fs.length=vs.length∧∀ f∈fs,∃ i t,f=.int i t
 | [],_=>⟨[],.nil,rfl,fun f h=>absurd h (by simp)⟩
 | v::vs,h=>by
  obtain ⟨fs,h1,h2,h3⟩:=qe vs fun u hu=>h u (List.mem_cons_of_mem _ hu)
  obtain ⟨ks,a,rfl,hn,o,it,n,g1,g2,g3,g4⟩:=h v (List.mem_cons_self ..)
  cases g4':it.toList with
  | nil =>
   rw [g4'] at g4
   cases g4
   exact absurd rfl hn
  | cons f r =>
   rw [g4'] at g4
   cases g4 with
   | cons q1 q2 =>
    obtain ⟨t,rfl⟩:=Value.isInt_shape (show Value.isInt _ f=true from q1)
    refine ⟨_::fs,.cons g1 g2 g3 (by rw [← Array.getElem?_toList,g4'];rfl) h1,by simp [h2],fun f hf=>?_⟩
    rcases List.mem_cons.mp hf with rfl | hf
    ·exact ⟨_,_,rfl⟩
    ·exact h3 f hf
theorem uz {a:Addr} {vs:List Value} {n:Nat} {P:PySem.Fin→Shared→Prop} (ho:s.heap.get? a=some (seqObj "list" vs.toArray n)) (hT:∀ v∈vs,TN prog w s.heap v) (hz:vs.length < 64)
  (h:∀ (us:List Value) (c:Nat) (h':Heap),us.length=vs.length→(∀ u∈us,u∈vs)→h'.get? a=some (seqObj "list" us.toArray c)→(∀ b o,b≠a→s.heap.get? b=some o→h'.get? b=some o)→P (.done (.ret .none)) { s with heap:=h' }) :
  wpAny (model prog w) A (Builtin.«list.sort» ⟨[.ref a],[]⟩) P E s:=by
 have ha:a < s.heap.objs.size:=Heap.lt_size ho
 have s1:=Heap.SameBut.update s.heap a (Obj.mapSeq fun _=>(#[]:Array Value))
 obtain ⟨e1,ho1⟩:∃ e1,(s.heap.update a (Obj.mapSeq fun _=>(#[]:Array Value))).get? a=some (seqObj "list" #[] e1):=⟨_,get?_update_seq ho fun _=>#[]⟩
 rw [list_sort_plain]
 refine wpAny_bind (listItems_at ho rfl ?_)
 refine wpAny_bind (listUpdate_at ho rfl ?_ (by rw [List.size_toArray,sizeLine_eq];omega) (Nat.zero_le _))
 refine wpAny_bind (seqEpoch_at ho1 rfl ?_)
 refine wpAny_bind (wpAny_newTuple ?_ (by show vs.length≤_;rw [sizeLine_eq];omega))
 refine wpAny_bind (wpAny_newList ?_ (Nat.zero_le _))
 refine wpAny_holding ?_
 generalize hg:((s.heap.update a (Obj.mapSeq fun _=>(#[]:Array Value))).push (seqObj "tuple" vs.toArray 0)).push (seqObj "list" #[] 0)=h3
 have hk3:∀ b o,b≠a→s.heap.get? b=some o→h3.get? b=some o:=fun b o hb e=>by
  rw [← hg]
  exact Heap.get?_push_of_some _ (Heap.get?_push_of_some _ ((s1.2 b hb).trans e))
 have ho3:h3.get? a=some (seqObj "list" #[] e1):=by
  rw [← hg]
  exact Heap.get?_push_of_some _ (Heap.get?_push_of_some _ ho1)
 have hT3:∀ v∈vs,TN prog w h3 v:=fun v hv=>(hT v hv).keep fun b o hc e=>hk3 b o (fun z=>by rw [z,ho] at e;cases e;exact absurd (show Value.type "list"=Value.type "tuple" from hc) (by decide)) e
 have upd:∀ us:List Value,∃ c2,(h3.update a (Obj.mapSeq fun _=>us.toArray)).get? a=some (seqObj "list" us.toArray c2):=fun us=>⟨_,get?_update_seq ho3 fun _=>us.toArray⟩
 have keeps:∀ us:List Value,∀ b o,b≠a→s.heap.get? b=some o→(h3.update a (Obj.mapSeq fun _=>us.toArray)).get? b=some o:=fun us b o hb e=>((Heap.SameBut.update h3 a _).2 b hb).trans (hk3 b o hb e)
 dsimp only
 by_cases h2:vs.length < 2
 ·rw [if_pos (by simpa using h2)]
  refine wpAny_bind (wpAny_pure ?_)
  rw [if_pos (by simpa using h2)]
  refine wpAny_bind (wpAny_pure (a:=((),SortSt.mk' general' (vs.toArray.zip vs.toArray) #[] 7 none)) ?_)
  dsimp only
  have hout:(arrOf (SortSt.mk' general' (vs.toArray.zip vs.toArray) #[] 7 none)).map (·.2)=vs.toArray:=by
   show (vs.toArray.zip vs.toArray).map (·.2)=vs.toArray
   apply Array.toList_inj.mp
   rw [Array.toList_map,Array.toList_zip,List.toList_toArray]
   exact List.map_snd_zip (Nat.le_refl _)
  rw [hout]
  obtain ⟨c2,hc2⟩:=upd vs
  refine wpAny_bind (seqEpoch_at (s:={ s with heap:=h3 }) ho3 rfl ?_)
  refine wpAny_bind (listUpdate_at (s:={ s with heap:=h3 }) ho3 rfl ?_ (Nat.zero_le _) (by rw [List.size_toArray,sizeLine_eq];omega))
  simp only [bne_self_eq_false,Bool.false_eq_true,if_false]
  exact wpAny_pure (h vs c2 _ rfl (fun _ h=>h) hc2 (keeps vs))
 ·rw [if_neg (by simpa using h2)]
  obtain ⟨fs,f1,f2,f3⟩:=qe (s:={ s with heap:=h3 }) vs hT3
  refine wpAny_bind (kat_kind (s:={ s with heap:=h3 }) (T:=.type "int") f1 (by omega) (fun v hv=>?_) (by decide) ?_)
  ·obtain ⟨i,t,rfl⟩:=f3 v hv
   exact Looks.of_pure rfl
  rw [show (Value.type "int" != Value.type "tuple")=true by decide]
  rw [if_neg (by simpa using h2)]
  refine wpAny_bind (wpAny_mono (kat_run (s:={ s with heap:=h3 }) (Q:=fun st' s'=>s'={ s with heap:=h3 }∧∃ p:Array Nat,p.size=vs.length∧arrOf st'=p.map (kas_item (vs.toArray.zip vs.toArray))∧failedOf st'=none∧Al vs.length p)
   (G:=fun p s'=>s'={ s with heap:=h3 }∧Al vs.length p) rfl (by omega) hz (fun p st' s' a1 a2 a3 a4=>⟨a4.1,p,a1,a2,a3,a4.2⟩) ((tF (by omega)).wp (fun i j C hi hj q=>?_) fun p hp=>⟨rfl,hp⟩)) ?_ fun _ _ e=>e)
  ·have lu:vs.getD i Value.none∈vs:=by
    have e:vs.getD i Value.none=vs[i]:=by simp [hi]
    rw [e];exact List.getElem_mem hi
   have hj':vs.getD j Value.none∈vs:=by
    have e:vs.getD j Value.none=vs[j]:=by simp [hj]
    rw [e];exact List.getElem_mem hj
   exact Ac (s:={ s with heap:=h3 }) (hT3 _ lu) (hT3 _ hj') q
  ·rintro ⟨⟨⟩,st'⟩ s' ⟨rfl,p,hp,har,hf,hal⟩
   dsimp only
   have hout:=kat_snds rfl har
   rw [hout]
   obtain ⟨c2,hc2⟩:=upd (p.toList.map fun i=>vs.getD i Value.none)
   refine wpAny_bind (seqEpoch_at (s:={ s with heap:=h3 }) ho3 rfl ?_)
   refine wpAny_bind (listUpdate_at (s:={ s with heap:=h3 }) ho3 rfl ?_ (Nat.zero_le _) (by rw [List.size_toArray,List.length_map,Array.length_toList,hp,sizeLine_eq];omega))
   rw [hf]
   simp only [bne_self_eq_false,Bool.false_eq_true,if_false]
   refine wpAny_pure (h _ c2 _ (by rw [List.length_map,Array.length_toList,hp]) (fun u hu=>?_) hc2 (keeps _))
   obtain ⟨i,hi,rfl⟩:=List.mem_map.mp hu
   have hi:=hal i hi
   have e:vs.getD i Value.none=vs[i]:=by simp [hi]
   rw [e];exact List.getElem_mem hi
end
end ST
namespace L2
open PySem PySem.Calls PyProof.Rows PyProof.V PySem.Spec
def kU (w:World) (b:Addr) (xs:List V):HO:=.ext fun h=>∃ o c,h.get? b=some o∧ST.Ts (ST.cD w) (fun v=>∃ x∈xs,RelV x v) o c∧c≤xs.length∧(0 < xs.length→0 < c)
def l0 (H:Hp) (xs:List V):Prop:=∀ x∈xs,∃ q,∃ ns:List Int,x=.ref q∧ns≠[]∧H q=some (.tup (ns.map V.int))
section
variable {X:Cx}
theorem items_int {P:Program} {w:World}:∀ {ns:List Int} {us:List Value},Vals (ns.map V.int) us→ItemsAre (intKind P w) ns us
 | [],us,h=>by
  cases h
  exact .nil
 | n::ns,us,h=>by
  cases h with
  | cons r t =>
   obtain ⟨k,rfl⟩:=r
   exact .cons (intKind_is _ _ _ _) (items_int t)
theorem l0.tn {pins:List (Addr×Obj)} {σ:St} {H:Hp} {s:Shared} {xs:List V} (I:Inv X pins σ H s) (h:l0 H xs) {v:Value} (hv:∃ x∈xs,RelV x v):ST.TN X.prog X.w s.heap v:=by
 obtain ⟨x,hx,r⟩:=hv
 obtain ⟨q,ns,rfl,hn,hq⟩:=h x hx
 obtain ⟨_,its,rv,o,ho,hc,n,hd⟩:=(show aV X.prog X.w H s.heap q (.tup (ns.map V.int)) from I.aH q _ hq)
 exact ⟨ns,q,r,hn,o,its.toArray,n,ho,hc,hd,by simpa using items_int rv⟩
theorem gN:∀ {xs:List V} {us:List Value} {u:Value},Vals xs us→u∈us→∃ x∈xs,RelV x u
 | _,_,u,.nil,h=>absurd h (by simp)
 | _,_,u,.cons r t,h=>by
  rcases List.mem_cons.mp h with rfl | h
  ·exact ⟨_,List.mem_cons_self ..,r⟩
  ·obtain ⟨x,hx,q⟩:=gN t h
   exact ⟨x,List.mem_cons_of_mem _ hx,q⟩
theorem iM {xs:List V}:∀ (us:List Value),(∀ u∈us,∃ x∈xs,RelV x u)→∃ ys,Vals ys us∧∀ y∈ys,y∈xs
 | [],_=>⟨[],.nil,fun y h=>absurd h (by simp)⟩
 | u::us,h=>by
  obtain ⟨ys,h1,h2⟩:=iM us fun v hv=>h v (List.mem_cons_of_mem _ hv)
  obtain ⟨x,hx,r⟩:=h u (List.mem_cons_self ..)
  exact ⟨x::ys,.cons r h1,fun y hy=>by
   rcases List.mem_cons.mp hy with rfl | hy
   ·exact hx
   ·exact h2 y hy⟩
theorem oE (hc:X.calm=true) (hu:X.A.units+3 < cLine):cu X (.type "set") (fun vs H Q=>∃ p xs,vs=[.ref p]∧H p=some (.lst xs)∧l0 H xs∧xs.length < 17∧∀ b,H b=none→Q (.ref b) (upd H b (kU X.w b xs))):=by
 intro pins s σ H vs us Q I r h
 obtain ⟨p,xs,rfl,hp,ht,hl,q⟩:=h
 obtain ⟨u,rfl,ru⟩:=vals1 r
 cases ru
 obtain ⟨_,its,n,rv,hlen,ho⟩:=I.qi hp
 refine ST.qI (items:=its.toArray) (I.ok.hd hc) hu ⟨_,ho,rfl,n,rfl⟩ (fun v hv=>(ht.tn I (gN rv (by simpa using hv))).tk) (by rw [List.size_toArray,← hlen];exact hl) fun h' tk o c h1 h2 h3 h4 h5=>?_
 refine ⟨.ref s.heap.objs.size,_,I.laid (t':=tk) (o:=kU X.w s.heap.objs.size xs) (fun b u e=>h5 b u (Heap.lt_size e) e) (Nat.le_refl _) ?_,rfl,q _ (I.aH.fresh (Nat.le_refl _))⟩
 refine ⟨⟨o,c,h1,?_,by rw [hlen];simpa using h3,fun z=>h4 (by rw [List.size_toArray,← hlen];exact z)⟩,⟨o,h1⟩,fun g1 g2 ⟨o',c',e1,e2⟩ k=>⟨o',c',k o' e1,e2⟩⟩
 obtain ⟨es,ep,t,e1,e2,e3,e4,e5,e6⟩:=h2.ex
 exact ⟨es,ep,t,e1,e2,e3,e4,e5,fun e he=>gN rv (by simpa using e6 e he)⟩
theorem jx (hc:X.calm=true):cu X (.builtin "sorted") (fun vs H Q=>∃ b xs,vs=[.ref b]∧H b=some (kU X.w b xs)∧l0 H xs∧xs.length < 17∧∀ p ys,H p=none→(∀ y∈ys,y∈xs)→ys.length≤xs.length→(0 < xs.length→0 < ys.length)→Q (.ref p) (upd H p (.lst ys))):=by
 intro pins s σ H vs us Q I r h
 obtain ⟨b,xs,rfl,hb,ht,hl,q⟩:=h
 obtain ⟨u,rfl,ru⟩:=vals1 r
 cases ru
 obtain ⟨⟨o,c,h1,h2,h3,h4⟩,_⟩:=(show aV X.prog X.w H s.heap b (kU X.w b xs) from I.aH b _ hb)
 obtain ⟨es,ep,t,rfl,e2,e3,e4,rfl,e6⟩:=h2.ex
 refine Calls.call_function_entry kind_sorted plain_sorted entry_sorted (args_sorted1 _) ?_
 unfold Builtin.«sorted»
 refine wpAny_bind (m:=checkCount "sorted" 1 1 _) (wpAny_pure ?_)
 refine wpAny_bind (W.kdu_collect (A:=X.A.in1) (ST.sT e2 e3 e4) (I.ok.hd hc) h1 (by rw [sizeLine_eq];omega) fun h' tk acc hk hacc=>?_)
 have hla:acc.toList.length=es.size:=by rw [Array.length_toList];exact hacc.1
 refine wpAny_bind (wpAny_newList ?_ (by rw [hla,sizeLine_eq];omega))
 have hm:∀ v∈acc.toList,∃ x∈xs,RelV x v:=fun v hv=>by
  obtain ⟨i,hi,rfl⟩:=List.getElem_of_mem hv
  obtain ⟨e,he,hv⟩:=hacc.2 i _ (by rw [← Array.getElem?_toList];exact List.getElem?_eq_getElem hi)
  rw [hv]
  exact e6 e he
 have I1:Inv X pins σ H { s with heap:=h',toks:=tk }:=I.kept (t':=tk) hk
 have hD:(h'.push { cls:=.type "list",data:=.seq acc.toList.toArray }).get? h'.objs.size=some (seqObj "list" acc.toList.toArray 0):=Heap.get?_push_size _ rfl
 refine wpAny_bind (wpAny_holding (wpAny_call_entry slot_list_sort ⟨_,hD,rfl⟩ entry_list_sort (ST.uz (prog:=X.prog) (w:=X.w) hD (fun v hv=>(ht.tn I1 (hm v hv)).keep fun b o _ e=>Heap.get?_push_of_some _ e) (by rw [hla];omega) fun us c h2 g1 g2 g3 g4=>?_) (args_list_sort _)))
 obtain ⟨ys,hy,hy2⟩:=iM us fun u hu=>hm u (g2 u hu)
 have hlen:ys.length=es.size:=by rw [hy.length,g1,hla]
 refine ⟨_,rfl,wpAny_pure ⟨_,rfl,.ref h'.objs.size,_,I1.laid (t':=tk) (o:=.lst ys) (fun b u e=>g4 b u (Nat.ne_of_lt (Heap.lt_size e)) (Heap.get?_push_of_some _ e)) (Nat.le_refl _) (show aV X.prog X.w _ h2 _ (.lst ys) from ⟨by rw [hlen,sizeLine_eq];omega,us,c,hy,g3⟩),rfl,q _ ys (I1.aH.fresh (Nat.le_refl _)) hy2 (by omega) fun z=>by rw [hlen];exact h4 z⟩⟩
end
end L2
namespace L2
def vf (w:PySem.World):List V→Hp→VK→Prop:=fun vs H Q=>∃ p xs,vs=[.ref p]∧H p=some (.lst xs)∧l0 H xs∧xs.length < 17∧∀ b,H b=none→Q (.ref b) (upd H b (kU w b xs))
def qD (w:PySem.World):List V→Hp→VK→Prop:=fun vs H Q=>∃ b xs,vs=[.ref b]∧H b=some (kU w b xs)∧l0 H xs∧xs.length < 17∧∀ p ys,H p=none→(∀ y∈ys,y∈xs)→ys.length≤xs.length→(0 < xs.length→0 < ys.length)→Q (.ref p) (upd H p (.lst ys))
end L2
namespace DL
open PySem PySem.Spec L2
open PyProof.Rows hiding St
section
variable {K:PySem.W.Frag} {H:Hp} {M:Addr→Prop}
def oU (ns:List Int):D:=.tup (ns.map .int)
theorem iX:∀ {ns:List Int} {vs:List V},ai K H M (ns.map .int) vs→vs=ns.map V.int
 | [],vs,h=>h
 | n::ns,vs,h=>by
  obtain ⟨x,r,rfl,h1,h2⟩:=h
  have h1:x=.int n:=h1
  rw [h1,iX h2]
  rfl
theorem gS:∀ {fD:List (List Int)} {xs:List V},ai K H M (fD.map oU) xs→∀ x∈xs,∃ ns∈fD,Rep K H M (oU ns) x
 | [],xs,h,x,hx=>by
  have h:xs=[]:=h
  rw [h] at hx
  cases hx
 | ns::fD,xs,h,x,hx=>by
  obtain ⟨y,r,rfl,h1,h2⟩:=h
  rcases List.mem_cons.mp hx with rfl | hx
  ·exact ⟨ns,List.mem_cons_self ..,h1⟩
  ·obtain ⟨ns',h3,h4⟩:=gS h2 x hx
   exact ⟨ns',List.mem_cons_of_mem _ h3,h4⟩
theorem vq {fD:List (List Int)} {xs:List V} (h:ai K H M (fD.map oU) xs) (hn:∀ ns∈fD,ns≠[]):l0 H xs:=fun x hx=>by
 obtain ⟨ns,h1,a,vs,e,⟨_,t⟩,r⟩:=gS h x hx
 exact ⟨a,ns,e,hn ns h1,by rw [t,iX r]⟩
theorem i3 {fD:List (List Int)} {xs:List V} (h:ai K H M (fD.map oU) xs):∀ ys:List V,(∀ y∈ys,y∈xs)→∃ qs:List (List Int),ai K H M (qs.map oU) ys∧(∀ q∈qs,q∈fD)∧qs.length=ys.length
 | [],_=>⟨[],rfl,fun q hq=>absurd hq (by simp),rfl⟩
 | y::ys,hy=>by
  obtain ⟨qs,h1,h2,h3⟩:=i3 h ys fun z hz=>hy z (List.mem_cons_of_mem _ hz)
  obtain ⟨ns,g1,g2⟩:=gS h y (hy y (List.mem_cons_self ..))
  exact ⟨ns::qs,⟨y,ys,rfl,g2,h1⟩,fun q hq=>by
   rcases List.mem_cons.mp hq with rfl | hq
   ·exact g1
   ·exact h2 q hq,by simp [h3]⟩
end
section
variable {X:Cx} {c:Ent}
def vX (te:bj):bj:=fun s Q=>te s fun d s1=>∃ fD:List (List Int),d=.lst (fD.map oU)∧(∀ ns∈fD,ns≠[])∧fD.length < 17∧∀ qs:List (List Int),(∀ q∈qs,q∈fD)→qs.length≤fD.length→(0 < fD.length→0 < qs.length)→Q (.lst (qs.map oU)) s1
theorem oK {e:Expr} {te:bj} (h:PE X e (uU (qD X.w) (jc (uU (vf X.w) (jc (tE X.K c te) qQ)) qQ))):DN X c e (vX te):=⟨h.imp fun σ H Q ⟨M,s,as,R,L,q,k⟩ =>
 ⟨M,s,as,_,L,q,fun d s1 ⟨fD,e,hn,hl,q1⟩ M1 H1 v L1 E1 rv=>by
  subst e
  obtain ⟨p,xs,rfl,⟨m,hp⟩,r⟩:=rv
  have hx:xs.length=fD.length:=by rw [r.length,List.length_map]
  refine ⟨p,xs,rfl,hp,vq r hn,by rw [hx];exact hl,fun b hb=>?_⟩
  have L2':=L1.laid (o:=kU X.w b xs) hb
  have E2:Ext c as M1 s1 H1 M1 s1 (upd H1 b (kU X.w b xs)):=Ext.laid hb
  have r2:=E2.ki L1 r
  refine ⟨b,xs,rfl,ah,vq r2 hn,by rw [hx];exact hl,fun a ys ha hy h1 h2=>?_⟩
  obtain ⟨qs,g1,g2,g3⟩:=i3 r2 ys hy
  exact eF L L2' (E1.trans L1.base E2) ha (d:=.lst (qs.map oU)) (show bh X.K _ _ (.lst _) (.lst _) from g1) (k _ s1 (q1 qs g2 (by omega) fun z=>by rw [g3];exact h2 (by omega)))⟩⟩
end
end DL
namespace L2
open PySem PySem.Calls PyProof.Rows PyProof.V PySem.Spec
section
variable {P:Program} {w:World} {A:Around} {E:Value→Shared→Prop} {s:Shared} {d:Addr} {xs:List (List Key×Addr×Value)} {x:Str} {t:Tok}
theorem qz {l:List Value} {Q:Bool→Shared→Prop} (hl:∀ v∈l,∃ k b,v=.ref b∧(tupleKind (ax P w)).is s.heap k b) (h:Q false s):wpAny (model P w) A (tableMayTell (.str x t) l) Q E s:=by
 unfold tableMayTell
 split
 ·exact wpAny_pure h
 ·rw [eqIsQuiet_byValue 8 (v:=.str x t) rfl]
  refine wpAny_bind (wpAny_pure ?_)
  simp only [Bool.not_true,Bool.false_eq_true,if_false]
  refine wpAny_bind (wpAny_forIn_list _ (fun rest r s'=>r.1=none∧s'=s∧∀ v∈rest,∃ k b,v=.ref b∧(tupleKind (ax P w)).is s.heap k b) _ ?_ ?_ _ _ ⟨rfl,rfl,hl⟩)
  ·rintro v rest r s' ⟨hr,rfl,hk⟩
   obtain ⟨k,b,rfl,hb⟩:=hk v (List.mem_cons_self ..)
   refine wpAny_bind ((tupleKind (ax P w)).quiet hb ?_)
   simp only [Bool.not_true,Bool.false_eq_true,if_false]
   exact wpAny_pure ⟨rfl,rfl,fun u hu=>hk u (List.mem_cons_of_mem _ hu)⟩
  ·rintro ⟨r1,r2⟩ s' ⟨hr,rfl,_⟩
   simp only at hr
   subst hr
   exact wpAny_pure h
theorem qk {o:Obj} {es:Array DictEntry} {ep:Nat} {hs:Int} {Q:Option Nat→Shared→Prop} (hu:A.units < cLine) (ho:s.heap.get? d=some o) (hd:o.data=.dict es ep) (he:es.toList=xs.map (entryOfKey (tupleKind (ax P w))))
  (EJ:∀ y∈xs,(tupleKind (ax P w)).is s.heap y.1 y.2.1) (h:Q none s):wpAny (model P w) A (dictFind d (.str x t) hs) Q E s:=by
 have hmem:∀ e∈es.toList,∃ y∈xs,e=entryOfKey (tupleKind (ax P w)) y:=fun e hin=>by
  rw [he] at hin
  obtain ⟨y,hy,rfl⟩:=List.mem_map.mp hin
  exact ⟨y,hy,rfl⟩
 have hat:∀ {i:Nat} {e:DictEntry},es[i]?=some e→∃ k b,e.key=.ref b∧(tupleKind (ax P w)).is s.heap k b:=fun {i e} h=>by
  obtain ⟨y,hy,rfl⟩:=hmem e (Array.mem_toList_iff.mpr (Array.mem_of_getElem? h))
  exact ⟨y.1,y.2.1,rfl,EJ y hy⟩
 unfold dictFind
 try with_reducible refine wpAny_holding ?_
 refine wpAny_bind (wpAny_dictEntries ho hd ?_)
 dsimp only
 refine wpAny_ite_split (fun ml=>?_) (fun _=>?_)
 ·have hnil:es=#[]:=by
   cases hl:es.toList with
   | nil=>exact Array.toList_eq_nil_iff.mp hl
   | cons e r =>
    obtain ⟨y,_,ey⟩:=hmem e (by rw [hl];exact List.mem_cons_self ..)
    rw [← Array.all_toList,hl] at ml
    rw [ey] at ml
    exact absurd ml (by simp [entryOfKey,isExactStrKey])
  subst hnil
  unfold foundByValue
  rw [show Array.findIdx? (fun e:DictEntry=>e.key.isStr x) #[]=none by simp]
  exact wpAny_pure h
 ·have f9:∀ v∈(placesWithHash es.size (fun i=>es[i]?.map (·.hash)) hs).filterMap (fun i=>es[i]?.map (·.key)),∃ k b,v=.ref b∧(tupleKind (ax P w)).is s.heap k b:=fun v hv=>by
   obtain ⟨i,_,hi⟩:=List.mem_filterMap.mp hv
   cases rT:es[i]? with
   | none=>rw [rT] at hi;cases hi
   | some e =>
    rw [rT] at hi
    obtain rfl:e.key=v:=by simpa using hi
    obtain ⟨k,b,e1,e2⟩:=hat rT
    exact ⟨k,b,e1,e2⟩
  generalize placesWithHash es.size (fun i=>es[i]?.map (·.hash)) hs=pl at f9 ⊢
  generalize pl.filterMap (fun i=>es[i]?.map (·.key))=st at f9 ⊢
  have walk:∀ {i:Nat} {e:DictEntry} {C:Bool→Shared→Prop} {E':Value→Shared→Prop},es[i]?=some e→C false s→wpAny (model P w) A (eqBool e.key (.str x t)) C E' s:=fun {i e C E'} hi hC=>by
   obtain ⟨k,b,e1,o',it,n,g1,g2,g3,_⟩:=hat hi
   rw [e1]
   exact SeqAt.EqAt.tuple_str x t ⟨o',g1,g2,n,g3⟩ hu P w E' C hC
  refine wpAny_ite_split (fun hc=>?_) (fun _=>?_)
  ·unfold dictWalkPlain
   refine wpAny_bind (wpAny_forIn_list _ (fun rest r s'=>r.1=none∧s'=s) _ ?_ ?_ _ _ ⟨rfl,rfl⟩)
   ·rintro i rest r s' ⟨hr,rfl⟩
    cases hi:es[i]? with
    | none=>exact wpAny_pure ⟨rfl,rfl⟩
    | some e =>
     dsimp only
     refine wpAny_ite_split (fun _=>?_) (fun _=>wpAny_pure ⟨rfl,rfl⟩)
     refine wpAny_bind (wpAny_dictEpoch ho hd ?_)
     refine wpAny_bind (walk hi ?_)
     refine wpAny_bind (wpAny_dictEpoch ho hd ?_)
     simp only [bne_self_eq_false,Bool.false_eq_true,if_false]
     exact wpAny_bind (wpAny_rule (wpAny_pure ⟨rfl,rfl⟩))
   ·rintro ⟨r1,r2⟩ s' ⟨hr,rfl⟩
    simp only at hr
    subst hr
    exact wpAny_pure h
  ·refine wpAny_ite_split (fun hc=>?_) (fun _=>?_)
   ·exfalso
    have e:st=[Value.str x t]:=eq_of_beq hc
    obtain ⟨k,b,z,_⟩:=f9 (.str x t) (by rw [e];exact List.mem_cons_self ..)
    cases z
   ·refine wpAny_bind (qz f9 ?_)
    simp only [Bool.false_and,Bool.false_eq_true,if_false]
    refine wpAny_bind (wpAny_forIn_list _ (fun rest r s'=>r=(none,none)∧s'=s) _ ?_ ?_ _ _ ⟨rfl,rfl⟩)
    ·rintro i rest r s' ⟨rfl,rfl⟩
     cases hi:es[i]? with
     | none=>exact wpAny_pure ⟨rfl,rfl⟩
     | some e =>
      dsimp only
      refine wpAny_ite_split (fun _=>?_) (fun _=>wpAny_pure ⟨rfl,rfl⟩)
      refine wpAny_bind (wpAny_dictEpoch ho hd ?_)
      refine wpAny_bind (walk hi ?_)
      refine wpAny_bind (wpAny_dictEpoch ho hd ?_)
      simp only [bne_self_eq_false,Bool.false_eq_true,if_false]
      exact wpAny_bind (wpAny_rule (wpAny_pure ⟨rfl,rfl⟩))
    ·rintro r s' ⟨rfl,rfl⟩
     exact wpAny_pure h
theorem ur {dflt:Value} (uE:(d == sysModules)=false) :
  MeetsIn P w (Builtin.«dict.get» ⟨[.ref d,.str x t,dflt],[]⟩) (fun A R s=>A.in1.units < cLine∧∃ xs,s.heap.DictOfH (tupleKind (ax P w)) d xs∧R (.ok (.ret dflt)) { s with toks:=s.toks+1 }) :=
 .of_wp fun A R s ⟨hu,xs,hm,h⟩=>by
  obtain ⟨o,es,ep,ho,_,hd,he,EJ,_⟩:=hm
  show wpAny _ _ (dictGet d (.str x t) >>= _) _ _ s
  unfold dictGet
  refine wpAny_bind (wpAny_holding (wpAny_bind ((strKind P w).pyHash (k:=x) (strKind_is _ _ _ _) (wpAny_bind (qk (s:={ s with toks:=s.toks+1 }) (xs:=xs) hu ho hd he EJ (wpAny_pure ?_))))))
  show wpAny _ _ (Builtin.Dict.missed d (.str x t) >>= _) _ _ _
  exact wpAny_bind (wpAny_missed_other uE (wpAny_pure ⟨dflt,rfl,h⟩))
end
section
variable {X:Cx}
def vg (H:Hp) (a:Addr) (y:V) (o:Option V):Prop:=dq H a y o∨∃ kvs x,H a=some (.dT kvs)∧y=.str x∧o=none
theorem uB {pins:List (Addr×Obj)} {σ:St} {H:Hp} {s:Shared} {a:Addr} {y d:V} {u r:Value} {o:Option V} {A:Around} {E:Value→Shared→Prop} {Q:Value→Shared→Prop} (hu:A.units+1 < cLine) (I:Inv X pins σ H s) (g:vg H a y o) (ry:RelV y u) (rd:RelV d r) (h:∀ w' s',Inv X pins σ H s'→RelV (o.getD d) w'→Q w' s') :
  wpAny (model X.prog X.w) A (call (.builtin "dict.get") [.ref a,u,r]) Q E s:=by
 rcases g with g | ⟨kvs,x,e,rfl,rfl⟩
 ·exact wj hu I g ry rd h
 ·obtain ⟨t,rfl⟩:=ry
  obtain ⟨z,hd,xs,rel,dd⟩:=pq I.aH e
  exact call_meetsIn PySem.F.slot_dict_get dd.typeIs PySem.F.entry_dict_get (PySem.F.args_dict_get_3 _ _ _) (ur hd) ⟨hu,xs,dd,h r _ (I.tok _) rd⟩
def nO (td ty tx:TE):TE:=fun σ H Q=>td σ H fun x H1=>∃ a,x=.ref a∧FF H1 a∧ty σ H1 fun y H2=>tx σ H2 fun z H3=>∃ o,vg H3 a y o∧Q (o.getD z) H3
theorem oa {o e f:Expr} {apos bF:Pos} {td ty tx:TE} (hu:X.A.units+1 < cLine) (ho:PE X o td) (he:PE X e ty) (hf:PE X f tx) (m:M2 X o "get" apos e f bF):PE X (.Call (.Attribute o "get" apos) [e,f] [] bF) (nO td ty tx):=by
 intro pins s σ H Q I h
 refine wpAny_Call_method m.base m.Bc m.line PySem.F.plainAttrs_dict PySem.F.slot_dict_get PySem.F.type_dict_get (ba (ho pins s σ H _ I h) fun u s1 ⟨x,H1,I1,rx,a,ex,d,q1⟩=>?_)
 subst ex
 obtain rfl:u=Value.ref a:=rx
 obtain ⟨t1,t2,_⟩:=xk I1 d
 refine ⟨t1,t2,?_⟩
 rw [m.trees]
 refine Calls.callWith_builtin rfl (Calls.evalArgs_plain (Calls.spliced_cons (ba (he pins s1 σ H1 _ I1 q1) fun iv s2 ⟨y,H2,I2,ry,q2⟩=>Calls.spliced_cons (ba (hf pins s2 σ H2 _ I2 q2) fun fv s3 ⟨z,H3,I3,rz,ov,g,q3⟩=>Calls.spliced_nil ?_))))
 exact uB hu I3 g ry rz fun w' s4 I4 rw'=>⟨_,H3,I4,rw',q3⟩
end
end L2
namespace DL
open PySem PySem.Spec L2
open PyProof.Rows hiding St
section
variable {X:Cx} {c:Ent}
def xS (td ty tx:bj):bj:=fun s Q=>td s fun d s1=>sM d=true∧ty s1 fun dy s2=>tx s2 fun dz s3=>(∃ ks vs x,d=.dA ks vs∧dy=.str x∧Q dz s3)∨sF d dy fun od=>Q (od.getD dz) s3
theorem su {e:Expr} {td ty tx:bj} (h:PE X e (nO (tE X.K c td) (tE X.K c ty) (tE X.K c tx))):DE X c e (xS td ty tx):=⟨h.imp fun σ H Q ⟨M,s,as,R,L,q,kk⟩ =>
 ⟨M,s,as,_,L,q,fun d s1 ⟨hd,q1⟩ M1 H1 v L1 E1 rv=>by
  obtain ⟨a,o,rfl,f1,f2⟩:=rv.dc hd
  refine ⟨a,rfl,vU hd f1 f2,M1,s1,as,_,L1,q1,fun dy s2 q2 M2 H2 y Lb E2 ry=>⟨M2,s2,as,_,Lb,q2,fun dz s3 q3 M3 H3 z Lc E3 rz=>?_⟩⟩
  obtain ⟨a',o',e',f1',f2'⟩:=((E2.trans Lb.base E3).rep L1 rv).dc hd
  cases e'
  have Ea:=(E1.trans L1.base E2).trans Lb.base E3
  rcases q3 with ⟨ks,vs,x,rfl,rfl,q3⟩ | q3
  ·cases o' with
   | dT kvs=>exact ⟨none,.inr ⟨kvs,x,f1',E3.rep Lb ry,rfl⟩,kk _ s3 q3 M3 H3 z Lc Ea rz⟩
   | _=>exact f2'.elim
  ·obtain ⟨ov,od,w1,w2,w3⟩:=jv q3 f1' f2' (E3.rep Lb ry)
   refine ⟨ov,.inl w1,?_⟩
   rcases w3 with ⟨rfl,rfl⟩ | ⟨v,x,rfl,rfl,rx⟩
   ·exact kk _ s3 w2 M3 H3 z Lc Ea rz
   ·exact kk _ s3 w2 M3 H3 v Lc Ea rx⟩⟩
end
end DL
namespace fm
open PySem L2 DL
section
variable {P:Program} {w:World} {K:PySem.W.Frag} {mg:Str→Option Value} {base:Heap}
def GN (ks:List (List Key)) (vs:List D) (n:D):Prop:=(∃ x,n=.str x)∨∃ a b y,n=.tup [.int a,.int b]∧a8 ks vs [.inl a,.inl b]=some (.str y)
def nu (ks:List (List Key)) (vs:List D):D→D
 | .tup [.int a,.int b]=>(a8 ks vs [.inl a,.inl b]).getD .aS
 | d=>d
def yh:List D→(D→Prop)→Prop:=fun ds R=>∃ (ks:List (List Key)) (vs:List D) (n:D),ds=[.dA ks vs,n]∧GN ks vs n∧R (nu ks vs n)
theorem zl {f:Addr} {fd:FuncData} (F:cq K "_law_name" "_law_name" bp f fd) (T:Txt K mg):aw P w K mg base bz 1 f fd ["_law_names","_law_name_here"] (cW K .no yh):=by
 refine r9 (nos:=0) F kf (fun ds R h=>?_) fun bW A outer s H E M hr=>⟨_,(aj (dk (jB (cM gf pN rfl T.A2 PyProof.Rows.boot_isinstance (aa (dv (pv 1)) (aa (dc (d:=.ty "tuple") (jj (v:=.ty "tuple") rfl T.tuple (by decide +kernel) rfl) rfl) ae))))
 (au (a6 (y8 (cw (kC hr) (DE.pe (dv (pv 0))) (DE.pe (dv (pv 1))) (fun _ _=>rfl)))))
 bB)
 (au (a6 (dv (pv 1))))),fun ds R h=>?_⟩
 ·obtain ⟨ks,vs,n,rfl,_⟩:=h
  rfl
 ·obtain ⟨ks,vs,n,rfl,hn,q⟩:=h
  rcases hn with ⟨x,rfl⟩ | ⟨a,b,y,rfl,hy⟩
  ·exact ⟨_,rfl,_,_,_,rfl,rfl,_,rfl,_,rfl,q⟩
  ·refine ⟨_,rfl,_,_,_,rfl,rfl,_,rfl,_,rfl,_,rfl,rfl,?_⟩
   exact .inr ⟨ks,vs,_,_,rfl,rfl,rfl,_,hy,by rw [nu,hy] at q;exact q⟩
theorem vj {f:Addr} {fd:FuncData} (F:cq K "lifted_name" "lifted_name" aE f fd) (T:Txt K mg):aw P w K mg base bz 1 f fd ["names","name"] (cW K .no yh):=by
 refine r9 (nos:=0) F gk (fun ds R h=>?_) fun bW A outer s H E M hr=>⟨_,(au (a6 (su (oa (kC hr) (DE.pe (dv (pv 0))) (DE.pe (dv (pv 1))) (DE.pe (dv (pv 1))) ⟨rfl,rfl,rfl,rfl⟩)))),fun ds R h=>?_⟩
 ·obtain ⟨ks,vs,n,rfl,_⟩:=h
  rfl
 ·obtain ⟨ks,vs,n,rfl,hn,q⟩:=h
  rcases hn with ⟨x,rfl⟩ | ⟨a,b,y,rfl,hy⟩
  ·exact ⟨_,rfl,rfl,_,rfl,_,rfl,.inl ⟨ks,vs,x,rfl,rfl,q⟩⟩
  ·refine ⟨_,rfl,rfl,_,rfl,_,rfl,.inr (.inr ⟨ks,vs,_,_,rfl,rfl,rfl,?_⟩)⟩
   rw [hy]
   rw [nu,hy] at q
   exact q
mutual
def lv (ks:List (List Key)) (vs:List D):Vl→D
 | .num i=>.int i
 | .h8 w n as=>.tup [.str w,nu ks vs n,.tup (nS ks vs as)]
def nS (ks:List (List Key)) (vs:List D):List Vl→List D
 | []=>[]
 | v::r=>lv ks vs v::nS ks vs r
end
mutual
def GV (ks:List (List Key)) (vs:List D):Vl→Prop
 | .num _=>True
 | .h8 _ n as=>GN ks vs n∧yn ks vs as
def yn (ks:List (List Key)) (vs:List D):List Vl→Prop
 | []=>True
 | v::r=>GV ks vs v∧yn ks vs r
end
theorem jr {ks:List (List Key)} {vs:List D}:∀ as:List Vl,nS ks vs as=as.map (lv ks vs)
 | []=>rfl
 | v::r=>by rw [nS,jr r];rfl
theorem je {ks:List (List Key)} {vs:List D}:∀ {as:List Vl},yn ks vs as→∀ v∈as,GV ks vs v
 | [],_,v,h=>nomatch h
 | u::r,h,v,hv=>by
  rcases List.mem_cons.mp hv with rfl | hv
  ·exact h.1
  ·exact je h.2 v hv
theorem ni:∀ {as:List Vl} {v:Vl},v∈as→v.sz≤bR as
 | [],v,h=>nomatch h
 | u::r,v,h=>by
  show _≤u.sz+bR r
  rcases List.mem_cons.mp h with rfl | h
  ·omega
  ·have:=ni h;omega
theorem wG:∀ as:List Vl,as.length≤bR as
 | []=>Nat.le_refl _
 | u::r=>by
  show r.length+1≤u.sz+bR r
  have:=wG r
  have:1≤u.sz:=by cases u<;>(unfold Vl.sz;omega)
  omega
def FC:Nat→List D→(D→Prop)→Prop
 | 0=>fun _ _=>False
 | n+1=>fun ds R=>∃ (ks:List (List Key)) (vs:List D) (v:Vl),ds=[.dA ks vs,vD v]∧GV ks vs v∧v.sz≤n+1∧n≤200∧R (lv ks vs v)
theorem vt {qR:Addr} {lN:FuncData} (A1:aw P w K mg base bz 1 qR lN ["_law_names","_law_name_here"] (cW K .no yh)) (uo:cq K "_law_name" "_law_name" bp qR lN) (xH:mg "_law_name"=some (.ref qR)) (v3:Binds K lN ["_law_names","_law_name_here"] []) {mr:Addr} {hV:FuncData} (oY:cq K "_law_value" "_law_value" a7 mr hV) (rV:mg "_law_value"=some (.ref mr)) (rY:Binds K hV ["_law_names","_law_value_here"] []) (T:Txt K mg):∀ n:Nat,aw P w K mg base bz (n+2) mr hV ["_law_names","_law_value_here"] (cW K .no (FC n))
 | 0=>j8
 | n+1=>by
  have AB:=vt A1 uo xH v3 oY rV rY T n
  refine r9 (nos:=0) oY jk (fun ds R h=>?_) fun bW A outer s H E M hr=>⟨_,(aj (dk (jB (cM gf pN rfl T.A2 PyProof.Rows.boot_isinstance (aa (dv (pv 1)) (aa (dc (d:=.ty "int") (jj (v:=.ty "int") rfl T.int (by decide +kernel) rfl) rfl) ae))))
 (au (a6 (dv (pv 1))))
 bB)
 (au (a6 (bV (aa (cF bU cR (dv (pv 1)) av (fun _ _=>rfl)) (aa (cO (hr.mono (by first | decide | omega)) rfl xH uo.kp v3 (aa (dv (pv 0)) (aa (cF bU cR (dv (pv 1)) av (fun _ _=>rfl)) ae)) A1) (aa (cT bG k9 rfl T.tuple (by decide +kernel) (aa (DN.de (c9 (ts:=["_law_part"]) (us:=[0]) ⟨rfl,rfl,rfl,rfl,rfl,rfl⟩ rfl (gx (cF bU cR (dv (pv 1)) av (fun _ _=>rfl))) (fun _ _ _ _=>(bD (aK (i:=0) (show List.Nodup (["_law_part","_law_names"]:List Str) by decide +kernel) rfl (Or.inl rfl)) (by decide))) (fun _ _ _ _=>c5)
 (fun _ _ _ _=>(cO (hr.mono (by first | decide | omega)) rfl rV oY.kp rY (aa (dv (pv 1)) (aa (dv (pv 0)) ae)) AB)))) ae)) ae))))))),fun ds R h=>?_⟩
  ·obtain ⟨ks,vs,v,rfl,_⟩:=h
   rfl
  ·obtain ⟨ks,vs,v,rfl,gv,hs,hn,q⟩:=h
   cases v with
   | num i=>exact ⟨_,rfl,_,_,_,rfl,rfl,_,rfl,_,rfl,q⟩
   | h8 wd nm as =>
    obtain ⟨gn,ga⟩:GN ks vs nm∧yn ks vs as:=gv
    have hs:1+bR as≤n+1:=hs
    have hla:=wG as
    refine ⟨_,rfl,_,_,_,rfl,rfl,_,rfl,?_⟩
    refine ⟨_,rfl,_,_,_,rfl,rfl,rfl,?_⟩
    refine ⟨_,rfl,_,rfl,_,_,_,rfl,rfl,rfl,ks,vs,nm,rfl,gn,?_⟩
    refine ⟨_,rfl,_,_,_,rfl,rfl,rfl,_,.inr rfl,?_⟩
    rw [gd]
    refine bu vD (lv ks vs) as (fun v hv k hk=>?_) ?_
    ·refine ⟨_,rfl,_,rfl,?_⟩
     have h1:=ni hv
     have h2:1≤v.sz:=by cases v<;>(unfold Vl.sz;omega)
     obtain ⟨m,rfl⟩:∃ m,n=m+1:=⟨n - 1,by omega⟩
     exact ⟨ks,vs,v,rfl,je ga v hv,by omega,by omega,hk _ rfl⟩
    ·refine ⟨_,.inl rfl,?_⟩
     have e:lv ks vs (.h8 wd nm as)=.tup [.str wd,nu ks vs nm,.tup (as.map (lv ks vs))]:=by rw [lv,jr]
     rw [e] at q
     exact q
end
end fm
namespace L2
open PySem PySem.Calls PyProof.Rows PyProof.V PySem.Spec
section
variable {K L:PySem.W.Frag} {a:Addr} {o:Obj}
theorem eO (h:K.lookup a=some o):(K++L).lookup a=some o:=by
 rw [List.lookup_append,h]
 rfl
theorem xP {h:Heap} (x:(K++L).In h):K.In h:=fun a o e=>x a o (eO e)
theorem qU {cd:Value} {q:Str} (h:PySem.W.codeIn K cd q=true):PySem.W.codeIn (K++L) cd q=true:=by
 unfold PySem.W.codeIn at h ⊢
 split at h
 ·rename_i c
  cases e:K.lookup c with
  | none=>rw [e] at h;exact absurd h (by simp)
  | some o=>rw [eO e];rw [e] at h;exact h
 ·exact absurd h (by simp)
theorem cq.app {x qual:Str} {st:Stmt} {f:Addr} {fd:FuncData} (F:cq K x qual st f fd):cq (K++L) x qual st f fd:=by
 obtain ⟨oc,od,kV,doc,pm,an,bW,ct,jV,e,lk,fZ⟩:=F.ex
 refine ⟨⟨oc,od,kV,doc,pm,an,bW,ct,jV,e,eO lk,qU fZ⟩,?_⟩
 show PySem.W.keepIn (K++L) (.ref f)=true
 unfold PySem.W.keepIn
 dsimp only
 rw [eO lk]
theorem Binds.app {fd:FuncData} {ps:List Str} {ds:List Value} (h:Binds K fd ps ds):Binds (K++L) fd ps ds:=fun s us hk=>h s us (xP hk)
end
def jT (c:Addr) (qual:Str):HO:=.ext fun h=>h.CodeRec (.ref c) qual
theorem tQ {P:Program} {w:World} {H:Hp} {h:Heap} {c:Addr} {qual:Str} (x:h.CodeRec (.ref c) qual):aV P w H h c (jT c qual):=by
 obtain ⟨c',oc,vs,t,e,h1,h2,h3⟩:=id x
 cases e
 refine ⟨x,⟨oc,h1⟩,fun g1 g2 ⟨c',oc,vs,t,e,q1,q2,q3⟩ k=>?_⟩
 cases e
 exact ⟨_,oc,vs,t,rfl,k oc q1,q2,q3⟩
def oo (P:Program) (w:World) (K:PySem.W.Frag) (mg:Str→Option Value) (base:Heap) (N:List Str) (qual:Str) (scope:Scope) (f:Addr) (cd:Value) (cl:List (Str×Addr)) (A:Around) (outer:List Env) (s:Shared) (H:Hp):Cx where
 prog:=P
 w:=w
 K:=K
 mg:=mg
 base:=base
 A:=A.deeper (PySem.W.envX qual scope s.heap.objs.size f cd cl)
 N:=N
 s₀:=s
 H₀:=H
 env:=PySem.W.envX qual scope s.heap.objs.size f cd cl
 outer:=outer
 stack:=PySem.W.envX qual scope s.heap.objs.size f cd cl::outer
 ex:=[]
 calm:=true
 fn:=fun _=>false
 pn:=[]
 xe:=fun _ _=>False
structure fU (N ps:List Str) (x:Str) (sc:Scope):Prop where
 kind:sc.kind=.function
 co:sc.isCoroutine=false
 gen:sc.isGenerator=false
 nd:N.Nodup
 n:N=ps++[x]
 par:∀ y∈ps,sc.names.lookup y=some .local
 free:sc.names.lookup x=some .free
 all:∀ y∈sc.names,y.2≠.cell∧(y.2=.free→y.1=x)
theorem ku {y:Str} {u:Value}:∀ {ps:List Str} {us:List Value} {i:Nat},ps.Nodup→ps.length=us.length→ps[i]?=some y→us[i]?=some u→(ps.zip us).reverse.lookup y=some u
 | [],us,i,_,_,h,_=>by simp at h
 | _::_,[],_,_,_,_,h=>by simp at h
 | p::ps,v::us,0,nd,hl,h1,h2=>by
  simp at h1 h2
  subst h1;subst h2
  rw [List.zip_cons_cons,List.reverse_cons,List.lookup_append]
  have:(ps.zip us).reverse.lookup p=none:=by
   rw [List.lookup_eq_none_iff]
   intro q hq
   have hq:=List.mem_reverse.mp hq
   have:=(List.of_mem_zip hq).1
   simp only [beq_eq_false_iff_ne,bne_iff_ne,ne_eq]
   first
    | exact fun z=>(List.nodup_cons.mp nd).1 (z▸this)
    | simpa using fun z=>(List.nodup_cons.mp nd).1 (z▸this)
  rw [this]
  simp
 | p::ps,v::us,i+1,nd,hl,h1,h2=>by
  rw [List.zip_cons_cons,List.reverse_cons,List.lookup_append,ku (i:=i) (List.nodup_cons.mp nd).2 (by simpa using hl) (by simpa using h1) (by simpa using h2)]
  rfl
section
variable {P:Program} {w:World} {K:PySem.W.Frag} {mg:Str→Option Value} {base:Heap} {N ps:List Str} {x0 name qual:Str} {scope:Scope} {f c cc:Addr}
theorem vL {A:Around} {outer:List Env} {s:Shared} {H:Hp} {us:List Value} {vs:List V} {vn:V} {un:Value} {co:Obj} {h1:Heap} {tk:Nat} (S:fU N ps x0 scope) (hd:A.handled=none) (e0:lM P w K mg base A outer s H) (hl:vs.length=ps.length) (r:Vals vs us) (hc:base.get? c=some co) (fZ:co.data=.cell (some un)) (rn:RelV vn un)
  (ns:h1.Ns s.heap.objs.size (fun x=>(ps.zip us).reverse.lookup x)) (hk:∀ b o,s.heap.get? b=some o→h1.get? b=some o) :
  Inv (oo P w K mg base N qual scope f (.ref cc) [(x0,c)] A outer s H) [] (vs.map some++[some vn]) H { s with heap:=h1,toks:=tk }:=by
 obtain ⟨hcs,hcH⟩:=e0.bs c co hc
 have noA:∀ b:Addr,b∉(oo P w K mg base N qual scope f (.ref cc) [(x0,c)] A outer s H).ex:=fun b z=>absurd (show b∈([]:List Addr) from z) (by simp)
 have one:∀ {y:Str} {d:Addr},([(x0,c)]:List (Str×Addr)).lookup y=some d→y=x0∧d=c:=fun {y d} e=>by
  rw [List.lookup_cons] at e
  cases hb:y == x0 with
  | true=>rw [hb] at e;cases e;exact ⟨eq_of_beq hb,rfl⟩
  | false=>rw [hb] at e;cases e
 have x0c:([(x0,c)]:List (Str×Addr)).lookup x0=some c:=by rw [List.lookup_cons,beq_self_eq_true]
 have isc:h1.IsCell c (some un):=⟨co,hk c co hcs,fZ⟩
 have ndP:ps.Nodup:=by have:=S.nd;rw [S.n] at this;exact (List.nodup_append.mp this).1
 refine ⟨⟨e0.mod,S.kind,rfl,rfl,Nat.le_refl _,fun y z d h1 h2=>(one h1).1.trans (one h2).1.symm,fun y hy=>?_,fun y d hf _=>absurd (show false=true from hf) (by simp),fun _=>hd,Around.frames_deeper e0.frames,.inr ⟨rfl,rfl⟩,fun b z=>absurd z (noA b),e0.bs,e0.rH,fun b _ _=>noA b,fun b z=>absurd z (noA b),e0.fj,e0.xK⟩,
  rfl,e0.bare,Un.kept hk,⟨_,ns,fun i y v h1' h2 h3=>?_⟩,fun y d h=>⟨some un,(one h).2▸isc⟩,e0.aH.fresh (Nat.le_refl _),fun y d h=>(one h).2▸hcH,fun p hp=>absurd (show p∈([]:List (Addr×Obj)) from hp) (by simp),e0.aH.kept hk,?_⟩
 ·have hy:scope.names.lookup y=some .cell∨scope.names.lookup y=some .free:=hy
  rcases hy with hy | hy
  ·exact absurd rfl (S.all _ (PySem.mem_of_lookup hy)).1
  ·have:=(S.all _ (PySem.mem_of_lookup hy)).2 rfl
   exact ⟨c,by show ([(x0,c)]:List (Str×Addr)).lookup y=some c;rw [show y=x0 from this];exact x0c⟩
 ·have h1':N[i]?=some y:=h1'
  rw [S.n] at h1'
  by_cases hi:i < ps.length
  ·rw [List.getElem?_append_left (by simpa [hl] using hi),List.getElem?_map] at h2
   rw [List.getElem?_append_left hi] at h1'
   cases e:vs[i]? with
   | none=>rw [e] at h2;cases h2
   | some a =>
    rw [e] at h2
    cases h2
    obtain ⟨u,hu,rv⟩:=r.get e
    exact ⟨u,rv,.inl ⟨S.par y (List.mem_of_getElem? h1'),ku ndP (by rw [← hl,r.length]) h1' hu⟩⟩
  ·rw [List.getElem?_append_right (by omega)] at h1'
   rw [List.getElem?_append_right (by rw [List.length_map];omega),List.length_map] at h2
   have ei:i - ps.length=0:=by
    have:=(List.getElem?_eq_some_iff.mp h1').1
    simpa using this
   rw [ei] at h1'
   rw [hl,ei] at h2
   cases h1'
   cases h2
   exact ⟨un,rn,.inr ⟨.inr S.free,c,x0c,isc⟩⟩
 ·show (vs.map some++[some vn]).length=N.length
  rw [S.n]
  simp [hl]
theorem yC {k:Nat} {params:Arguments} {body:List Stmt} {doc pm ct oc Gn:Value} {od Gy:Option Addr} {jV Gf:Array (Option Value)} {sp:Sp} {vn:V} {un:Value}
  (lk:K.lookup f=some ⟨oc,od,.func (PySem.W.fnX name qual params body scope [(x0,c)] .none .none doc pm none (.ref cc) ct),jV⟩) (lc:K.lookup c=some ⟨Gn,Gy,.cell (some un),Gf⟩) (rn:RelV vn un) (S:fU N ps x0 scope)
  (len:∀ vs H Q E,sp vs H Q E→vs.length=ps.length) (code:∀ vs H Q E,sp vs H Q E→H cc=some (jT cc qual))
  (ko:∀ (A:Around) (outer:List Env) (s:Shared) (H:Hp) (vs:List V) (Q:VK) (E:XK),bH k (A.deeper (PySem.W.envX qual scope s.heap.objs.size f (.ref cc) [(x0,c)]))→sp vs H Q E →
   ∃ t,ic (oo P w K mg base N qual scope f (.ref cc) [(x0,c)] A outer s H) body t∧t { nx:=fun _ H'=>Q .aS H',rt:=Q } (vs.map some++[some vn]) H) :
  aw P w K mg base bz (k+1) f (PySem.W.fnX name qual params body scope [(x0,c)] .none .none doc pm none (.ref cc) ct) ps sp:=by
 refine ⟨len,fun A outer s H args us vs Q E hr e0 hb r lr=>?_⟩
 have hl:=len _ _ _ _ lr
 have KX:K.In s.heap:=e0.mod.rZ.keeps fun b o e=>(e0.bs b o e).1
 have lim:s.heap.NoLimit:=e0.mod.nolimit.keeps fun b o e=>(e0.bs b o e).1
 have jA:s.heap.CodeRec (.ref cc) qual:=(e0.aH cc _ (code _ _ _ _ lr)).1
 refine codeAny_call_function hr.depth (KX _ _ lk) rfl S.co S.gen rfl jA (hb _ _ _ _ ?_)
 refine wpAny_newFunctionEnv (fun y hy=>(S.all y hy).1) (fun y hy=>S.par y.1 (List.of_mem_zip hy).1) (fun h1 ns sb=>?_) S.kind
 have hk:∀ b o,s.heap.get? b=some o→h1.get? b=some o:=fun b o e=>by
  rw [sb.2 b (Nat.ne_of_lt (Heap.lt_size e))]
  exact Heap.get?_push_of_some _ e
 refine ⟨lim.keeps hk,codeAny_func ?_⟩
 obtain ⟨t,ht,hq⟩:=ko A outer s H vs Q E (hr.deeper _) lr
 have I:Inv (oo P w K mg base N qual scope f (.ref cc) [(x0,c)] A outer s H) [] (vs.map some++[some vn]) H { s with heap:=h1,toks:=s.toks+(ps.zip us).length }:=vL S hr.hd e0 hl r (e0.mod.rZ c _ lc) rfl rn ns hk
 refine wpAny_mono (ht [] _ _ H _ I hq) (fun fl s' hs=>?_) fun e s' hs=>False.elim hs
 have fin:∀ {σ':St} {H':Hp} {v:V} {u:Value},Inv (oo P w K mg base N qual scope f (.ref cc) [(x0,c)] A outer s H) [] σ' H' s'→RelV v u→Q v H'→CE outer P w H s Q u s' :=
  fun {σ' H' v u} J rv q=>⟨v,H',J.os,J.bare,J.base,J.aH,rv,q⟩
 cases fl with
 | ret u =>
  obtain ⟨v,σ',H',J,rv,q⟩:=hs
  exact fin J rv q
 | next =>
  obtain ⟨σ',H',J,q⟩:=hs
  exact fin (v:=V.aS) (u:=Value.none) J rfl q
 | brk =>
  obtain ⟨_,_,_,q⟩:=hs
  exact False.elim q
 | cont =>
  obtain ⟨_,_,_,q⟩:=hs
  exact False.elim q
end
section
variable {X:Cx} {pins:List (Addr×Obj)} {σ:St} {H:Hp} {s:Shared}
def lC (s:Shared) (H:Hp) (fs:List Addr):Heap:=PySem.W.hideAll (eP s.heap H) fs
theorem j3 {fs:List Addr} {b:Addr} {o:Obj} (e:s.heap.get? b=some o) (n:H b=none) (hf:b∉fs):(lC s H fs).get? b=some o:=PySem.W.hideAll_get _ (la e n) hf
theorem jK {fs:List Addr} {b:Addr} {o:Obj} (e:(lC s H fs).get? b=some o):s.heap.get? b=some o∧H b=none∧b∉fs:=by
 obtain ⟨h1,h2⟩:=nk (PySem.W.of_hideAll _ e)
 refine ⟨h1,h2,fun z=>?_⟩
 have:=PySem.W.hideAll_none fs (h:=eP s.heap H) z
 rw [show (PySem.W.hideAll (eP s.heap H) fs).get? b=some o from e] at this
 cases this
theorem uQ {h base eV:Heap}:∀ {l:List Env},h.FunFrames base l→(∀ b∈hW l,eV.get? b=none)→h.FunFrames eV l
 | [],_,_=>trivial
 | env::rest,⟨h1,⟨L,o,h2,h3,h4,h5⟩,h6⟩,hb=>⟨h1,⟨L,o,h2,hb L (by unfold hW;rw [List.filterMap_cons,h2];exact List.mem_cons_self ..),h4,h5⟩,uQ h6 fun b hb'=>hb b (by
  unfold hW at hb' ⊢
  rw [List.filterMap_cons,h2]
  exact List.mem_cons_of_mem _ hb')⟩
theorem Inv.FT (I:Inv X pins σ H s) {L:PySem.W.Frag} (hL:∀ a o,L.lookup a=some o→s.heap.get? a=some o∧H a=none∧a∉hW X.stack):lM X.prog X.w (X.K++L) X.mg (lC s H (hW X.stack)) X.A X.stack s H:=by
 have nf:∀ b o,X.base.get? b=some o→b∉hW X.stack:=fun b o e z=>by
  rcases List.mem_cons.mp (I.gy b z) with z | z
  ·have:=Heap.lt_size e
   rw [z] at this
   exact absurd this (Nat.not_lt.mpr (Nat.le_trans I.ok.rH I.ok.above))
  ·exact I.ok.Ax e z
 have up:∀ b o,X.base.get? b=some o→(lC s H (hW X.stack)).get? b=some o:=fun b o e=>j3 (I.bs b o e).1 (I.bs b o e).2 (nf b o e)
 refine ⟨I.ok.frames,⟨fun a o e=>?_,I.mod.glob.keeps up,?_,I.mod.nolimit.keeps up⟩,fun b o e=>⟨(jK e).1,(jK e).2.1⟩,?_,uQ I.stack fun b hb=>?_,I.f7,I.aH,I.bare⟩
 ·rw [List.lookup_append] at e
  cases q:X.K.lookup a with
  | some o' =>
   rw [q] at e
   cases e
   exact up a _ (I.mod.rZ a _ q)
  | none =>
   rw [q] at e
   obtain ⟨h1,h2,h3⟩:=hL a o e
   exact j3 h1 h2 h3
 ·obtain ⟨mb,h1,h2⟩:=I.mod.blt
  exact ⟨mb,h1.keeps up,h2⟩
 ·unfold lC
  rw [PySem.W.hideAll_size,ip]
  exact Nat.le_refl _
 ·cases q:(lC s H (hW X.stack)).get? b with
  | none=>rfl
  | some o=>exact absurd hb (jK q).2.2
theorem ud {k:Nat} {f:Addr} {fd:FuncData} {ps:List Str} {sp:Sp} {K':PySem.W.Frag} {eV:Heap} {Q:VK} {us:List Value} {vs:List V} (F:aw X.prog X.w K' X.mg eV bz k f fd ps sp) (hr:bH k X.A) (hb:Binds K' fd ps []) (e0:lM X.prog X.w K' X.mg eV X.A X.stack s H)
  (I:Inv X pins σ H s) (r:Vals vs us) (h:sp vs H Q E0):wpAny (model X.prog X.w) X.A (call (.ref f) us) (EP X pins σ Q) X.xe s:=by
 have hl:(us++[]).length=ps.length:=by rw [List.append_nil,← r.length];exact F.len _ _ _ _ h
 have hkin:K'.In s.heap:=e0.mod.rZ.keeps fun b o e=>(e0.bs b o e).1
 have AS:=hb s us hkin hl
 rw [List.append_nil] at AS
 refine wpAny_call (codeAny_mono (F.run X.A X.stack s H ⟨us,[]⟩ us vs Q E0 hr e0 AS r h) fun r s' hq=>?_)
 cases r with
 | error e=>exact ir pins σ H s e s' I hq
 | ok fl =>
  cases fl with
  | ret u=>exact I.after hq
  | next=>exact False.elim hq
  | brk=>exact False.elim hq
  | cont=>exact False.elim hq
end
end L2
namespace L2
open PySem PySem.Calls PyProof.Rows PyProof.V PySem.Spec
section
variable {X:Cx}
theorem pk {k:Nat} {x:Str} {e:Expr} {es:List Expr} {p pos:Pos} {tf:TE} {t:TA} (hr:bH k X.A) (hf:PE X (.Name x p) tf) (ha:PA X (e::es) t)
  (he:starEach (e::es) X.env=(false,eval e X.env)::starEach es X.env:=by rfl) (fg:(backTo pos (starEach es X.env)).any (·.1)=false:=by rfl) :
  PE X (.Call (.Name x p) (e::es) [] pos) (w6 X k tf t):=by
 intro pins s σ H Q I h
 rw [show eval (.Call (.Name x p) (e::es) [] pos) X.env=(do callWith pos (← eval (.Name x p) X.env) [] (backTo pos (starEach (e::es) X.env)) (backToKw pos (keywordEach [] X.env))) from rfl]
 refine wpAny_bind (ba (hf pins s σ H _ I h) fun v s1 ⟨x,H1,I1,r,f,sp,e1,⟨fd,ps,F,hk,hb⟩,q⟩=>?_)
 subst e1
 cases (show v=Value.ref f from r)
 refine PySem.W.callWith_K (h₀:=X.base) I1.ok.mod.rZ hk (ba (ha pos pins s1 σ H1 _ I1 q) fun us s2 ⟨vs,H2,I2,r2,q2⟩=>⟨I2.u9,?_⟩) he fg
 exact qm F hr hb .nil ir I2 r2 (by rw [List.append_nil];exact q2)
def Bf (p:Addr) (o:Obj):HO:=.ext fun h=>h.get? p=some o
theorem wB {P:Program} {w:World} {H:Hp} {h:Heap} {p:Addr} {o:Obj} (e:h.get? p=some o):aV P w H h p (Bf p o):=⟨e,⟨o,e⟩,fun _ _ q k=>k o q⟩
theorem Inv.D7 {pins:List (Addr×Obj)} {σ:St} {H:Hp} {s:Shared} {p:Addr} {φ:Heap→Prop} (I:Inv X pins σ H s) (hp:H p=some (.ext φ)):Inv X pins σ (DL.del H p) s:=by
 have ne:∀ {b:Addr} {o:HO},H b=some o→(∀ ψ,o≠.ext ψ)→DL.del H p b=some o:=fun {b o} e h=>by
  rw [DL.jF fun z=>?_]
  ·exact e
  ·rw [z,hp] at e;cases e;exact h _ rfl
 have nn:∀ {b:Addr},H b=none→DL.del H p b=none:=fun {b} e=>by
  unfold DL.del
  split
  ·rfl
  ·exact e
 refine ⟨I.ok,I.os,I.bare,⟨I.base.keep,I.base.slot,fun b o e n hx=>nn (I.base.free b o e n hx),I.base.there,fun b xs e=>ne (I.base.jS b xs e) (fun _ z=>nomatch z),fun b o u e=>ne (I.base.ia b o u e) (fun _ z=>nomatch z),fun b ps e=>?_⟩,I.loc,I.cell,nn I.free,fun x c e=>nn (I.cQ x c e),fun q hq=>?_,fun a o e=>?_,I.len⟩
 ·obtain ⟨m,e⟩:=I.base.hX b ps e
  exact ⟨m,ne e fun _ z=>nomatch z⟩
 ·obtain ⟨h1,h2,h3⟩:=I.pin q hq
  exact ⟨h1,nn h2,h3⟩
 ·have ha:a≠p:=fun z=>by rw [z,DL.gz] at e;cases e
  rw [DL.jF ha] at e
  exact (I.aH a o e).jI (fun _ _ _ q=>q) (fun b q=>ne q fun _ z=>nomatch z) fun b xs q=>ne q fun _ z=>nomatch z
def kh (P0:Addr) (pos:Pos) (qual:Str) (H:Hp):Prop:=H P0=some (.jf #[])∨∃ cc,H P0=some (.jf #[rawInt pos.line,rawInt pos.col,.ref cc])∧H cc=some (jT cc qual)
structure cf (P0:Addr) (pos:Pos) (qual:Str) (H H1:Hp) (cc:Addr):Prop where
 tb:H1 P0=some (.jf #[rawInt pos.line,rawInt pos.col,.ref cc])
 cd:H1 cc=some (jT cc qual)
 ne:cc≠P0
 kp:∀ b o,b≠P0→H b=some o→H1 b=some o
 nw:∀ b,b≠P0→b≠cc→H1 b=H b
 Hn:H cc=none∨H cc=some (jT cc qual)
def Cz (P0:Addr) (pos:Pos) (qual:Str) (i:Nat) (fo:Value→Addr→Value→Obj):TS:=fun E σ H=>kh P0 pos qual H∧∀ cc p oX doc H1,cf P0 pos qual H H1 cc→H1 p=none→E.nx (σ.set i (some (.ref p))) (upd H1 p (Bf p (fo doc cc oX)))
theorem vC {name qual:Str} {params:Arguments} {body:List Stmt} {scope:Scope} {pos:Pos} {clos:List (Str×Addr)} {c0 P0:Addr} {i:Nat} (oV:params.defaults=[]) (Hg:params.kw_defaults=[]) (ha:annTrees params none X.env=[]) (hq:qualnameIn X.env name name=qual) (xn:closureFor scope X.env=pure clos) (uK:X.env.code=.ref c0) (C:PySem.W.CodeHd X.base c0 P0) (B:X.base.BuiltinsAt X.mg P0) (tU:mainGlobals≠P0)
  (hN:X.N.Nodup) (hi:X.N[i]?=some name) (hx:X.env.scope.names.lookup name=some .local) :
  PS X (.FunctionDef name params body [] none [] scope none name pos) (Cz P0 pos qual i fun doc cc oX=>PySem.W.fnMade name qual params body scope clos doc ((X.mg "__name__").getD .none) cc oX):=by
 intro pins s σ H E I ⟨ht,k⟩
 refine PySem.W.nestDef_K oV Hg ha ?_
 rw [hq]
 have fin:∀ {H1:Hp} {h':Heap} {cc:Addr} {oX doc:Value} {tk:Nat},cf P0 pos qual H H1 cc→Inv X pins σ H1 { s with heap:=h',toks:=tk } →
   wpAny (model X.prog X.w) X.A (storeName X.env name (.ref h'.objs.size)) (fun _ oN=>SP X pins E .next oN) X.xe { s with heap:=h'.push (PySem.W.fnMade name qual params body scope clos doc ((X.mg "__name__").getD .none) cc oX),toks:=tk }:=fun {H1 h' cc oX doc tk} st I1=>by
  have I2:=I1.laid (t':=tk) (o:=Bf h'.objs.size (PySem.W.fnMade name qual params body scope clos doc ((X.mg "__name__").getD .none) cc oX)) (a:=h'.objs.size) (h':=h'.push (PySem.W.fnMade name qual params body scope clos doc ((X.mg "__name__").getD .none) cc oX)) (fun b u e=>Heap.get?_push_of_some _ e) (Nat.le_refl _) (wB (Heap.get?_push_size _ rfl))
  exact fz I2 hN hi (.inl hx) (v:=.ref h'.objs.size) rfl (fun s' I3 _=>⟨_,_,I3,k cc _ oX doc H1 st (I1.aH.fresh (Nat.le_refl _))⟩) (.inr hx)
 have hg:=I.mod.glob.keeps I.bk
 have C':=C.keeps I.bk
 have B':=B.keeps I.bk
 have c0P:c0≠P0:=by obtain ⟨_,_,_,_,_,_,_,_,_,_,_,_,_,_,_,_,_,_,h⟩:=C;exact h
 rcases ht with ht | ⟨cc,ht,hcc⟩
 ·have hP:s.heap.get? P0=some (PySem.W.tabObj #[]):=I.aH P0 _ ht
  refine PySem.W.makeFunction_K (mg:=X.mg) xn I.ok.glob hg uK C' hP trivial rfl tU B' fun c' oX doc h' tk hx hge eu jA htb=>?_
  have hc':H c'=none:=I.aH.fresh hge
  have cP:c'≠P0:=fun z=>by rw [z,ht] at hc';cases hc'
  have htb:h'.get? P0=some (PySem.W.tabObj #[rawInt pos.line,rawInt pos.col,.ref c']):=by simpa using htb
  have n1:∀ {b:Addr},b≠P0→b≠c'→upd (upd H P0 (.jf #[rawInt pos.line,rawInt pos.col,.ref c'])) c' (jT c' qual) b=H b:=fun h1 h2=>by rw [ag h2,ag h1]
  have k1:∀ b o,b≠P0→H b=some o→upd (upd H P0 (.jf #[rawInt pos.line,rawInt pos.col,.ref c'])) c' (jT c' qual) b=some o:=fun b o hb e=>by
   rw [n1 hb fun z=>by rw [z,hc'] at e;cases e]
   exact e
  have st:cf P0 pos qual H (upd (upd H P0 (.jf #[rawInt pos.line,rawInt pos.col,.ref c'])) c' (jT c' qual)) c':=⟨by rw [ag cP.symm];exact ah,ah,cP,k1,fun b h1 h2=>n1 h1 h2,.inl hc'⟩
  refine fin (h':=h') (tk:=tk) st (I.un (t':=tk) (h':=h') ⟨fun b o e n _ _=>?_,fun b o e n _ _=>?_,fun b o e n _=>?_,fun b o e _=>?_,fun b xs e=>?_,fun b o u e=>?_,fun b ps e=>?_⟩ fun a o e=>?_)
  ·exact hx b o (fun z=>by rw [z,ht] at n;cases n) e
  ·exact ⟨o.slots,hx b o (fun z=>by rw [z,ht] at n;cases n) e⟩
  ·rw [n1 (fun z=>by rw [z,ht] at n;cases n) fun z=>absurd (Heap.lt_size e) (by rw [z];exact Nat.not_lt.mpr hge)]
   exact n
  ·by_cases hb:b=P0
   ·exact ⟨_,by rw [hb];exact htb⟩
   ·exact ⟨o,hx b o hb e⟩
  ·exact k1 b _ (fun z=>by rw [z,ht] at e;cases e) e
  ·exact k1 b _ (fun z=>by rw [z,ht] at e;cases e) e
  ·by_cases hb:b=P0
   ·subst hb
    rw [ht] at e
    cases e
    exact ⟨#[rawInt pos.line,rawInt pos.col,.ref c'],by rw [ag cP.symm,ah];rfl⟩
   ·exact ⟨#[],by rw [Array.append_empty];exact k1 b _ hb e⟩
  ·by_cases h1:a=c'
   ·subst h1
    rw [ah] at e
    cases e
    exact tQ jA
   ·by_cases h2:a=P0
    ·subst h2
     rw [ag h1,ah] at e
     cases e
     exact htb
    ·rw [n1 h2 h1] at e
     refine (I.aH a o e).jI (fun b u hb q=>hx b u (fun z=>?_) q) (fun b q=>k1 b _ (fun z=>by rw [z,ht] at q;cases q) q) fun b xs q=>k1 b _ (fun z=>by rw [z,ht] at q;cases q) q
     rcases hb with hb | hb
     ·exact h2 (hb.symm.trans z)
     ·rw [z,ht] at hb;cases hb
 ·have hP:s.heap.get? P0=some (PySem.W.tabObj #[rawInt pos.line,rawInt pos.col,.ref cc]):=I.aH P0 _ ht
  have st:cf P0 pos qual H H cc:=⟨ht,hcc,(fun z=>by rw [z,ht] at hcc;cases hcc),fun _ _ _ e=>e,fun _ _ _=>rfl,.inr hcc⟩
  refine PySem.W.makeFunction_hit (mg:=X.mg) (cv:=.ref cc) xn I.ok.glob hg uK C' hP (by simp [TriplesOk,rawInt]) (by simp [codeAmong,rawInt]) B' fun oX doc h' tk hk hsz=>?_
  exact fin (h':=h') (tk:=tk) st (I.kept (t':=tk) hk)
def zJ (k:Nat) (f:Addr) (i0:Nat) (c:Addr) (t:TA):TE:=fun σ H Q=>t σ H fun vs H2=>∃ p fo vn,H2 p=some (Bf p fo)∧σ[i0]?=some (some vn)∧∀ (L:PySem.W.Frag) (eV:Heap) (un:Value) (co:Obj),(X.K++L).lookup p=some fo→(X.K++L).lookup c=some co→co.data=.cell (some un)→RelV vn un →
 ∃ fd ps sp,aw X.prog X.w (X.K++L) X.mg eV bz k f fd ps sp∧Binds (X.K++L) fd ps []∧sp vs (DL.del H2 p) Q E0
theorem uk {k:Nat} {f c:Addr} {x x0:Str} {i0:Nat} {p pos:Pos} {e:Expr} {es:List Expr} {t:TA} (hr:bH k X.A) (hg:Gl X x) (hm:X.mg x=some (.ref f)) (hk:PySem.W.keepIn X.K (.ref f)=true) (hi:X.N[i0]?=some x0) (hs:X.env.scope.names.lookup x0=some .cell) (yg:X.fn x0=true) (hc:X.env.cells.lookup x0=some c)
  (ha:PA X (e::es) t) (jG:(x == ("__debug__":Str))=false:=by decide) (he:starEach (e::es) X.env=(false,eval e X.env)::starEach es X.env:=by rfl) (fg:(backTo pos (starEach es X.env)).any (·.1)=false:=by rfl) :
  PE X (.Call (.Name x p) (e::es) [] pos) (zJ (X:=X) k f i0 c t):=by
 intro pins s σ H Q I h
 refine wpAny_Call_Name_kw (jR I hg hm ?_ jG)
 refine PySem.W.callWith_K (h₀:=X.base) I.ok.mod.rZ hk (ba (ha pos pins s σ H _ I h) fun us s2 ⟨vs,H2,I2,r,q⟩=>⟨I2.u9,?_⟩) he fg
 obtain ⟨q,fo,vn,hp,hv,q2⟩:=q
 have hfo:s2.heap.get? q=some fo:=(I2.aH q _ hp).1
 have I3:=I2.D7 hp
 obtain ⟨m,_,hl⟩:=id I2.loc
 obtain ⟨un,rn,lk⟩:=hl i0 x0 vn hi hv (.inr (.inl hs))
 have hcell:s2.heap.IsCell c (some un):=by
  rcases lk with ⟨lk,_⟩ | ⟨_,d,hd,hi⟩
  ·rw [show X.env.kindOf x0=some .cell from hs] at lk;cases lk
  ·rw [hc] at hd;cases hd;exact hi
 obtain ⟨co,hco,fZ⟩:=hcell
 have nK:∀ {b:Addr},X.base.get? b=none→X.K.lookup b=none:=fun {b} e=>by
  cases z:X.K.lookup b with
  | none=>rfl
  | some o=>rw [I2.mod.rZ b o z] at e;cases e
 have bq:X.base.get? q=none:=by
  cases z:X.base.get? q with
  | none=>rfl
  | some o=>rw [(I2.bs q o z).2] at hp;cases hp
 have bc:X.base.get? c=none:=Heap.get?_none_of_le (Nat.le_trans I2.ok.rH (I2.ok.wc x0 c yg hc))
 have qc:q≠c:=fun z=>by rw [z,I2.cQ x0 c hc] at hp;cases hp
 have l1:(X.K++[(q,fo),(c,co)]).lookup q=some fo:=by
  rw [List.lookup_append,nK bq]
  show List.lookup q [(q,fo),(c,co)]=_
  rw [List.lookup_cons,beq_self_eq_true]
 have l2:(X.K++[(q,fo),(c,co)]).lookup c=some co:=by
  rw [List.lookup_append,nK bc]
  show List.lookup c [(q,fo),(c,co)]=_
  rw [List.lookup_cons,beq_false_of_ne qc.symm,List.lookup_cons,beq_self_eq_true]
 have nst:∀ {b:Addr} {o:HO},H2 b=some o→b∉hW X.stack:=fun {b o} e z=>by rw [I2.f7 b z] at e;cases e
 have cst:c∉hW X.stack:=fun z=>by
  rcases List.mem_cons.mp (I2.gy c z) with z | z
  ·exact I2.uX x0 c hc z
  ·obtain ⟨_,o,ho,_⟩:=I2.ok.fj.mem z
   exact absurd (Heap.lt_size ho) (Nat.not_lt.mpr (I2.ok.wc x0 c yg hc))
 have e0:=I3.FT (L:=[(q,fo),(c,co)]) fun a o e=>by
  rw [List.lookup_cons] at e
  cases hb:a == q with
  | true =>
   rw [hb] at e
   cases e
   rw [eq_of_beq hb]
   exact ⟨hfo,DL.gz,nst hp⟩
  | false =>
   rw [hb] at e
   replace e:List.lookup a [(c,co)]=some o:=e
   rw [List.lookup_cons] at e
   cases hb2:a == c with
   | true =>
    rw [hb2] at e
    cases e
    rw [eq_of_beq hb2]
    exact ⟨hco,by rw [DL.jF qc.symm];exact I2.cQ x0 c hc,cst⟩
   | false=>rw [hb2] at e;cases e
 obtain ⟨fd,ps,sp,F,hb,lr⟩:=q2 [(q,fo),(c,co)] (lC s2 (DL.del H2 q) (hW X.stack)) un co l1 l2 fZ rn
 exact ud F hr hb e0 I3 r lr
end
end L2
namespace DL
open PySem PySem.Spec L2
open PyProof.Rows hiding St
section
variable {K K':PySem.W.Frag} {H:Hp} {M:Addr→Prop}
mutual
theorem Rep.any:∀ (d:D) (v:V),Rep K H M d v→Rep K' H M d v
 | .aS,v,h=>h
 | .bl b,v,h=>h
 | .int i,v,h=>h
 | .str x,v,h=>h
 | .eK a,v,h=>h
 | .ty n,v,h=>h
 | .tup ds,v,h=>by
  obtain ⟨a,xs,e,t,r⟩:=h
  exact ⟨a,xs,e,t,ai.any ds xs r⟩
 | .lst ds,v,h=>by
  obtain ⟨a,xs,e,t,r⟩:=h
  exact ⟨a,xs,e,t,ai.any ds xs r⟩
 | .mE ks vs,v,h=>by
  obtain ⟨a,xs,e,t,k,r⟩:=h
  exact ⟨a,xs,e,t,k,ai.any vs _ r⟩
 | .dA ks vs,v,h=>by
  obtain ⟨a,xs,e,t,k,r⟩:=h
  exact ⟨a,xs,e,t,k,ai.any vs _ r⟩
theorem ai.any:∀ (ds:List D) (vs:List V),ai K H M ds vs→ai K' H M ds vs
 | [],vs,h=>h
 | d::ds,vs,h=>by
  obtain ⟨x,r,e,h1,h2⟩:=h
  exact ⟨x,r,e,Rep.any d x h1,ai.any ds r h2⟩
end
end
def p4 (Fc:Hp→(Addr→Prop)→Prop):Prop:=∀ M H M' H',Fc H M→Base ⟨.no,M,H⟩ M' H'→Fc H' M'
def sX (K:PySem.W.Frag) (Fc:Hp→(Addr→Prop)→Prop) (t:List D→(D→Prop)→Prop):Sp:=fun vs H Q _=>∃ M ds R,Base ⟨.no,M,H⟩ M H∧ai K H M ds vs∧Fc H M∧t ds R∧∀ d,R d→∀ M' H' v,Base ⟨.no,M,H⟩ M' H'→Rep K H' M' d v→Q v H'
def AX (K:PySem.W.Frag) (dn:D) (vn:V) (cc:Addr) (qual:Str) (H:Hp) (M:Addr→Prop):Prop:=Rep K H M dn vn∧H cc=some (jT cc qual)
theorem oB {K:PySem.W.Frag} {dn:D} {vn:V} {cc:Addr} {qual:Str}:p4 (AX K dn vn cc qual):=fun M H M' H' ⟨h1,h2⟩ B=>⟨Rep.mono B.m0 (fun b o _ e=>B.fr b o e fun z=>z) dn vn h1,B.fr cc _ h2 fun z=>z⟩
section
variable {P:Program} {w:World} {K:PySem.W.Frag} {mg:Str→Option Value} {base:Heap} {Fc:Hp→(Addr→Prop)→Prop}
theorem He {x qual:Str} {st:Stmt} {f:Addr} {fd:FuncData} {N ps:List Str} {k nos:Nat} {t:List D→(D→Prop)→Prop} (F:cq K x qual st f fd) (S:aD N ps (af st)) (len:∀ ds R,t ds R→ds.length=ps.length)
  (hb:∀ (bW:Value) (A:Around) (outer:List Env) (s:Shared) (H:Hp) (E:XK) (M:Addr→Prop),bH k (A.deeper (envOfC qual (af st) s.heap.objs.size f bW))→Fc H M →
   ∃ tb,oZ (ij bz P w K mg base N qual (af st) f bW A outer s H E).uP ⟨.no,M,H⟩ (ao st) tb∧∀ ds R,t ds R→tb { nx:=fun _=>R .aS,rt:=R } (cm N.length nos ds)):aw P w K mg base bz (k+1) f fd ps (sX K Fc t):=by
 refine F.ok S (fun vs H Q E h=>?_) fun bW A outer s H vs Q E hr h=>?_
 ·obtain ⟨M,ds,R,B,r,_,q,_⟩:=h
  rw [r.length]
  exact len ds R q
 ·obtain ⟨M,ds,R,B,r,hf,q,kk⟩:=h
  obtain ⟨tb,h1,h2⟩:=hb bW A outer s H E M hr hf
  exact ⟨_,h1.ps,M,_,_,_,eE B r rfl,h2 ds R q,⟨fun s as M' σ H' r L _=>kk .aS r M' H' .aS L.base rfl,fun _ _ _ _ _ z=>z.elim,fun _ _ _ _ _ z=>z.elim,fun d M' H' v r B' rv=>kk d r M' H' v B' rv,fun _ _ _ _ _ z=>z.elim,fun _ _ _ _ _ _ _ z=>z.elim⟩⟩
theorem aw.zu {k:Nat} {f:Addr} {fd:FuncData} {ps:List Str} {t:List D→(D→Prop)→Prop} (F:aw P w K mg base bz k f fd ps (cW K .no t)):aw P w K mg base bz k f fd ps (sX K Fc t):=F.imp fun vs H Q E ⟨M,ds,R,B,r,_,q,kk⟩=>⟨M,ds,R,B,r,q,kk⟩
theorem Et {N ps:List Str} {x0 name qual:Str} {scope:Scope} {f c cc:Addr} {k:Nat} {params:Arguments} {body:List Stmt} {doc pm ct oc:Value} {od:Option Addr} {jV:Array (Option Value)} {co:Obj} {vn:V} {un:Value} {dn:D} {t:List D→(D→Prop)→Prop}
  (lk:K.lookup f=some ⟨oc,od,.func (PySem.W.fnX name qual params body scope [(x0,c)] .none .none doc pm none (.ref cc) ct),jV⟩) (lc:K.lookup c=some co) (fZ:co.data=.cell (some un)) (rn:RelV vn un) (S:fU N ps x0 scope)
  (len:∀ ds R,t ds R→ds.length=ps.length)
  (hb:∀ (A:Around) (outer:List Env) (s:Shared) (H:Hp) (M:Addr→Prop),bH k (A.deeper (PySem.W.envX qual scope s.heap.objs.size f (.ref cc) [(x0,c)])) →
   ∃ tb,oZ (oo P w K mg base N qual scope f (.ref cc) [(x0,c)] A outer s H) ⟨.no,M,H⟩ body tb∧∀ ds R,t ds R→tb { nx:=fun _=>R .aS,rt:=R } ⟨(ds++[dn]).map .dat,[]⟩) :
  aw P w K mg base bz (k+1) f (PySem.W.fnX name qual params body scope [(x0,c)] .none .none doc pm none (.ref cc) ct) ps (sX K (AX K dn vn cc qual) t):=by
 obtain ⟨Gn,Gy,cdt,Gf⟩:=co
 simp only at fZ
 subst fZ
 refine yC lk lc rn S (fun vs H Q E h=>?_) (fun vs H Q E h=>?_) fun A outer s H vs Q E hr h=>?_
 ·obtain ⟨M,ds,R,B,r,_,q,_⟩:=h
  rw [r.length]
  exact len ds R q
 ·obtain ⟨M,ds,R,B,r,hf,_⟩:=h
  exact hf.2
 ·obtain ⟨M,ds,R,B,r,hf,q,kk⟩:=h
  obtain ⟨tb,h1,h2⟩:=hb A outer s H M hr
  have hl:ds.length=ps.length:=len ds R q
  have hN:N.length=ps.length+1:=by rw [S.n];simp
  have hv:vs.length=ps.length:=by rw [r.length,hl]
  have L:=eE (N:=N) (nos:=0) B (r.append (ai.one hf.1)) rfl
  have e1:cm N.length 0 (ds++[dn])=⟨(ds++[dn]).map .dat,[]⟩:=by
   unfold cm
   rw [show N.length - (ds++[dn]).length=0 by simp;omega]
   simp
  have e2:L2.start N (vs++[vn])=vs.map some++[some vn]:=by
   unfold L2.start
   rw [show N.length - (vs++[vn]).length=0 by simp;omega]
   simp
  rw [e1,e2] at L
  exact ⟨_,h1.ps,M,_,_,_,L,h2 ds R q,⟨fun s as M' σ H' r L _=>kk .aS r M' H' .aS L.base rfl,fun _ _ _ _ _ z=>z.elim,fun _ _ _ _ _ z=>z.elim,fun d M' H' v r B' rv=>kk d r M' H' v B' rv,fun _ _ _ _ _ z=>z.elim,fun _ _ _ _ _ _ _ z=>z.elim⟩⟩
end
section
variable {X:Cx} {M0:Addr→Prop} {H0:Hp} {Fc:Hp→(Addr→Prop)→Prop} {k:Nat} {f:Addr} {fd:FuncData} {ps:List Str} {t:List D→(D→Prop)→Prop} {x:Str} {p pos:Pos} {e:Expr} {es:List Expr} {ta:dm}
def xF (i:Nat) (f:Addr) (t:List D→(D→Prop)→Prop) (ta:dm):bj:=fun s Q=>s.sl[i]?=some (.dat (.eK f))∧ta s fun ds s1=>t ds fun d=>Q d s1
theorem mV {i:Nat} (hS:p4 Fc) (hf:Fc H0 M0) (hr:bH k X.A) (hv:PE X (.Name x p) (aM i)) (hk:PySem.W.keepIn X.K (.ref f)=true) (hb:Binds X.K fd ps []) (ha:DA X ⟨.no,M0,H0⟩ (e::es) ta) (F:aw X.prog X.w X.K X.mg X.base bz k f fd ps (sX X.K Fc t))
  (he:starEach (e::es) X.env=(false,eval e X.env)::starEach es X.env:=by rfl) (fg:(backTo pos (starEach es X.env)).any (·.1)=false:=by rfl) :
  DE X ⟨.no,M0,H0⟩ (.Call (.Name x p) (e::es) [] pos) (xF i f t ta):=⟨(pk hr hv ha.pa he fg).imp fun σ H Q ⟨M,s,as,R,L,⟨hi,q⟩,kk⟩=>by
 obtain ⟨v,h1,h2⟩:=L.dat i _ hi
 refine ⟨v,h1,f,_,h2,⟨fd,ps,F,hk,hb⟩,M,s,as,_,L,q,fun ds s1 q1 M1 H1 vs L1 E1 r1 hl=>?_⟩
 have B1:Base ⟨.no,M0,H0⟩ M1 H1:=L1.base
 exact ⟨M1,ds,_,L1.base.uV,r1,hS M0 H0 M1 H1 hf B1,q1,fun d rd M' H' v B rv=>kk d s1 rd M' H' v (L1.after (L1.base.uA B)) (E1.trans L1.base (Ext.after (L1.base.uA B))) rv⟩⟩
end
def eI (P0:Addr) (pos:Pos) (qual:Str):mq where
 own:=fun b=>b=P0
 inv:=kh P0 pos qual
 loc:=fun H H' h k=>by
  rcases h with h | ⟨cc,h1,h2⟩
  ·exact .inl (k _ _ (.inl rfl) h)
  ·exact .inr ⟨cc,k _ _ (.inl rfl) h1,k _ _ (.inr ⟨_,rfl⟩) h2⟩
 qE:=fun H b h e=>by
  subst e
  rcases h with h | ⟨cc,h1,h2⟩
  ·exact ⟨_,h⟩
  ·exact ⟨_,h1⟩
 nt:=fun H b xs h e z=>by
  subst e
  rcases h with h | ⟨cc,h1,h2⟩
  ·rw [h] at z;cases z
  ·rw [h1] at z;cases z
theorem cf.base {P0 cc:Addr} {pos:Pos} {qual:Str} {H H1 H':Hp} {M M':Addr→Prop} (st:cf P0 pos qual H H1 cc) (B:Base ⟨eI P0 pos qual,M,H⟩ M H) (B':Base ⟨.no,M,H1⟩ M' H'):Base ⟨eI P0 pos qual,M,H⟩ M' H' where
 fG:=.inr ⟨cc,B'.fr _ _ st.tb fun z=>z,B'.fr _ _ st.cd fun z=>z⟩
 fr:=fun b o e n=>B'.fr b o (st.kp b o n e) fun z=>z
 md:=B'.md
 mo:=fun b m z=>by
  have z:b=P0:=z
  subst z
  rcases (show M b∨Nu H1 b from B'.mn b m) with m | n | ⟨xs,n⟩
  ·exact B.mo b m rfl
  ·rw [st.tb] at n;cases n
  ·rw [st.tb] at n;cases n
 m0:=B'.m0
 mn:=fun b m=>by
  rcases (show M b∨Nu H1 b from B'.mn b m) with m | n
  ·exact .inl m
  ·refine .inr ?_
   have bP:b≠P0:=fun z=>by
    subst z
    rcases n with n | ⟨xs,n⟩
    ·rw [st.tb] at n;cases n
    ·rw [st.tb] at n;cases n
   rcases n with n | ⟨xs,n⟩
   ·cases q:H b with
    | none=>exact .inl q
    | some o =>
     have:=st.kp b o bP q
     rw [n] at this
     cases this
   ·have bc:b≠cc:=fun z=>by rw [z,st.cd] at n;cases n
    have:=st.nw b bP bc
    rw [n] at this
    exact .inr ⟨xs,this.symm⟩
theorem cf.here {P0 cc:Addr} {pos:Pos} {qual:Str} {H H1:Hp} {M:Addr→Prop} (st:cf P0 pos qual H H1 cc) (B:Base ⟨eI P0 pos qual,M,H⟩ M H):Base ⟨.no,M,H1⟩ M H1:=⟨trivial,fun _ _ e _=>e,fun b m=>by
 obtain ⟨o,e⟩:=B.md b m
 exact ⟨o,st.kp b o (B.mo b m) e⟩,fun _ _ z=>z,fun _ m=>m,fun _ m=>.inl m⟩
end DL
namespace L2
open PySem PySem.Calls PyProof.Rows PyProof.V PySem.Spec
theorem tX (n:Nat):Builtin.Slice.sliceAdjust none none (-1) (n:Int)=((n:Int) - 1,-1):=by
 unfold Builtin.Slice.sliceAdjust
 simp
theorem xG (n:Nat):Builtin.Slice.slicePlaces ((n:Int) - 1) (-1) (-1)=n:=by
 unfold Builtin.Slice.slicePlaces
 have h1:¬ ((-1:Int) > 0):=by omega
 simp only [h1,if_false]
 rw [show (- -1:Int)=1 by decide,Int.ediv_one]
 split<;>omega
theorem pF (xs:Array Value):((List.range xs.size).filterMap fun (k:Nat)=>xs[(((xs.size:Int) - 1)+(k:Int) * (-1)).toNat]?).toArray=xs.toList.reverse.toArray:=by
 congr 1
 have go:∀ l:List Nat,(∀ k∈l,k < xs.size)→l.filterMap (fun (k:Nat)=>xs[(((xs.size:Int) - 1)+(k:Int) * (-1)).toNat]?)=l.map fun k=>xs.toList.reverse.getD k .none:=by
  intro l
  induction l with
  | nil=>intro _;rfl
  | cons k l ih =>
   intro h
   have hk:=h k (List.mem_cons_self ..)
   have e1:(((xs.size:Int) - 1)+(k:Int) * (-1)).toNat=xs.size - 1 - k:=by omega
   rw [List.filterMap_cons,e1,Array.getElem?_eq_getElem (by omega),List.map_cons,ih fun j hj=>h j (List.mem_cons_of_mem _ hj)]
   simp [List.getElem?_reverse,hk]
 have e:=go (List.range xs.size) fun k hk=>List.mem_range.mp hk
 rw [e]
 apply List.ext_getElem?
 intro i
 rw [List.getElem?_map]
 by_cases hi:i < xs.size
 ·rw [List.getElem?_range hi]
  have hl:i < xs.toList.reverse.length:=by simpa using hi
  rw [List.getElem?_eq_getElem hl]
  simp [hi]
 ·rw [List.getElem?_eq_none (by simpa using hi),List.getElem?_eq_none (by simpa using hi)]
  rfl
section
variable {X:Cx}
def AH (K:PySem.W.Frag) (te:TE):TE:=fun σ H Q=>te σ H fun x H1=>∃ a xs,x=.ref a∧dw K H1 a xs∧∀ l,H1 l=none→Q (.ref l) (upd H1 l (.tup xs.reverse))
theorem sW {e st:Expr} {te:TE} {p2 pos:Pos} (he:PE X e te) (f9:PE X st (tC (.int (-1)))):PE X (.Subscript e (.Slice none none (some st) p2) pos) (AH X.K te):=by
 intro pins s σ H Q I h
 refine Subscript_ (ba (he pins s σ H _ I h) fun v s1 ⟨x,H1,I1,r1,a,xs,ex,hq,q⟩=>?_)
 subst ex
 cases r1
 refine wpAny_Slice ?_
 rw [evalPart_none]
 refine wpAny_pure ?_
 refine wpAny_pure ?_
 rw [evalPart_some]
 refine ba (f9 pins s1 σ H1 (fun x H'=>x=.int (-1)∧H'=H1) I1 ⟨rfl,rfl⟩) fun u s2 ⟨x,H2,I2,r2,ex,eH⟩=>?_
 subst ex eH
 obtain ⟨t,rfl⟩:=r2
 obtain ⟨its,r,ht,hz⟩:=I2.tuple hq
 have hlen:=r.length
 have I3:Inv X pins σ H2 { s2 with heap:=s2.heap.push { cls:=.type "slice",data:=.fields #[.none,.none,.int (-1) t] } }:=I2.kept (t':=s2.toks) fun b ob q=>Heap.get?_push_of_some _ q
 have ht':IsTup (s2.heap.push { cls:=.type "slice",data:=.fields #[.none,.none,.int (-1) t] }) a its.toArray:=ht.keeps fun _ _ e=>Heap.get?_push_of_some _ e
 have hS:(s2.heap.push { cls:=.type "slice",data:=.fields #[.none,.none,.int (-1) t] }).get? s2.heap.objs.size=some { cls:=.type "slice",data:=.fields #[.none,.none,.int (-1) t] }:=Heap.get?_push_size _ rfl
 show wpAny (model X.prog X.w) X.A (subscriptTail e (.Slice none none (some st) p2) (.ref a) (.ref s2.heap.objs.size)) (EP X pins σ Q) X.xe { s2 with heap:=s2.heap.push { cls:=.type "slice",data:=.fields #[.none,.none,.int (-1) t] } }
 refine tail_any (ops:=[.ref a,.ref s2.heap.objs.size]) ht'.typeIs slot_tuple_getitem.lookup ?_ (by with_unfolding_all rfl)
 unfold getItem
 try with_reducible refine wpAny_holding ?_
 first | refine wpAny_bind (wpAny_pure ?_) | skip
 refine wpAny_bind (wpAny_sequenceKey ht'.typeIs (by decide) ?_)
 refine wpAny_bind (wpAny_callSpecial?_slot (name:=Str.ofString "__getitem__") ht'.typeIs slot_tuple_getitem (wpAny_call_entry slot_tuple_getitem ht'.typeIs entry_tuple_getitem ?_ (args_tuple_getitem _ _)))
 refine wpAny_bind (m:=Builtin.Tuple.tupleItemsOf (.ref a)) (tupleItemsOf_ ht' ?_)
 refine wpAny_bind (wpAny_typeOf (⟨_,hS,rfl⟩:Shared.TypeIs { s2 with heap:=s2.heap.push { cls:=.type "slice",data:=.fields #[.none,.none,.int (-1) t] } } (.ref s2.heap.objs.size) "slice") ?_)
 rw [if_pos (by decide)]
 refine wpAny_bind ?_
 unfold Builtin.Slice.sliceApplied Builtin.Slice.sliceFields
 refine wpAny_bind (wpAny_bind (wpAny_field hS rfl (x:=.none) rfl (wpAny_bind (wpAny_field hS rfl (x:=.none) rfl (wpAny_bind (wpAny_field hS rfl (x:=.int (-1) t) rfl (wpAny_pure ?_)))))))
 refine wpAny_bind (slicePart_int ?_)
 refine wpAny_ite_split (fun z=>absurd z (by decide)) (fun _=>?_)
 refine wpAny_bind (slicePart_none (wpAny_bind (slicePart_none (wpAny_bind (wpAny_pure ?_)))))
 refine (show wpAny _ _ (match Builtin.Slice.sliceAdjust none none (-1) ((its.toArray.size:Nat):Int) with | (lo,hi)=>pure (lo,(-1:Int),Builtin.Slice.slicePlaces lo hi (-1))) _ _ _ from ?_)
 rw [tX]
 refine wpAny_pure ?_
 rw [xG]
 refine wpAny_ite_split (fun z=>absurd z (by simp)) (fun _=>?_)
 rw [pF]
 have fin:EP X pins σ Q (.ref (s2.heap.push { cls:=.type "slice",data:=.fields #[.none,.none,.int (-1) t] }).objs.size) { s2 with heap:=(s2.heap.push { cls:=.type "slice",data:=.fields #[.none,.none,.int (-1) t] }).push { cls:=.type "tuple",data:=.seq its.toArray.toList.reverse.toArray } } :=
  ⟨.ref _,_,I3.laid (t':=s2.toks) (o:=.tup xs.reverse) (fun b ob q=>Heap.get?_push_of_some _ q) (Nat.le_refl _) ⟨by rw [List.length_reverse];exact hz,its.reverse,r.reverse,_,Heap.get?_push_size _ rfl,rfl,0,by simp⟩,rfl,q _ (I3.aH.fresh (Nat.le_refl _))⟩
 have hsz:sizeOk (.seq its.toArray.toList.reverse.toArray):=by
  show its.toArray.toList.reverse.toArray.size≤sizeLine
  simp
  omega
 first
  | exact wpAny_bind (m:=Builtin.Tuple.tupleExact _) (wpAny_newObj_type (wpAny_pure ⟨_,rfl,wpAny_pure fin⟩) hsz)
  | exact wpAny_bind (wpAny_bind (m:=Builtin.Tuple.tupleExact _) (wpAny_newObj_type (wpAny_pure (wpAny_pure ⟨_,rfl,wpAny_pure fin⟩)) hsz))
  | exact wpAny_bind (wpAny_bind (m:=Builtin.Tuple.tupleExact _) (wpAny_newObj_type (wpAny_pure ⟨_,rfl,wpAny_pure fin⟩) hsz))
end
end L2
namespace DL
open PySem PySem.Spec L2
open PyProof.Rows hiding St
section
variable {X:Cx} {c:Ent}
def Ao:D→(D→Prop)→Prop:=fun a k=>∃ ds,a=.tup ds∧k (.tup ds.reverse)
theorem xc {e st:Expr} {te:bj} {p2 pos:Pos} (he:DE X c e te) (f9:PE X st (tC (.int (-1)))):DE X c (.Subscript e (.Slice none none (some st) p2) pos) (Gh Ao te):=⟨(sW he.pe f9).imp fun σ H Q ⟨M,s,as,R,L,q,k⟩ =>
 ⟨M,s,as,_,L,q,fun d s1 ⟨ds,e,q1⟩ M1 H1 v L1 E1 rv=>by
  subst e
  obtain ⟨p,xs,rfl,t,r⟩:=rv
  exact ⟨p,xs,rfl,t.sq,fun b hb=>k _ s1 q1 _ _ _ (L1.fresh hb) (E1.trans L1.base (Ext.fresh hb)) ⟨b,_,rfl,⟨.inr rfl,ah⟩,eS hb r.reverse⟩⟩⟩⟩
end
end DL
namespace fm
open PySem L2 DL
section
variable {P:Program} {w:World} {K:PySem.W.Frag} {mg:Str→Option Value} {base:Heap}
def Gq:List D→(D→Prop)→Prop:=fun ds R=>∃ i:Int,ds=[.int i]∧R (.int i)
theorem yL {f:Addr} {fd:FuncData} (F:cq K "number_itself" "number_itself" aG f fd):aw P w K mg base bz 1 f fd ["number"] (cW K .no Gq):=by
 refine r9 (nos:=0) F fu (fun ds R h=>?_) fun bW A outer s H E M hr=>⟨_,(au (a6 (dv (pv 0)))),fun ds R h=>?_⟩
 ·obtain ⟨i,rfl,_⟩:=h
  rfl
 ·obtain ⟨i,rfl,q⟩:=h
  exact ⟨_,rfl,q⟩
def oT (x:Vl×Bool):D:=.tup [vD x.1,.bl x.2]
def wt:List (Vl×Bool)→Nat
 | []=>0
 | (v,false)::r=>v.sz+wt r
 | (_,true)::r=>1+wt r
def ms:List (Vl×Bool)→Nat
 | []=>0
 | (v,false)::r=>3 * v.sz+ms r
 | (_,true)::r=>1+ms r
section
variable (ks:List (List Key)) (vs:List D)
def rn:List (Vl×Bool)→List D→Option (List D)
 | [],ds=>some ds
 | (v,false)::r,ds=>rn r (ds++[lv ks vs v])
 | (.num _,true)::_,_=>none
 | (.h8 w n as,true)::r,ds=>if as.length≤ds.length then rn r (ds.take (ds.length - as.length)++[.tup [.str w,nu ks vs n,.tup (ds.drop (ds.length - as.length))]]) else none
end
theorem rM {ks:List (List Key)} {vs:List D} {r:List (Vl×Bool)}:∀ (as:List Vl) (ds:List D),rn ks vs (as.map (fun v=>(v,false))++r) ds=rn ks vs r (ds++nS ks vs as)
 | [],ds=>by simp [nS]
 | v::as,ds=>by
  show rn ks vs (as.map _++r) (ds++[lv ks vs v])=_
  rw [rM as,nS,List.append_assoc]
  rfl
theorem o9:∀ (as:List Vl) (r:List (Vl×Bool)),wt (as.map (fun v=>(v,false))++r)=bR as+wt r
 | [],r=>by simp [bR]
 | v::as,r=>by
  show v.sz+wt (as.map _++r)=(v.sz+bR as)+wt r
  rw [o9 as]
  omega
theorem p0:∀ (as:List Vl) (r:List (Vl×Bool)),ms (as.map (fun v=>(v,false))++r)=3 * bR as+ms r
 | [],r=>by simp [bR]
 | v::as,r=>by
  show 3 * v.sz+ms (as.map _++r)=3 * (v.sz+bR as)+ms r
  rw [p0 as]
  omega
theorem mG:∀ r:List (Vl×Bool),r.length≤wt r
 | []=>Nat.le_refl _
 | (v,false)::r=>by
  show r.length+1≤v.sz+wt r
  have:=mG r
  have:1≤v.sz:=by cases v<;>(unfold Vl.sz;omega)
  omega
 | (v,true)::r=>by
  show r.length+1≤1+wt r
  have:=mG r
  omega
theorem m8 {ks:List (List Key)} {vs:List D} (as:List Vl):(nS ks vs as).length=as.length:=by rw [jr,List.length_map]
theorem sY (as:List Vl):(yx as).length=as.length:=by rw [gd,List.length_map]
theorem uC {l:List D} {j:Nat} (h:j < l.length):∃ y,l.take (l.length - j)=l.take (l.length - j - 1)++[y]∧l.drop (l.length - j - 1)=y::l.drop (l.length - j):=by
 obtain ⟨p,hp⟩:∃ p,l.length - j=p+1:=⟨l.length - j - 1,by omega⟩
 have hi:p < l.length:=by omega
 rw [hp,Nat.add_sub_cancel]
 refine ⟨l[p],?_,List.drop_eq_getElem_cons hi⟩
 rw [List.take_succ,List.getElem?_eq_getElem hi]
 rfl
def Gm (ks:List (List Key)) (vs:List D):List D→(D→Prop)→Prop:=fun ds R=>∃ (w:Str) (n:D) (as:List D),ds=[.str w,n,.lst as]∧GN ks vs n∧as.length≤1000∧R (.tup [.str w,nu ks vs n,.tup as])
def Gj (ks:List (List Key)) (vs:List D) (fN fR:Addr):List D→(D→Prop)→Prop:=fun ds R=>∃ v:Vl,ds=[vD v,.eK fN,.eK fR]∧GV ks vs v∧v.sz≤200∧R (lv ks vs v)
theorem zo {Fc:Hp→(Addr→Prop)→Prop} {ks:List (List Key)} {vs:List D} {A7 A6:Addr} {Aw yU:FuncData} (hS:p4 Fc) (GI:aw P w K mg base bz 3 A7 Aw ["number"] (sX K Fc Gq)) (GY:PySem.W.keepIn K (.ref A7)=true) (GA:Binds K Aw ["number"] [])
  (GX:aw P w K mg base bz 3 A6 yU ["word","name","inside"] (sX K Fc (Gm ks vs))) (Hh:PySem.W.keepIn K (.ref A6)=true) (Hl:Binds K yU ["word","name","inside"] []) {f:Addr} {fd:FuncData} (F:cq K "told_of" "told_of" b9 f fd) (T:Txt K mg):aw P w K mg base bz 4 f fd ["value","of_number","of_thing"] (sX K Fc (Gj ks vs A7 A6)):=by
 refine He (nos:=2) F bZ (fun ds R h=>?_) fun bW A outer s H E M hr hFc=>⟨_,(aj (jq (k:=0) (aB (i:=3) bZ.nd rfl (Or.inr rfl) (DN.pe (iq ae))))
 (aj (jq (k:=1) (aB (i:=4) bZ.nd rfl (Or.inl rfl) (DN.pe (iq (aa (bV (aa (dv (pv 0)) (aa nZ ae))) ae)))))
 (aj (uw PassesOwn.never (uv (pv 4))
 (aj (Ag (n:=1000) (qG PySem.F.slot_list_pop PySem.F.type_list_pop jz rg (pv 4)) (vc (m:=2) rfl (jh (bD (aK (i:=5) bZ.nd rfl (Or.inl rfl)) (by decide)) (jh (bD (aK (i:=6) bZ.nd rfl (Or.inl rfl)) (by decide)) uZ))))
 (au (dk (jB (cM gf pN rfl T.A2 PyProof.Rows.boot_isinstance (aa (dv (pv 5)) (aa (dc (d:=.ty "int") (jj (v:=.ty "int") rfl T.int (by decide +kernel) rfl) rfl) ae))))
 (au (gM (p9 PySem.F.slot_list_append PySem.F.type_list_append cY mW (pv 3) (aa (mV hS hFc (hr.mono (by first | decide | omega)) (pv 1) GY GA (aa (dv (pv 5)) ae) GI) ae))))
 (au (dk (jB (dv (pv 6)))
 (aj (bT (aB (i:=7) bZ.nd rfl (Or.inl rfl) (DE.pe (DN.de (yF (DN.de (c9 (ts:=["one"]) (us:=[3]) ⟨rfl,rfl,rfl,rfl,rfl,rfl⟩ rfl (gx (cF bU cR (dv (pv 5)) av (fun _ _=>rfl))) (fun _ _ _ _=>(bD (aK (i:=0) (show List.Nodup (["one","done"]:List Str) by decide +kernel) rfl (Or.inl rfl)) (by decide))) (fun _ _ _ _=>c5)
 (fun _ _ _ _=>(qG PySem.F.slot_list_pop PySem.F.type_list_pop jz rg (pv 1))))) nA)))))
 (au (gM (p9 PySem.F.slot_list_append PySem.F.type_list_append cY mW (pv 3) (aa (mV hS hFc (hr.mono (by first | decide | omega)) (pv 2) Hh Hl (aa (cF bU cR (dv (pv 5)) av (fun _ _=>rfl)) (aa (cF bU cR (dv (pv 5)) av (fun _ _=>rfl)) (aa (dv (pv 7)) ae))) GX) ae)))))
 (aj (gM (p9 PySem.F.slot_list_append PySem.F.type_list_append cY mW (pv 4) (aa (bV (aa (dv (pv 5)) (aa nZ ae))) ae)))
 (au (gM (p9 PySem.F.slot_list_extend PySem.F.type_list_extend oQ AL (pv 4) (aa (DN.de (c9 (ts:=["one"]) (us:=[]) ⟨rfl,rfl,rfl,rfl,rfl,rfl⟩ rfl (gx (xc (cF bU cR (dv (pv 5)) av (fun _ _=>rfl)) nA)) (fun _ _ _ _=>(bD (aK (i:=0) (show List.Nodup (["one"]:List Str) by decide +kernel) rfl (Or.inl rfl)) (by decide))) (fun _ _ _ _=>c5)
 (fun _ _ _ _=>(bV (aa (dv (pv 0)) (aa nZ ae)))))) ae)))))))))))
 (au (a6 (qG PySem.F.slot_list_pop PySem.F.type_list_pop jz rg (pv 3))))))),fun ds R h=>?_⟩
 ·obtain ⟨v,rfl,_⟩:=h
  rfl
 ·obtain ⟨v,rfl,gv,hsz,q⟩:=h
  have dN:=dj
  refine ⟨⟨rfl,rfl⟩,_,rfl,⟨rfl,rfl⟩,?_⟩
  refine ⟨fun m s=>∃ (dn:List D) (st:List (Vl×Bool)) (x5 x6 x7:Sl),s=⟨[.dat (vD v),.dat (.eK A7),.dat (.eK A6),.own 0,.own 1,x5,x6,x7],[some (.lst dn),some (.lst (st.reverse.map oT))]⟩∧m=ms st∧rn ks vs st dn=some [lv ks vs v]∧dn.length+wt st≤200∧∀ it∈st,GV ks vs it.1,⟨_,[],[(v,false)],.no,.no,.no,rfl,rfl,rfl,?_,?_⟩,?_⟩
  ·show 0+(v.sz+0)≤200
   omega
  ·intro it hit
   rw [List.mem_singleton.mp hit]
   exact gv
  ·rintro m s ⟨dn,st,x5,x6,x7,rfl,rfl,e,hle,hg⟩
   refine ⟨1,_,rfl,rfl,?_⟩
   cases st with
   | nil =>
    refine fF rfl ?_
    have e:dn=[lv ks vs v]:=Option.some.inj e
    subst e
    exact ⟨0,_,rfl,rfl,rfl,_,rfl,[],_,rfl,rfl,q⟩
   | cons it r =>
    obtain ⟨u,b⟩:=it
    have hgu:GV ks vs u:=hg _ List.mem_cons_self
    have z4:∀ it∈r,GV ks vs it.1:=fun it hit=>hg it (List.mem_cons_of_mem _ hit)
    have ed:(((u,b)::r).reverse.map oT)=r.reverse.map oT++[oT (u,b)]:=by rw [List.reverse_cons,List.map_append];rfl
    have rW:=mG r
    refine oW (by rw [ed];simp) ?_
    refine ⟨1,_,rfl,rfl,rfl,_,rfl,r.reverse.map oT,oT (u,b),by rw [ed],rfl,?_⟩
    refine ⟨_,rfl,rfl,_,_,rfl,_,_,rfl,rfl,?_⟩
    cases u with
    | num i =>
     cases b with
     | true=>exact absurd e (by simp [rn])
     | false =>
      refine ⟨_,rfl,_,_,_,rfl,rfl,_,rfl,oW rfl ?_⟩
      refine ⟨0,_,rfl,rfl,rfl,rfl,_,rfl,i,rfl,_,rfl,_,_,rfl,rfl,by omega,?_⟩
      exact ⟨ms r,by show _ < 3 * 1+ms r;omega,dn++[.int i],r,_,_,x7,rfl,rfl,by rw [rn] at e;exact e,by
       have h:dn.length+(1+wt r)≤200:=hle
       rw [List.length_append]
       simp
       omega,z4⟩
    | h8 wd nm as =>
     obtain ⟨gn,ga⟩:GN ks vs nm∧yn ks vs as:=hgu
     refine ⟨_,rfl,_,_,_,rfl,rfl,_,rfl,fF rfl ?_⟩
     have hla:=wG as
     cases b with
     | true =>
      have hk:as.length≤dn.length:=by
       by_cases h:as.length≤dn.length
       ·exact h
       ·exact absurd e (by rw [rn,if_neg h];simp)
      rw [rn,if_pos hk] at e
      refine ⟨_,rfl,_,rfl,oW rfl ?_⟩
      refine ⟨_,rfl,_,_,_,rfl,rfl,rfl,_,.inr rfl,?_⟩
      refine iY (fun xs acc os=>∃ j,j+xs.length=as.length∧acc=(dn.drop (dn.length - j)).reverse∧os=[some (.lst (dn.take (dn.length - j))),some (.lst (r.reverse.map oT))]) ?_ ?_ _ [] _ ⟨0,by rw [sY];omega,by simp,by rw [Nat.sub_zero,List.take_length];rfl⟩
      ·rintro x xs acc os ⟨j,hj,rfl,rfl⟩ k hk2
       rw [List.length_cons] at hj
       obtain ⟨y,h1,h2⟩:=uC (l:=dn) (j:=j) (by omega)
       refine ⟨0,_,rfl,rfl,rfl,_,rfl,_,y,by rw [h1],rfl,?_⟩
       refine hk2 _ _ ⟨j+1,by omega,?_,rfl⟩
       rw [show dn.length - (j+1)=dn.length - j - 1 by omega,h2,List.reverse_cons]
      ·rintro acc os ⟨j,hj,rfl,rfl⟩
       have hj:j=as.length:=by simpa using hj
       subst hj
       refine ⟨_,rfl,?_⟩
       refine ⟨0,_,rfl,rfl,rfl,rfl,_,rfl,_,_,_,rfl,rfl,rfl,_,rfl,_,_,_,rfl,rfl,rfl,_,rfl,?_⟩
       refine ⟨wd,nm,_,rfl,gn,?_,_,rfl,_,_,rfl,rfl,?_,?_⟩
       ·rw [List.length_reverse,List.length_reverse,List.length_drop]
        omega
       ·rw [List.length_take]
        omega
       ·refine ⟨ms r,by show _ < 1+ms r;omega,_,r,_,_,_,rfl,rfl,?_,?_,z4⟩
        ·rw [List.reverse_reverse]
         exact e
        ·have h:dn.length+(1+wt r)≤200:=hle
         rw [List.length_append,List.length_take]
         simp
         omega
     | false =>
      have hw:dn.length+(1+bR as+wt r)≤200:=hle
      refine ⟨_,rfl,_,rfl,fF rfl ?_⟩
      refine ⟨1,_,rfl,rfl,rfl,_,rfl,_,rfl,_,_,rfl,rfl,?_,?_⟩
      ·rw [List.length_map,List.length_reverse]
       omega
      refine ⟨1,_,rfl,rfl,rfl,_,rfl,_,_,_,rfl,rfl,rfl,_,rfl,_,.inr rfl,?_⟩
      rw [gd,← List.map_reverse]
      refine bu vD (fun v=>oT (v,false)) as.reverse (fun u hu k hk=>?_) ?_
      ·exact ⟨_,rfl,hk _ rfl⟩
      ·refine ⟨_,rfl,_,_,rfl,rfl,?_,?_⟩
       ·rw [List.length_append,List.length_map,List.length_reverse,List.nil_append,List.length_map,List.length_reverse]
        simp
        omega
       ·refine ⟨ms (as.map (fun v=>(v,false))++(Vl.h8 wd nm as,true)::r),?_,dn,as.map (fun v=>(v,false))++(Vl.h8 wd nm as,true)::r,.dat (vD (.h8 wd nm as)),.dat (.bl false),x7,?_,rfl,?_,?_,?_⟩
        ·rw [p0]
         show 3 * bR as+(1+ms r) < 3 * (1+bR as)+ms r
         omega
        ·have el:(as.map (fun v=>(v,false))++(Vl.h8 wd nm as,true)::r).reverse.map oT=r.reverse.map oT++[oT (Vl.h8 wd nm as,true)]++([]++as.reverse.map (fun v=>oT (v,false))):=by
          rw [List.reverse_append,List.map_append,List.reverse_cons,List.map_append,List.nil_append,← List.map_reverse,List.map_map]
          rfl
         rw [el]
         rfl
        ·rw [rM,rn,if_pos (by rw [List.length_append,m8];omega),List.length_append,m8,Nat.add_sub_cancel,List.take_left,List.drop_left]
         rw [rn,lv] at e
         exact e
        ·rw [o9]
         show dn.length+(bR as+(1+wt r))≤200
         omega
        ·intro it hit
         rcases List.mem_append.mp hit with hit | hit
         ·obtain ⟨u,hu,rfl⟩:=List.mem_map.mp hit
          exact je ga u hu
         ·rcases List.mem_cons.mp hit with rfl | hit
          ·exact ⟨gn,ga⟩
          ·exact z4 it hit
end
end fm
namespace fm
open PySem L2 DL
section
variable {P:Program} {w:World} {K:PySem.W.Frag} {mg:Str→Option Value} {base:Heap}
abbrev aX:Stmt:=(ao aq).getD 0 (.Pass ⟨0,0,0,0⟩)
def posOf:Stmt→Pos
 | .FunctionDef _ _ _ _ _ _ _ _ _ p=>p
 | _=>⟨0,0,0,0⟩
def fh:Pos:=posOf aX
def cj:Str:=("lifted_value":Str)++".<locals>."++"renamed"
theorem mj:fU ["word","name","inside","names"] ["word","name","inside"] "names" (af aX):=⟨rfl,rfl,rfl,by decide +kernel,rfl,by decide +kernel,rfl,by decide +kernel⟩
theorem uH:aD ["names","value","renamed"] ["names","value"] (af aq):=⟨rfl,rfl,rfl,by decide +kernel,rfl,by decide +kernel,by decide +kernel⟩
theorem yN {ks:List (List Key)} {vs:List D} {vn:V} {un:Value} {co:Obj} {f c cc nP:Addr} {ie:FuncData} {doc pm ct oc:Value} {od:Option Addr} {jV:Array (Option Value)}
  (lk:K.lookup f=some ⟨oc,od,.func (PySem.W.fnX "renamed" cj (aA aX) (ao aX) (af aX) [("names",c)] .none .none doc pm none (.ref cc) ct),jV⟩) (lc:K.lookup c=some co) (fZ:co.data=.cell (some un)) (rn:RelV vn un)
  (Em:aw P w K mg base bz 1 nP ie ["names","name"] (cW K .no yh)) (p7:cq K "lifted_name" "lifted_name" aE nP ie) (uL:mg "lifted_name"=some (.ref nP)) (vp:Binds K ie ["names","name"] []) (T:Txt K mg) :
  aw P w K mg base bz 3 f (PySem.W.fnX "renamed" cj (aA aX) (ao aX) (af aX) [("names",c)] .none .none doc pm none (.ref cc) ct) ["word","name","inside"] (sX K (AX K (.dA ks vs) vn cc cj) (Gm ks vs)):=by
 refine Et lk lc fZ rn mj (fun ds R h=>?_) fun A outer s H M hr=>⟨_,(au (a6 (bV (aa (dv (pv 0)) (aa (cO (hr.mono (by first | decide | omega)) rfl uL p7.kp vp (aa (dv (pv 3)) (aa (dv (pv 1)) ae)) Em) (aa (cT bG k9 rfl T.tuple (by decide +kernel) (aa (dv (pv 2)) ae)) ae)))))),fun ds R h=>?_⟩
 ·obtain ⟨wd,n,as,rfl,_⟩:=h
  rfl
 ·obtain ⟨wd,n,as,rfl,gn,hl,q⟩:=h
  exact ⟨_,rfl,_,rfl,_,rfl,ks,vs,n,rfl,gn,_,rfl,_,.inl rfl,q⟩
theorem sE {H:Hp} {p:Addr} {o:HO} (h:H p=none):del (upd H p o) p=H:=by
 funext b
 by_cases e:b=p
 ·rw [e,gz,h]
 ·rw [jF e,ag e]
def BI:List D→(D→Prop)→Prop:=fun ds R=>∃ (ks:List (List Key)) (vs:List D) (v:Vl),ds=[.dA ks vs,vD v]∧GV ks vs v∧v.sz≤200∧R (lv ks vs v)
theorem zp {f c0 P0:Addr} {kV doc pm ct oc:Value} {an od:Option Addr} {jV:Array (Option Value)}
  (lk:K.lookup f=some ⟨oc,od,.func (PySem.W.fnOf "lifted_value" "lifted_value" (aA aq) (ao aq) (af aq) .none kV doc pm an (.ref c0) ct),jV⟩) (fZ:PySem.W.codeIn K (.ref c0) "lifted_value"=true)
  (C:PySem.W.CodeHd base c0 P0) (B:base.BuiltinsAt mg P0) (tU:mainGlobals≠P0) {wk rQ nP:Addr} {wb Aq ie:FuncData}
  (zC:cq K "told_of" "told_of" b9 wk wb) (DU:mg "told_of"=some (.ref wk)) (Ce:Binds K wb ["value","of_number","of_thing"] []) (yG:cq K "number_itself" "number_itself" aG rQ Aq) (Fi:mg "number_itself"=some (.ref rQ)) (B9:Binds K Aq ["number"] [])
  (p7:cq K "lifted_name" "lifted_name" aE nP ie) (uL:mg "lifted_name"=some (.ref nP)) (vp:Binds K ie ["names","name"] []) (T:Txt K mg) :
  aw P w K mg base bz 5 f (PySem.W.fnOf "lifted_value" "lifted_value" (aA aq) (ao aq) (af aq) .none kV doc pm an (.ref c0) ct) ["names","value"] (cW K (eI P0 fh cj) BI):=by
 refine uT (N:=["names","value","renamed"]) lk fZ uH (fun vs H Q E h=>?_) fun A outer s H vs Q E hr lr=>?_
 ·obtain ⟨M,ds,R,_,r,⟨ks,vs',v,rfl,_⟩,_⟩:=h
  rw [r.length]
  rfl
 ·obtain ⟨M,ds,R,B1,r,⟨ks,vs',v,rfl,gv,hsz,q⟩,kk⟩:=lr
  obtain ⟨vn,r1,rfl,rvn,r2⟩:=r
  obtain ⟨vv,rfl,rvv⟩:=bY r2
  refine ⟨_,aZ (vC (name:="renamed") (qual:=cj) (params:=aA aX) (body:=ao aX) (scope:=af aX) (pos:=fh) (clos:=[("names",s.heap.objs.size+1)]) (c0:=c0) (P0:=P0) (i:=2) rfl rfl rfl rfl rfl rfl C B tU uH.nd rfl rfl)
   (dg (gp (uk (k:=4) (f:=wk) (c:=s.heap.objs.size+1) (x0:="names") (i0:=0) hr rfl DU zC.kp rfl rfl rfl rfl (bJ (pv 1) (bJ (sC (v:=.ref rQ) rfl Fi rfl) (bJ (pv 2) dI)))))),?_⟩
  refine ⟨B1.fG,fun cc p oX doc' H1 st hp=>?_⟩
  refine ⟨vv,rfl,.ref p,rfl,p,_,vn,ah,rfl,fun L eV un co l1 l2 hcc rn=>?_⟩
  have T':Txt (K++L) mg:=⟨T.dict,T.enumerate,T.int,T.A2,T.len,T.list,T.max,T.range,T.rev,T.set,T.sorted,T.tuple,T.str,T.bool⟩
  have kp:PySem.W.keepIn (K++L) (.ref p)=true:=by
   unfold PySem.W.keepIn
   dsimp only
   rw [show List.lookup p (K++L)=_ from l1]
  have up:∀ {d:D} {v:V},Rep K H M d v→Rep (K++L) H1 M d v:=fun {d v} h=>Rep.any d v (Rep.mono (fun _ m=>m) (fun b o m e=>st.kp b o (B1.mo b m) e) d v h)
  refine ⟨wb,_,sX (K++L) (AX (K++L) (.dA ks vs') vn cc cj) (Gj ks vs' rQ p),zo (K:=K++L) (base:=eV) oB ((aw.zu (yL yG.app)).mono (by decide)) yG.app.kp B9.app (yN l1 l2 hcc rn (vj p7.app T') p7.app uL vp.app T') kp (.all fun us hl=>match us,hl with | [_,_,_],_=>rfl) zC.app T',Ce.app,?_⟩
  rw [sE hp]
  exact ⟨M,[vD v,.eK rQ,.eK p],R,cf.here st B1,⟨vv,_,rfl,up rvv,.ref rQ,_,rfl,rfl,.ref p,_,rfl,rfl,rfl⟩,⟨up rvn,st.cd⟩,⟨v,rfl,gv,hsz,q⟩,fun d rd M' H' u B' ru=>kk d rd M' H' u (cf.base st B1 B') (Rep.any d u ru)⟩
end
end fm
namespace fm
open PySem L2 DL
section
variable {P:Program} {w:World} {K:PySem.W.Frag} {mg:Str→Option Value} {base:Heap}
def eL (ks:List (List Key)) (vs:List D):En→D
 | .aS=>.aS
 | .lP=>.tup [.str "late"]
 | .great n=>.tup [.str "great",nu ks vs n]
 | .fault n m=>.tup [.str "fault",nu ks vs n,nu ks vs m]
 | .ua v=>.tup [.str "answer",lv ks vs v]
def GE (ks:List (List Key)) (vs:List D):En→Prop
 | .great n=>GN ks vs n
 | .fault n m=>GN ks vs n∧GN ks vs m
 | .ua v=>GV ks vs v∧v.sz≤121
 | _=>True
def Ba:List D→(D→Prop)→Prop:=fun ds R=>∃ (ks:List (List Key)) (vs:List D) (e:En),ds=[.dA ks vs,eD e]∧GE ks vs e∧R (eL ks vs e)
theorem yM {qR:Addr} {lN:FuncData} (A1:aw P w K mg base bz 1 qR lN ["_law_names","_law_name_here"] (cW K .no yh)) (uo:cq K "_law_name" "_law_name" bp qR lN) (xH:mg "_law_name"=some (.ref qR)) (v3:Binds K lN ["_law_names","_law_name_here"] []) {mr:Addr} {hV:FuncData} (AB:aw P w K mg base bz 123 mr hV ["_law_names","_law_value_here"] (cW K .no (FC 121))) (oY:cq K "_law_value" "_law_value" a7 mr hV) (rV:mg "_law_value"=some (.ref mr)) (rY:Binds K hV ["_law_names","_law_value_here"] []) {f:Addr} {fd:FuncData} (F:cq K "_law_end" "_law_end" cb f fd) (T:Txt K mg):aw P w K mg base bz 124 f fd ["_law_names","_law_end_here"] (cW K .no Ba):=by
 refine r9 (nos:=0) F lH (fun ds R h=>?_) fun bW A outer s H E M hr=>⟨_,(aj (dk (DW.dt (zb (bC pJ vo (dv (pv 1)) nE (bf _)) (wV (bC d5 jL (cF bU cR (dv (pv 1)) av (fun _ _=>rfl)) aI (bf _)))))
 (au (a6 (dv (pv 1))))
 bB)
 (aj (dk (bC d5 jL (cF bU cR (dv (pv 1)) av (fun _ _=>rfl)) aI (bf _))
 (au (a6 (bV (aa aI (aa (cO (hr.mono (by first | decide | omega)) rfl rV oY.kp rY (aa (dv (pv 0)) (aa (cF bU cR (dv (pv 1)) av (fun _ _=>rfl)) ae)) AB) ae)))))
 bB)
 (au (a6 (cL nF qX (bV (aa (cF bU cR (dv (pv 1)) av (fun _ _=>rfl)) ae)) (cT bG k9 rfl T.tuple (by decide +kernel) (aa (DN.de (c9 (ts:=["_law_name_here"]) (us:=[0]) ⟨rfl,rfl,rfl,rfl,rfl,rfl⟩ rfl (gx (ke (dv (pv 1)) (gr av) g6)) (fun _ _ _ _=>(bD (aK (i:=0) (show List.Nodup (["_law_name_here","_law_names"]:List Str) by decide +kernel) rfl (Or.inl rfl)) (by decide))) (fun _ _ _ _=>c5)
 (fun _ _ _ _=>(cO (hr.mono (by first | decide | omega)) rfl xH uo.kp v3 (aa (dv (pv 1)) (aa (dv (pv 0)) ae)) A1)))) ae))))))),fun ds R h=>?_⟩
 ·obtain ⟨ks,vs,e,rfl,_⟩:=h
  rfl
 ·obtain ⟨ks,vs,e,rfl,ge,q⟩:=h
  cases e with
  | aS=>exact ⟨_,rfl,rfl,_,rfl,oW rfl (oW rfl ⟨_,rfl,q⟩)⟩
  | lP =>
   refine ⟨_,rfl,rfl,_,rfl,fF rfl ?_⟩
   exact ⟨_,rfl,_,_,_,rfl,rfl,rfl,⟨rfl,rfl,rfl⟩,_,rfl,oW (by decide) ⟨_,rfl,q⟩⟩
  | great n =>
   refine ⟨_,rfl,rfl,_,rfl,fF rfl ?_⟩
   refine ⟨_,rfl,_,_,_,rfl,rfl,rfl,⟨rfl,rfl,rfl⟩,_,rfl,fF (by decide) ?_⟩
   refine ⟨_,rfl,_,_,_,rfl,rfl,rfl,⟨rfl,rfl,rfl⟩,_,rfl,fF (by decide) ?_⟩
   refine ⟨_,rfl,_,_,_,rfl,rfl,rfl,?_⟩
   refine ⟨_,rfl,_,rfl,_,rfl,_,.inr rfl,?_⟩
   refine bu (fun x:D=>x) (nu ks vs) [n] (fun x hx k hk=>?_) ?_
   ·refine ⟨_,rfl,_,rfl,ks,vs,x,rfl,?_,hk _ rfl⟩
    rw [List.mem_singleton.mp hx];exact ge
   ·exact ⟨_,.inl rfl,_,_,rfl,rfl,by show 2≤_;have:=dj;omega,q⟩
  | fault n m =>
   obtain ⟨g1,g2⟩:GN ks vs n∧GN ks vs m:=ge
   refine ⟨_,rfl,rfl,_,rfl,fF rfl ?_⟩
   refine ⟨_,rfl,_,_,_,rfl,rfl,rfl,⟨rfl,rfl,rfl⟩,_,rfl,fF (by decide) ?_⟩
   refine ⟨_,rfl,_,_,_,rfl,rfl,rfl,⟨rfl,rfl,rfl⟩,_,rfl,fF (by decide) ?_⟩
   refine ⟨_,rfl,_,_,_,rfl,rfl,rfl,?_⟩
   refine ⟨_,rfl,_,rfl,_,rfl,_,.inr rfl,?_⟩
   refine bu (fun x:D=>x) (nu ks vs) [n,m] (fun x hx k hk=>?_) ?_
   ·refine ⟨_,rfl,_,rfl,ks,vs,x,rfl,?_,hk _ rfl⟩
    rcases List.mem_cons.mp hx with rfl | hx
    ·exact g1
    ·rw [List.mem_singleton.mp hx];exact g2
   ·exact ⟨_,.inl rfl,_,_,rfl,rfl,by show 3≤_;have:=dj;omega,q⟩
  | ua v =>
   obtain ⟨gv,hs⟩:GV ks vs v∧v.sz≤121:=ge
   refine ⟨_,rfl,rfl,_,rfl,fF rfl ?_⟩
   refine ⟨_,rfl,_,_,_,rfl,rfl,rfl,⟨rfl,rfl,rfl⟩,_,rfl,fF (by decide) ?_⟩
   refine ⟨_,rfl,_,_,_,rfl,rfl,rfl,⟨rfl,rfl,rfl⟩,_,rfl,oW (by decide) ?_⟩
   exact ⟨_,rfl,_,rfl,_,_,_,rfl,rfl,rfl,ks,vs,v,rfl,gv,hs,by decide,q⟩
theorem Ah {P0:Addr} {rb:Addr} {mz:FuncData} (FG:aw P w K mg base bz 5 rb mz ["names","value"] (cW K (eI P0 fh cj) BI)) (xq:cq K "lifted_value" "lifted_value" aq rb mz) (yy:mg "lifted_value"=some (.ref rb)) (yt:Binds K mz ["names","value"] []) {nP:Addr} {ie:FuncData} (Em:aw P w K mg base bz 1 nP ie ["names","name"] (cW K .no yh)) (p7:cq K "lifted_name" "lifted_name" aE nP ie) (uL:mg "lifted_name"=some (.ref nP)) (vp:Binds K ie ["names","name"] []) {f:Addr} {fd:FuncData} (F:cq K "lifted_end" "lifted_end" a9 f fd) (T:Txt K mg):aw P w K mg base bz 6 f fd ["names","end"] (cW K (eI P0 fh cj) Ba):=by
 refine r9 (nos:=0) F il (fun ds R h=>?_) fun bW A outer s H E M hr=>⟨_,(aj (dk (bC pJ vo (dv (pv 1)) nE (bf _))
 (au (a6 nE))
 bB)
 (aj (dk (bC d5 jL (cF bU cR (dv (pv 1)) av (fun _ _=>rfl)) aI (bf _))
 (au (a6 (bV (aa aI (aa (aO (hr.mono (by first | decide | omega)) rfl yy xq.kp yt (aa (dv (pv 0)) (aa (cF bU cR (dv (pv 1)) av (fun _ _=>rfl)) ae)) FG) ae)))))
 bB)
 (au (a6 (cL nF qX (bV (aa (cF bU cR (dv (pv 1)) av (fun _ _=>rfl)) ae)) (cT bG k9 rfl T.tuple (by decide +kernel) (aa (DN.de (c9 (ts:=["name"]) (us:=[0]) ⟨rfl,rfl,rfl,rfl,rfl,rfl⟩ rfl (gx (ke (dv (pv 1)) (gr av) g6)) (fun _ _ _ _=>(bD (aK (i:=0) (show List.Nodup (["name","names"]:List Str) by decide +kernel) rfl (Or.inl rfl)) (by decide))) (fun _ _ _ _=>c5)
 (fun _ _ _ _=>(cO (hr.mono (by first | decide | omega)) rfl uL p7.kp vp (aa (dv (pv 1)) (aa (dv (pv 0)) ae)) Em)))) ae))))))),fun ds R h=>?_⟩
 ·obtain ⟨ks,vs,e,rfl,_⟩:=h
  rfl
 ·obtain ⟨ks,vs,e,rfl,ge,q⟩:=h
  cases e with
  | aS=>exact ⟨_,rfl,rfl,_,rfl,oW rfl q⟩
  | lP =>
   refine ⟨_,rfl,rfl,_,rfl,fF rfl ?_⟩
   refine ⟨_,rfl,_,_,_,rfl,rfl,rfl,⟨rfl,rfl,rfl⟩,_,rfl,fF (by decide) ?_⟩
   refine ⟨_,rfl,_,_,_,rfl,rfl,rfl,?_⟩
   refine ⟨_,rfl,_,rfl,_,rfl,_,.inr rfl,?_⟩
   refine bu (fun x:D=>x) (nu ks vs) [] (fun x hx k hk=>?_) ?_
   ·refine ⟨_,rfl,_,rfl,ks,vs,x,rfl,?_,hk _ rfl⟩
    exact absurd hx (by simp)
   ·exact ⟨_,.inl rfl,_,_,rfl,rfl,by show 1≤_;have:=dj;omega,q⟩
  | great n =>
   refine ⟨_,rfl,rfl,_,rfl,fF rfl ?_⟩
   refine ⟨_,rfl,_,_,_,rfl,rfl,rfl,⟨rfl,rfl,rfl⟩,_,rfl,fF (by decide) ?_⟩
   refine ⟨_,rfl,_,_,_,rfl,rfl,rfl,?_⟩
   refine ⟨_,rfl,_,rfl,_,rfl,_,.inr rfl,?_⟩
   refine bu (fun x:D=>x) (nu ks vs) [n] (fun x hx k hk=>?_) ?_
   ·refine ⟨_,rfl,_,rfl,ks,vs,x,rfl,?_,hk _ rfl⟩
    rw [List.mem_singleton.mp hx];exact ge
   ·exact ⟨_,.inl rfl,_,_,rfl,rfl,by show 2≤_;have:=dj;omega,q⟩
  | fault n m =>
   obtain ⟨g1,g2⟩:GN ks vs n∧GN ks vs m:=ge
   refine ⟨_,rfl,rfl,_,rfl,fF rfl ?_⟩
   refine ⟨_,rfl,_,_,_,rfl,rfl,rfl,⟨rfl,rfl,rfl⟩,_,rfl,fF (by decide) ?_⟩
   refine ⟨_,rfl,_,_,_,rfl,rfl,rfl,?_⟩
   refine ⟨_,rfl,_,rfl,_,rfl,_,.inr rfl,?_⟩
   refine bu (fun x:D=>x) (nu ks vs) [n,m] (fun x hx k hk=>?_) ?_
   ·refine ⟨_,rfl,_,rfl,ks,vs,x,rfl,?_,hk _ rfl⟩
    rcases List.mem_cons.mp hx with rfl | hx
    ·exact g1
    ·rw [List.mem_singleton.mp hx];exact g2
   ·exact ⟨_,.inl rfl,_,_,rfl,rfl,by show 3≤_;have:=dj;omega,q⟩
  | ua v =>
   obtain ⟨gv,hs⟩:GV ks vs v∧v.sz≤121:=ge
   refine ⟨_,rfl,rfl,_,rfl,fF rfl ?_⟩
   refine ⟨_,rfl,_,_,_,rfl,rfl,rfl,⟨rfl,rfl,rfl⟩,_,rfl,oW (by decide) ?_⟩
   exact ⟨_,rfl,_,rfl,_,_,_,rfl,rfl,rfl,ks,vs,v,rfl,gv,by omega,q⟩
end
end fm
namespace DL
open PySem PySem.Spec L2
open PyProof.Rows hiding St
def mq.and (g h:mq):mq where
 own:=fun b=>g.own b∨h.own b
 inv:=fun H=>g.inv H∧h.inv H
 loc:=fun H H' i k=>⟨g.loc H H' i.1 fun b o w e=>k b o (w.imp .inl id) e,h.loc H H' i.2 fun b o w e=>k b o (w.imp .inr id) e⟩
 qE:=fun H b i w=>w.elim (g.qE H b i.1) (h.qE H b i.2)
 nt:=fun H b xs i w=>w.elim (g.nt H b xs i.1) (h.nt H b xs i.2)
structure Sub (g' g:mq):Prop where
 own:∀ b,g'.own b→g.own b
 inv:∀ H,g.inv H→g'.inv H
 back:∀ H H',g.inv H→g'.inv H'→(∀ b o,H b=some o→¬ g'.own b→H' b=some o)→g.inv H'
section
variable {c:Ent} {M M':Addr→Prop} {H H':Hp} {g':mq}
theorem Base.sub (B:Base c M H) (S:Sub g' c.g):Base ⟨g',M,H⟩ M H:=⟨S.inv H B.fG,fun _ _ e _=>e,B.md,fun b m z=>B.mo b m (S.own b z),fun _ m=>m,fun _ m=>.inl m⟩
theorem Base.vi (B:Base c M H) (S:Sub g' c.g) (B':Base ⟨g',M,H⟩ M' H'):Base ⟨c.g,M,H⟩ M' H' where
 fG:=S.back H H' B.fG B'.fG fun b o e n=>B'.fr b o e n
 fr:=fun b o e n=>B'.fr b o e fun z=>n (S.own b z)
 md:=B'.md
 mo:=fun b m g=>by
  rcases (show M b∨Nu H b from B'.mn b m) with m | n | ⟨xs,n⟩
  ·exact B.mo b m g
  ·obtain ⟨o,e⟩:=c.g.qE H b B.fG g
   rw [n] at e
   cases e
  ·exact c.g.nt H b xs B.fG g n
 m0:=B'.m0
 mn:=B'.mn
end
section
variable {X:Cx} {c:Ent} {k:Nat} {f:Addr} {fd:FuncData} {ps:List Str} {t:List D→(D→Prop)→Prop} {x:Str} {p pos:Pos} {e:Expr} {es:List Expr} {ta:dm} {g':mq}
theorem cN (S:Sub g' c.g) (hr:bH k X.A) (hg:Gl X x) (hm:X.mg x=some (.ref f)) (hk:PySem.W.keepIn X.K (.ref f)=true) (hb:Binds X.K fd ps []) (ha:DA X c (e::es) ta) (F:aw X.prog X.w X.K X.mg X.base bz k f fd ps (cW X.K g' t))
  (jG:(x == ("__debug__":Str))=false:=by decide) (he:starEach (e::es) X.env=(false,eval e X.env)::starEach es X.env:=by rfl) (fg:(backTo pos (starEach es X.env)).any (·.1)=false:=by rfl) :
  DE X c (.Call (.Name x p) (e::es) [] pos) (gC t ta):=⟨(fV F hr hg hm hk hb .nil (E:=E0) ir ha.pa jG he fg).imp fun σ H Q ⟨M,s,as,R,L,q,kk⟩ =>
 ⟨M,s,as,_,L,q,fun ds s1 q1 M1 H1 vs L1 E1 r1 hl=>⟨M1,ds,_,L1.base.sub S,by rw [List.append_nil];exact r1,q1,fun d rd M' H' v B rv=>kk d s1 rd M' H' v (L1.after (L1.base.vi S B)) (E1.trans L1.base (Ext.after (L1.base.vi S B))) rv⟩⟩⟩
end
section
variable {d l P0:Addr} {pos:Pos} {q:Str}
theorem kH {H:Hp} {b:Addr} {o:HO} (h:(bg d l).inv H) (hb:(bg d l).own b) (e:H b=some o):(∀ ps,o≠.jf ps)∧∀ φ,o≠.ext φ:=by
 obtain ⟨a,c,ns,h1,h2,r⟩:=(show aR.At H d l from h).ex
 rcases hb with rfl | rfl
 ·rw [h1] at e;cases e;exact ⟨fun _ z=>(nomatch z),fun _ z=>(nomatch z)⟩
 ·rw [h2] at e;cases e;exact ⟨fun _ z=>(nomatch z),fun _ z=>(nomatch z)⟩
theorem qT {H:Hp} (h:kh P0 pos q H):∃ ps,H P0=some (.jf ps):=by
 rcases h with h | ⟨cc,h,_⟩
 ·exact ⟨_,h⟩
 ·exact ⟨_,h⟩
theorem cX:Sub (bg d l) ((bg d l).and (eI P0 pos q)):=⟨fun b w=>.inl w,fun H i=>i.1,fun H H' i i' k=>⟨i',(eI P0 pos q).loc H H' i.2 fun b o w e=>k b o e fun z=>by
 obtain ⟨n1,n2⟩:=kH i.1 z e
 rcases w with w | ⟨φ,w⟩
 ·have w:b=P0:=w
  obtain ⟨ps,hp⟩:=qT i.2
  rw [w,hp] at e
  cases e
  exact n1 _ rfl
 ·exact n2 φ w⟩⟩
theorem m5:Sub (eI P0 pos q) ((bg d l).and (eI P0 pos q)):=⟨fun b w=>.inr w,fun H i=>i.2,fun H H' i i' k=>⟨(bg d l).loc H H' i.1 (fun b o w e=>k b o e fun z=>by
 have z:b=P0:=z
 obtain ⟨ps,hp⟩:=qT i.2
 rw [z,hp] at e
 cases e
 rcases w with w | ⟨φ,w⟩
 ·exact (kH i.1 (z▸w) hp).1 _ rfl
 ·cases w),i'⟩⟩
theorem qA {X:Cx} {Az:List Stmt} {t:Addr→ff} (h:∀ d l M0 H0,oZ X ⟨(bg d l).and (eI P0 pos q),M0,H0⟩ Az (t d)):ic X Az (fun E σ H=>∃ d l M0 H0,tS X.K ⟨(bg d l).and (eI P0 pos q),M0,H0⟩ (t d) E σ H):=fun pins s σ H E I ⟨d,l,M0,H0,w⟩=>(h d l M0 H0).ps pins s σ H E I w
theorem sm {K:PySem.W.Frag} {H:Hp} {t:Addr→ff} {E:Ends} {σ:St} {n nos:Nat} (D1:aR.At H d l) (T1:kh P0 pos q H) (hl:σ.length=n+2) (h1:σ[1]?=some (some (.ref d)))
  (w:t d { nx:=fun _=>False,rt:=fun x=>x=.bl true } ⟨.no::.dat (.eK d)::List.replicate n .no,List.replicate nos none⟩) (k:∀ H',E.rt (.bl true) H'):∃ d l M0 H0,tS K ⟨(bg d l).and (eI P0 pos q),M0,H0⟩ (t d) E σ H:=by
 refine ⟨d,l,fun _=>False,H,fun _=>False,_,List.replicate nos 0,_,?_,w,?_⟩
 ·refine ⟨⟨⟨D1,T1⟩,fun b o e _=>e,fun b m=>m.elim,fun b m=>m.elim,fun b m=>m.elim,fun b m=>m.elim⟩,by simp [hl],by simp,fun i x e=>?_,fun i k e=>?_,fun k x a e=>?_,fun k _ x _ a e=>?_,fun k a e=>(nomatch e)⟩
  ·match i,e with
   | 0,e=>simp at e
   | 1,e =>
    simp at e
    subst e
    exact ⟨_,h1,rfl⟩
   | i+2,e =>
    obtain ⟨_,e⟩:=List.getElem?_eq_some_iff.mp e
    simp at e
  ·match i,e with
   | 0,e=>simp at e
   | 1,e=>simp at e
   | i+2,e =>
    obtain ⟨_,e⟩:=List.getElem?_eq_some_iff.mp e
    simp at e
  ·obtain ⟨_,e⟩:=List.getElem?_eq_some_iff.mp e
   simp at e
  ·obtain ⟨_,e⟩:=List.getElem?_eq_some_iff.mp e
   simp at e
 ·refine ⟨fun _ _ _ _ _ z=>z.elim,fun _ _ _ _ _ z=>z.elim,fun _ _ _ _ _ z=>z.elim,fun x M' H' v r B' rv=>?_,fun _ _ _ _ _ z=>z.elim,fun _ _ _ _ _ _ _ z=>z.elim⟩
  cases (show x=.bl true from r)
  cases (show v=.bl true from rv)
  exact k H'
def jg (P0:Addr) (pos:Pos) (q:Str) (K:PySem.W.Frag):Sp:=fun vs H Q _=>kh P0 pos q H∧∃ (a:Addr) (ns:List Int),vs=[.ref a]∧bS K H a (ns.map V.int)∧ns.length≤63∧∀ H',Q (.bl true) H'
end
end DL
namespace fm
open PySem L2 DL
section
variable {X:Cx} {c:Ent}
def y6 (K:PySem.W.Frag):R2:=fun x y H Q=>∃ M dx dy,Rep K H M dx x∧Rep K H M dy y∧nG dx=true∧nG dy=true∧(dF dx≤400∨dF dy≤400)∧Q (.bl (!Ec dx dy)) H
theorem rB (hu:X.A.units+400 < cLine):fe X (compareOp .NotEq) (y6 X.K):=by
 intro pins s σ H x y v u Q I rx ry h
 obtain ⟨M,dx,dy,r1,r2,o1,o2,hd,q⟩:=h
 obtain ⟨as,h1⟩:=gi I dx x v o1 r1 rx
 obtain ⟨bs,h2⟩:=gi I dy y u o2 r2 ry
 refine SeqAt.compareNe_reads h1 h2 (l4 dx o1) (l4 dy o2) ?_ ⟨.bl _,H,I,rfl,q⟩
 have e1:(toP dx).depth=dF dx:=rfl
 have e2:(toP dy).depth=dF dy:=rfl
 rw [e1,e2]
 omega
def DF:D→D→(D→Prop)→Prop:=fun a b k=>(nG a=true∧nG b=true∧(dF a≤400∨dF b≤400))∧k (.bl (!Ec a b))
theorem vw:jX X c (y6 X.K) DF:=fun M s as σ H x y dx dy k Q L rx ry ⟨⟨o1,o2,hd⟩,hk⟩ kk=>⟨M,dx,dy,rx,ry,o1,o2,hd,kk _ hk M H _ L .refl rfl⟩
theorem uO {A:Around} {k:Nat} (hr:bH k A) (hk:100≤k:=by decide):A.units+400 < cLine:=by have:=hr.un;omega
theorem G7 {A:Around} {k:Nat} (hr:bH k A):A.units+3 < cLine:=by have:=hr.un;omega
end
section
variable {ks:List (List Key)} {vs:List D} {ws:List Str} {ps:List (Int×Int)}
def lq (ks:List (List Key)) (vs:List D) (ps:List (Int×Int)):Prop:=∀ p∈ps,∃ y,a8 ks vs [.inl p.1,.inl p.2]=some (.str y)∧PyData.strOk y=true
theorem m9 (c:lq ks vs ps) {n:D} (h:me ws ps n):GN ks vs n:=by
 rcases h with ⟨x,_,rfl⟩ | ⟨p,hp,rfl⟩
 ·exact .inl ⟨x,rfl⟩
 ·obtain ⟨y,hy,_⟩:=c p hp
  exact .inr ⟨p.1,p.2,y,rfl,hy⟩
mutual
theorem nv (c:lq ks vs ps):∀ v:Vl,v.ok ws ps→GV ks vs v
 | .num i,_=>trivial
 | .h8 w n as,h=>by
  obtain ⟨h1,_,h2⟩:((w="asked"∧me ws ps n)∨(w="made"∧∃ x∈ws,n=.str x))∧as.length≤3∧lT ws ps as:=h
  refine ⟨?_,pU c as h2⟩
  rcases h1 with ⟨_,h1⟩ | ⟨_,x,_,rfl⟩
  ·exact m9 c h1
  ·exact .inl ⟨x,rfl⟩
theorem pU (c:lq ks vs ps):∀ as:List Vl,lT ws ps as→yn ks vs as
 | [],_=>trivial
 | v::as,h=>⟨nv c v h.1,pU c as h.2⟩
end
theorem u0 (c:lq ks vs ps) (e:En) (h:e.ok ws ps):GE ks vs e:=by
 cases e with
 | aS=>trivial
 | lP=>trivial
 | great n=>exact m9 c h
 | fault n m=>exact ⟨m9 c h.1,m9 c h.2⟩
 | ua v=>exact ⟨nv c v h.1,h.2⟩
theorem nJ (c:lq ks vs ps) (hw:∀ x∈ws,PyData.strOk x=true) {n:D} (h:me ws ps n):∃ x,nu ks vs n=.str x∧PyData.strOk x=true:=by
 rcases h with ⟨x,hx,rfl⟩ | ⟨p,hp,rfl⟩
 ·exact ⟨x,rfl,hw x hx⟩
 ·obtain ⟨y,hy,hs⟩:=c p hp
  exact ⟨y,by rw [nu,hy];rfl,hs⟩
mutual
theorem mM (c:lq ks vs ps) (hw:∀ x∈ws,PyData.strOk x=true):∀ v:Vl,v.ok ws ps→nG (lv ks vs v)=true∧dF (lv ks vs v)≤2 * v.sz
 | .num i,_=>by
  rw [lv]
  exact ⟨rfl,by rw [sL];exact Nat.zero_le _⟩
 | .h8 w n as,h=>by
  obtain ⟨h1,_,h2⟩:((w="asked"∧me ws ps n)∨(w="made"∧∃ x∈ws,n=.str x))∧as.length≤3∧lT ws ps as:=h
  obtain ⟨h3,h4⟩:=qO c hw as h2
  have hwo:PyData.strOk w=true:=by
   rcases h1 with ⟨rfl,_⟩ | ⟨rfl,_⟩<;>decide +kernel
  have hn:me ws ps n:=by
   rcases h1 with ⟨_,h1⟩ | ⟨_,x,hx,rfl⟩
   ·exact h1
   ·exact .inl ⟨x,hx,rfl⟩
  obtain ⟨x,ex,hx⟩:=nJ c hw hn
  rw [lv,ex]
  constructor
  ·show (PyData.strOk w&&(PyData.strOk x&&(ib (nS ks vs as)&&true)))=true
   rw [h3,hwo,hx]
   rfl
  ·rw [dS,aQ,aQ,aQ,dS,cz,cz,cU]
   have e4:(Vl.h8 w n as).sz=1+bR as:=rfl
   rw [e4]
   omega
theorem qO (c:lq ks vs ps) (hw:∀ x∈ws,PyData.strOk x=true):∀ as:List Vl,lT ws ps as→ib (nS ks vs as)=true∧kz (nS ks vs as)≤2 * bR as
 | [],_=>by
  rw [nS]
  exact ⟨rfl,by rw [cU];exact Nat.zero_le _⟩
 | v::as,h=>by
  obtain ⟨h1,h2⟩:=mM c hw v h.1
  obtain ⟨h3,h4⟩:=qO c hw as h.2
  rw [nS]
  constructor
  ·show (nG (lv ks vs v)&&ib (nS ks vs as))=true
   rw [h1,h3]
   rfl
  ·rw [aQ]
   show _≤2 * (v.sz+bR as)
   omega
end
theorem vA (c:lq ks vs ps) (hw:∀ x∈ws,PyData.strOk x=true) (e:En) (h:e.ok ws ps):nG (eL ks vs e)=true∧dF (eL ks vs e)≤400:=by
 cases e with
 | aS =>
  refine ⟨rfl,?_⟩
  rw [show dF (eL ks vs .aS)=0 by rw [eL];simp [dF,toP,PyData.depth]]
  decide
 | lP =>
  rw [eL]
  refine ⟨by decide +kernel,?_⟩
  rw [dS,aQ,cz,cU]
  decide
 | great n =>
  obtain ⟨x,ex,hx⟩:=nJ c hw (show me ws ps n from h)
  rw [eL,ex]
  refine ⟨?_,?_⟩
  ·show (PyData.strOk "great"&&(PyData.strOk x&&true))=true
   rw [hx]
   decide +kernel
  ·rw [dS,aQ,aQ,cz,cz,cU]
   decide
 | fault n m =>
  obtain ⟨g1,g2⟩:me ws ps n∧me ws ps m:=h
  obtain ⟨x,ex,hx⟩:=nJ c hw g1
  obtain ⟨y,ey,hy⟩:=nJ c hw g2
  rw [eL,ex,ey]
  refine ⟨?_,?_⟩
  ·show (PyData.strOk "fault"&&(PyData.strOk x&&(PyData.strOk y&&true)))=true
   rw [hx,hy]
   decide +kernel
  ·rw [dS,aQ,aQ,aQ,cz,cz,cz,cU]
   decide
 | ua v =>
  obtain ⟨hv,hs⟩:v.ok ws ps∧v.sz≤121:=h
  obtain ⟨h1,h2⟩:=mM c hw v hv
  rw [eL]
  refine ⟨?_,?_⟩
  ·show (PyData.strOk "answer"&&(nG (lv ks vs v)&&true))=true
   rw [h1]
   decide +kernel
  ·rw [dS,aQ,aQ,cz,cU]
   omega
end
end fm
namespace fm
open PySem L2 DL
def kp (p:Int×Int):List Key:=[.inl p.1,.inl p.2]
theorem kX {ks:List (List Key)} {vs:List D} {q r:List Key} {x:D} (hl:ks.length=vs.length):a8 (cp ks q) (cA ks vs q x) r=if r=q then some x else a8 ks vs r:=by
 unfold cp cA
 by_cases h:ji ks q=true
 ·rw [if_pos h,if_pos h]
  refine gQ r hl ?_
  unfold ji at h
  obtain ⟨k,hk,e⟩:=List.any_eq_true.mp h
  rw [← of_decide_eq_true e]
  exact hk
 ·rw [if_neg h,if_neg h]
  refine iB r hl fun z=>h ?_
  unfold ji
  exact List.any_eq_true.mpr ⟨q,z,decide_eq_true rfl⟩
theorem iW:∀ {ks:List (List Key)} {vs:List D} {q:List Key} {x:D},ks.length=vs.length→(fI ks vs q x).length=vs.length
 | [],[],_,_,_=>rfl
 | [],_::_,_,_,h=>by simp at h
 | _::_,[],_,_,h=>by simp at h
 | k::ks,v::vs,q,x,h=>by
  rw [fI,List.length_cons,List.length_cons,iW (by simpa using h)]
theorem jD {ks:List (List Key)} {vs:List D} {q:List Key} {x:D} (hl:ks.length=vs.length):(cp ks q).length=(cA ks vs q x).length∧(cp ks q).length≤ks.length+1:=by
 unfold cp cA
 by_cases h:ji ks q=true
 ·rw [if_pos h,if_pos h,iW hl]
  exact ⟨hl,Nat.le_succ _⟩
 ·rw [if_neg h,if_neg h]
  simp [hl]
def BC (y:Str):Prop:=PyData.strOk y=true∧y.length≤100∧PyData.strOk ("z"++Txt.slice y (some 3) none)=true∧(Txt.slice y (some 3) none).length≤100
def mw (ks:List (List Key)) (vs:List D) (ps:List (Int×Int)):Prop:=∀ p∈ps,∃ y,a8 ks vs (kp p)=some (.str y)∧BC y
theorem mw.GC {ks:List (List Key)} {vs:List D} {ps:List (Int×Int)} (h:mw ks vs ps):lq ks vs ps:=fun p hp=>by
 obtain ⟨y,h1,h2⟩:=h p hp
 exact ⟨y,h1,h2.1⟩
theorem mw.put {ks:List (List Key)} {vs:List D} {ps:List (Int×Int)} {p:Int×Int} {y:Str} (h:mw ks vs ps) (hl:ks.length=vs.length) (hy:BC y):mw (cp ks (kp p)) (cA ks vs (kp p) (.str y)) (ps++[p]):=fun q hq=>by
 rw [kX hl]
 by_cases e:kp q=kp p
 ·rw [if_pos e]
  exact ⟨y,rfl,hy⟩
 ·rw [if_neg e]
  rcases List.mem_append.mp hq with hq | hq
  ·exact h q hq
  ·rw [List.mem_singleton.mp hq] at e
   exact absurd rfl e
theorem lq.put {ks:List (List Key)} {vs:List D} {ps:List (Int×Int)} {p:Int×Int} {y:Str} (h:lq ks vs ps) (hl:ks.length=vs.length) (hy:PyData.strOk y=true):lq (cp ks (kp p)) (cA ks vs (kp p) (.str y)) (ps++[p]):=fun q hq=>by
 show ∃ z,a8 _ _ (kp q)=_∧_
 rw [kX hl]
 by_cases e:kp q=kp p
 ·rw [if_pos e]
  exact ⟨y,rfl,hy⟩
 ·rw [if_neg e]
  rcases List.mem_append.mp hq with hq | hq
  ·exact h q hq
  ·rw [List.mem_singleton.mp hq] at e
   exact absurd rfl e
theorem j1:∀ (ys:List ((Int×Int)×Str)) (m:List (List Key)×List D) (ps:List (Int×Int)),m.1.length=m.2.length→lq m.1 m.2 ps→(∀ y∈ys,PyData.strOk y.2=true) →
  lq ((ys.map fun y=>(kp y.1,D.str y.2)).foldl putD m).1 ((ys.map fun y=>(kp y.1,D.str y.2)).foldl putD m).2 (ps++ys.map (·.1))
 | [],m,ps,hl,c,_=>by simpa using c
 | y::ys,m,ps,hl,c,h=>by
  rw [List.map_cons,List.foldl_cons,List.map_cons,show ps++y.1::ys.map (·.1)=(ps++[y.1])++ys.map (·.1) by simp]
  exact j1 ys _ _ (jD hl).1 (c.put hl (h y (List.mem_cons_self ..))) fun z hz=>h z (List.mem_cons_of_mem _ hz)
theorem iO:∀ (ys:List D),(∀ y∈ys,∃ a b:Int,y=oU [a,b])→∃ fD:List (List Int),ys=fD.map oU∧(∀ ns∈fD,ns.length=2)∧fD.length=ys.length
 | [],_=>⟨[],rfl,fun _ h=>absurd h (by simp),rfl⟩
 | y::ys,h=>by
  obtain ⟨a,b,rfl⟩:=h y (List.mem_cons_self ..)
  obtain ⟨fD,rfl,h1,h2⟩:=iO ys fun z hz=>h z (List.mem_cons_of_mem _ hz)
  exact ⟨[a,b]::fD,rfl,fun ns hn=>by
   rcases List.mem_cons.mp hn with rfl | hn
   ·rfl
   ·exact h1 ns hn,by simp⟩
theorem i5:∀ (qs:List (List Int)),(∀ ns∈qs,ns.length=2)→∃ ps:List (Int×Int),qs.map oU=ps.map mI∧ps.length=qs.length
 | [],_=>⟨[],rfl,rfl⟩
 | q::qs,h=>by
  obtain ⟨ps,h1,h2⟩:=i5 qs fun ns hn=>h ns (List.mem_cons_of_mem _ hn)
  have hq:=h q (List.mem_cons_self ..)
  match q,hq with
  | [a,b],_=>exact ⟨(a,b)::ps,by rw [List.map_cons,List.map_cons,h1];rfl,by simp [h2]⟩
theorem rm {α β:Type} {R:α→β→Prop}:∀ {xs:List α} {ys:List β},Paired R xs ys→xs.length=ys.length
 | _,_,.nil=>rfl
 | _,_,.cons _ t=>by rw [List.length_cons,List.length_cons,rm t]
theorem qV:∀ {ps:List (Int×Int)} {ys:List ((Int×Int)×Str)},Paired (fun p y=>y.1=p∧PyData.strOk y.2=true) ps ys→ys.map (·.1)=ps
 | _,_,.nil=>rfl
 | _,_,.cons r t=>by rw [List.map_cons,qV t,r.1]
theorem qW:∀ {ps:List (Int×Int)} {ys:List ((Int×Int)×Str)},Paired (fun p y=>y.1=p∧PyData.strOk y.2=true) ps ys→∀ y∈ys,PyData.strOk y.2=true
 | _,_,.nil,y,h=>nomatch h
 | _,_,.cons r t,y,h=>by
  rcases List.mem_cons.mp h with rfl | h
  ·exact r.2
  ·exact qW t y h
theorem eF {i:Nat} (h:i < 8):∃ ch,jU ("abcdefgh":Str).cps.toList (i:Int)=some ch∧BC ("new"++⟨#[ch]⟩):=by
 match i,h with
 | 0,_=>exact ⟨_,rfl,by decide +kernel,by decide +kernel,by decide +kernel,by decide +kernel⟩
 | 1,_=>exact ⟨_,rfl,by decide +kernel,by decide +kernel,by decide +kernel,by decide +kernel⟩
 | 2,_=>exact ⟨_,rfl,by decide +kernel,by decide +kernel,by decide +kernel,by decide +kernel⟩
 | 3,_=>exact ⟨_,rfl,by decide +kernel,by decide +kernel,by decide +kernel,by decide +kernel⟩
 | 4,_=>exact ⟨_,rfl,by decide +kernel,by decide +kernel,by decide +kernel,by decide +kernel⟩
 | 5,_=>exact ⟨_,rfl,by decide +kernel,by decide +kernel,by decide +kernel,by decide +kernel⟩
 | 6,_=>exact ⟨_,rfl,by decide +kernel,by decide +kernel,by decide +kernel,by decide +kernel⟩
 | 7,_=>exact ⟨_,rfl,by decide +kernel,by decide +kernel,by decide +kernel,by decide +kernel⟩
end fm
namespace fm
open PySem L2 DL
section
variable {P:Program} {w:World} {K:PySem.W.Frag} {mg:Str→Option Value} {base:Heap}
theorem jm:aD ["_law_deal_here","_law_many","_law_number","_law_one","_law_other"] ["_law_deal_here","_law_many"] (af aN):=⟨rfl,rfl,rfl,by decide +kernel,rfl,by decide +kernel,by decide +kernel⟩
theorem wJ {f:Addr} {fd:FuncData} (F:cq K "_law_draw" "_law_draw" aN f fd) (T:Txt K mg):aw P w K mg base bz 1 f fd ["_law_deal_here","_law_many"] aR.mh:=by
 refine aR.t8 F jm fun bW A outer s H E hu=>?_
 exact aZ (k7 PassesOwn.never (PW.pt (pw_and (dU d5 (cw hu (pv 0) bN (fun _ _=>rfl)) aJ (bf _)) (pw_and1 (dU o8 (eQ cx rfl T.len PySem.boot_len (bJ (cw hu (pv 0) bN (fun _ _=>rfl)) dI)) aJ (bf _)))))
   (dg (fT hu (pv 0) bN (ql PySem.F.plainAttrs_list PySem.F.slot_list_pop PySem.F.type_list_pop jz (cw hu (pv 0) bN (fun _ _=>rfl))) rfl)))
  (aZ (aB (i:=2) jm.nd rfl (Or.inl rfl) (cw hu (pv 0) bN (fun _ _=>rfl)))
  (aZ (vz (dU o8 (pv 2) aJ (bf _)) (aZ (fT hu (pv 0) bN (bo gh (pv 2) (pv 1)) rfl) (dg (gp (bo cS (pv 2) (pv 1))))) nC)
  (aZ (aB (i:=3) jm.nd rfl (Or.inl rfl) (bo cS (bo c8 (bo eJ (cw hu (pv 0) bN (fun _ _=>rfl)) aJ) aJ) aJ))
  (aZ (fT hu (pv 0) bN (bo cS (bo c8 (bo eJ (pv 3) aJ) aJ) aJ) rfl)
  (aZ (aB (i:=4) jm.nd rfl (Or.inl rfl) (bo cS (bo eJ (cw hu (pv 0) bN (fun _ _=>rfl)) (cw hu (pv 0) bN (fun _ _=>rfl))) aJ))
  (dg (gp (bo cS (bo c8 (bo eJ (bo cS (bo eJ (pv 3) (pv 3)) aJ) aJ) (pv 4)) (pv 1)))))))))
theorem gW:aD ["_law_script","_law_base","_law_some","_law_number","_law_one"] ["_law_script","_law_base"] (af bQ):=⟨rfl,rfl,rfl,by decide +kernel,rfl,by decide +kernel,by decide +kernel⟩
theorem Ga:(["_law_one"]:List Str).Nodup:=by decide +kernel
theorem wW {f:Addr} {fd:FuncData} (F:cq K "_law_deal" "_law_deal" bQ f fd) (T:Txt K mg):aw P w K mg base bz 1 f fd ["_law_script","_law_base"] (aR.mH K):=by
 refine aR.tH F gW fun bW A outer s H E=>?_
 exact aZ (t7 (ts:=["_law_one"]) (us:=[]) (i:=2) gW.nd rfl rfl ⟨rfl,rfl,rfl,rfl,rfl,rfl⟩ rfl (jM (gB sf (pv 0) (jo (pv 1)) (jo aJ))) (fun _ _ _ _=>aK (i:=0) Ga rfl (Or.inl rfl)) (fun _ _ _ _=>mP)
   (fun _ _ _ _=>eQ (iZ rfl) rfl T.max PyProof.Rows.boot_max (bJ (pv 0) (bJ (bo o5 aJ (pv 0)) dI))))
  (aZ (aB (i:=3) gW.nd rfl (Or.inl rfl) (bo c8 aJ (pv 1)))
  (aZ (rP PassesOwn.never rfl (jM (pv 2)) (aK (i:=4) gW.nd rfl (Or.inl rfl)) (dg (aB (i:=3) gW.nd rfl (Or.inl rfl) (bo cS (bo c8 (bo eJ (pv 3) aJ) (bo cS (pv 4) aJ)) aJ))))
  (dg (gp (si (hU bN (pv 3) (hU bN aJ (hU bN (lV rfl rfl T.list rfl T.rev
   (nN (ts:=["_law_one"]) (us:=[]) ⟨rfl,rfl,rfl,rfl,rfl,rfl⟩ rfl (jM (pv 2)) (fun _ _ _ _=>aK (i:=0) Ga rfl (Or.inl rfl)) (fun _ _ _ _=>sD (dU yV (pv 0) (bo xX aJ aJ) (bf _))) (fun _ _ _ _=>pv 0))) um))) rfl rfl (by simp) (by decide))))))
theorem v5 {f P0:Addr} {fd:FuncData} (F:cq K "law" "law" fb f fd) (T:Txt K mg) {fL:Addr} {Dh:FuncData} (GL:aw P w K mg base bz 1 fL Dh ["_law_script","_law_base"] (aR.mH K)) (FL:cq K "_law_deal" "_law_deal" bQ fL Dh) (mL:mg "_law_deal"=some (.ref fL)) (bL:Binds K Dh ["_law_script","_law_base"] []) {gX:Addr} {c7:FuncData} (fY:∀ d l,aw P w K mg base bz 1 gX c7 ["_law_deal_here","_law_many"] (cW K (bg d l) (iU d))) (eh:cq K "_law_draw" "_law_draw" aN gX c7) (eM:mg "_law_draw"=some (.ref gX)) (eN:Binds K c7 ["_law_deal_here","_law_many"] []) {wu:Addr} {xR:FuncData} (GB:∀ d l,aw P w K mg base bz 2 wu xR ["_law_deal_here","_law_many"] (cW K (bg d l) (qL d))) (yS:cq K "_law_words" "_law_words" az wu xR) (Bs:mg "_law_words"=some (.ref wu)) (Ei:Binds K xR ["_law_deal_here","_law_many"] []) {l7:Addr} {gJ:FuncData} (Ab:∀ d l,aw P w K mg base bz 34 l7 gJ ["_law_deal_here","_law_words_here","_law_places","_law_room"] (cW K (bg d l) (Fh d 31))) (oR:cq K "_law_any_value" "_law_any_value" aC l7 gJ) (rS:mg "_law_any_value"=some (.ref l7)) (rX:Binds K gJ ["_law_deal_here","_law_words_here","_law_places","_law_room"] []) {xx:Addr} {w8:FuncData} (GW:∀ d l,aw P w K mg base bz 35 xx w8 ["_law_deal_here","_law_words_here","_law_places"] (cW K (bg d l) (Gb d))) (yD:cq K "_law_any_end" "_law_any_end" aU xx w8) (CN:mg "_law_any_end"=some (.ref xx)) (Df:Binds K w8 ["_law_deal_here","_law_words_here","_law_places"] []) {rb:Addr} {mz:FuncData} (FG:aw P w K mg base bz 5 rb mz ["names","value"] (cW K (eI P0 fh cj) BI)) (xq:cq K "lifted_value" "lifted_value" aq rb mz) (yy:mg "lifted_value"=some (.ref rb)) (yt:Binds K mz ["names","value"] []) {vG:Addr} {xD:FuncData} (GU:aw P w K mg base bz 6 vG xD ["names","end"] (cW K (eI P0 fh cj) Ba)) (AJ:cq K "lifted_end" "lifted_end" a9 vG xD) (EH:mg "lifted_end"=some (.ref vG)) (FP:Binds K xD ["names","end"] []) {mr:Addr} {hV:FuncData} (AB:aw P w K mg base bz 123 mr hV ["_law_names","_law_value_here"] (cW K .no (FC 121))) (oY:cq K "_law_value" "_law_value" a7 mr hV) (rV:mg "_law_value"=some (.ref mr)) (rY:Binds K hV ["_law_names","_law_value_here"] []) {xo:Addr} {xv:FuncData} (G3:aw P w K mg base bz 124 xo xv ["_law_names","_law_end_here"] (cW K .no Ba)) (yT:cq K "_law_end" "_law_end" cb xo xv) (BW:mg "_law_end"=some (.ref xo)) (B0:Binds K xv ["_law_names","_law_end_here"] []):aw P w K mg base bz 126 f fd ["_law_script"] (jg P0 fh cj K):=by
 refine F.ok cn (fun vs H Q E h=>?_) (fun bW A outer s H vs Q E hr h=>?_)
 ·obtain ⟨_,a,ns,rfl,_⟩:=h
  rfl
 ·obtain ⟨T0,a,ns,rfl,hS,hlen,k⟩:=h
  have hrL:bH 1 _:=hr.mono (by decide)
  refine ⟨_,(aZ (aB (i:=1) cn.nd rfl (Or.inr rfl) (fV GL hrL rfl mL FL.kp bL .nil ir (bJ (pv 0) (bJ aJ dI)))) (qA (P0:=P0) (pos:=fh) (q:=cj) fun d l M0 H0=>(aj (bT (aB (i:=2) cn.nd rfl (Or.inl rfl) (DE.pe (cN cX (hr.mono (by first | decide | omega)) rfl Bs yS.kp Ei (aa (dv (pv 1)) (aa av ae)) (GB d l)))))
 (aj (bT (aB (i:=3) cn.nd rfl (Or.inl rfl) (DE.pe (DN.de (oK (eQ (show cu _ (.builtin "sorted") (qD _) from jx rfl) rfl T.sorted (by decide +kernel) (bJ (fi (show cu _ (.type "set") (vf _) from oE rfl (G7 hr)) rfl T.set (by decide +kernel) (bJ (DE.pe (DN.de (c9 (ts:=["_law_k"]) (us:=[1]) ⟨rfl,rfl,rfl,rfl,rfl,rfl⟩ rfl (dB rfl T.range (aa (cL c8 qb av (cN cX (hr.mono (by first | decide | omega)) rfl eM eh.kp eN (aa (dv (pv 1)) (aa av ae)) (fY d l))) ae)) (fun _ _ _ _=>(bD (aK (i:=0) (show List.Nodup (["_law_k","_law_deal_here"]:List Str) by decide +kernel) rfl (Or.inl rfl)) (by decide))) (fun _ _ _ _=>c5)
 (fun _ _ _ _=>(bV (aa (cL c8 qb av (cN cX (hr.mono (by first | decide | omega)) rfl eM eh.kp eN (aa (dv (pv 1)) (aa av ae)) (fY d l))) (aa (cN cX (hr.mono (by first | decide | omega)) rfl eM eh.kp eN (aa (dv (pv 1)) (aa av ae)) (fY d l)) ae))))))) dI)) dI)))))))
 (aj (jq (k:=0) (aB (i:=4) cn.nd rfl (Or.inr rfl) (DN.pe sg)))
 (aj (mU (n:=1000) PassesOwn.never rfl (vV rfl T.enumerate (aa (dv (pv 3)) ae)) (vc (m:=2) rfl (jh (bD (aK (i:=5) cn.nd rfl (Or.inl rfl)) (by decide)) (jh (bD (aK (i:=6) cn.nd rfl (Or.inl rfl)) (by decide)) uZ)))
 (au (sO (fT (kC hr) (pv 4) (DE.pe (dv (pv 6))) (DE.pe (cL bx dD aI (cF lZ qw aI (dv (pv 5)) (fun _ _=>rfl)))) rfl))))
 (aj (bT (aB (i:=7) cn.nd rfl (Or.inl rfl) (DE.pe (DN.de (qM (kc rfl (zD hr)) nV rfl T.dict (by decide +kernel) (aa (DN.de (c9 (ts:=["_law_place"]) (us:=[4]) ⟨rfl,rfl,rfl,rfl,rfl,rfl⟩ rfl (gx (dv (pv 3))) (fun _ _ _ _=>(bD (aK (i:=0) (show List.Nodup (["_law_place","_law_names"]:List Str) by decide +kernel) rfl (Or.inl rfl)) (by decide))) (fun _ _ _ _=>c5)
 (fun _ _ _ _=>(bV (aa (dv (pv 0)) (aa (cL bx dD aI (gD (wM (cw (kC hr) (pv 1) (DE.pe (dv (pv 0))) (fun _ _=>rfl))) (gr av) g6)) ae)))))) ae))))))
 (aj (mU (n:=1000) PassesOwn.never rfl (dB rfl T.range (aa av ae)) (bD (aK (i:=8) cn.nd rfl (Or.inl rfl)) (by decide))
 (aj (bT (aB (i:=9) cn.nd rfl (Or.inl rfl) (DE.pe (cN cX (hr.mono (by first | decide | omega)) rfl rS oR.kp rX (aa (dv (pv 1)) (aa (dv (pv 2)) (aa (dv (pv 3)) (aa av ae)))) (Ab d l)))))
 (aj (bT (aB (i:=10) cn.nd rfl (Or.inl rfl) (DE.pe (cN cX (hr.mono (by first | decide | omega)) rfl CN yD.kp Df (aa (dv (pv 1)) (aa (dv (pv 2)) (aa (dv (pv 3)) ae))) (GW d l)))))
 (au (mU (n:=1000) PassesOwn.never rfl (gx (bV (aa (FZ (pv 4)) (aa (dv (pv 7)) (aa (FZ (pv 4)) ae))))) (bD (aK (i:=11) cn.nd rfl (Or.inl rfl)) (by decide))
 (aj (dk (bC (rB (uO hr)) vw (cN m5 (hr.mono (by first | decide | omega)) rfl yy xq.kp yt (aa (dv (pv 11)) (aa (dv (pv 9)) ae)) FG) (cO (hr.mono (by first | decide | omega)) rfl rV oY.kp rY (aa (dv (pv 11)) (aa (dv (pv 9)) ae)) AB) (bf _))
 (au (a6 nZ))
 bB)
 (au (dk (bC (rB (uO hr)) vw (cN m5 (hr.mono (by first | decide | omega)) rfl EH AJ.kp FP (aa (dv (pv 11)) (aa (dv (pv 10)) ae)) GU) (cO (hr.mono (by first | decide | omega)) rfl BW yT.kp B0 (aa (dv (pv 11)) (aa (dv (pv 10)) ae)) G3) (bf _))
 (au (a6 nZ))
 bB))))))))
 (au (a6 nZ)))))))))),?_⟩
  refine ⟨_,rfl,a,ns,0,rfl,hS,hlen,by decide,by decide,fun d l H1 hd hl D1 s1=>?_⟩
  have T1:kh P0 fh cj H1:=by
   rcases T0 with h | ⟨cc,h1,h2⟩
   ·exact .inl (s1 _ _ h)
   ·exact .inr ⟨cc,s1 _ _ h1,s1 _ _ h2⟩
  refine sm (n:=10) (nos:=1) D1 T1 rfl rfl ?_ k
  refine ⟨_,rfl,12,rfl,⟨by decide,by decide⟩,fun ws rW _ hwn=>?_⟩
  have hws:ws.length=12:=rW
  have hwo:∀ x∈ws,PyData.strOk x=true:=fun x hx=>(hwn x hx).ok
  have dN:=dj
  -- the places
  refine ⟨_,rfl,_,rfl,⟨by decide,by decide⟩,fun m m0 m1=>⟨_,_,rfl,rfl,?_⟩⟩
  refine ⟨_,rfl,⟨by omega,by omega⟩,?_⟩
  have hlr:(bM 0 (1+m).toNat).length=(1+m).toNat:=by simp [bM]
  refine cC (fun y=>∃ a b:Int,y=oU [a,b]) _ (fun x hx k hk=>?_) fun ys hyl hyp=>?_
  ·refine ⟨_,rfl,_,rfl,⟨by decide,by decide⟩,fun a a0 a1=>⟨_,_,rfl,rfl,?_⟩⟩
   exact ⟨_,rfl,_,rfl,⟨by decide,by decide⟩,fun b b0 b1=>hk _ _ ⟨1+a,b,rfl⟩ rfl⟩
  rw [hlr] at hyl
  obtain ⟨fD,rfl,hp2,fg⟩:=iO ys hyp
  refine ⟨fD,rfl,(fun ns hn z=>by have:=hp2 ns hn;rw [z] at this;cases this),by omega,fun qs hq hq1 hq0=>?_⟩
  obtain ⟨ps,eps,hps⟩:=i5 qs fun ns hn=>hp2 ns (hq ns hn)
  have hp0:0 < ps.length:=by rw [hps];exact hq0 (by omega)
  have hp8:ps.length≤8:=by omega
  rw [eps]
  clear eps hps hq hq1 hq0
  -- the names
  refine ⟨⟨rfl,rfl⟩,?_⟩
  refine ⟨_,rfl,_,.inl rfl,?_⟩
  refine cV (fun xs s=>∃ (i:Nat) (ks:List (List Key)) (vs:List D) (x5 x6:Sl),i≤ps.length∧xs=(en (ps.map mI)).drop i∧ks.length=vs.length∧ks.length≤i∧mw ks vs (ps.take i)∧s=⟨[.no,.dat (.eK d),.dat (.lst (ws.map .str)),.dat (.lst (ps.map mI)),.own 0,x5,x6,.no,.no,.no,.no,.no],[some (.dA ks vs)]⟩) ?_ ?_ _ _ ⟨0,[],[],.no,.no,Nat.zero_le _,rfl,rfl,Nat.le_refl _,fun p hp=>absurd hp (by simp),rfl⟩
  ·rintro s ⟨i,ks,vs,x5,x6,hi,hx,hkl,hki,hc,rfl⟩
   have rT:(en (ps.map mI)).length=ps.length:=by unfold en;simp
   have ei:i=ps.length:=by
    have:=congrArg List.length hx
    rw [List.length_nil,List.length_drop,rT] at this
    omega
   subst ei
   rw [List.take_length] at hc
   -- the other dict
   refine ⟨_,rfl,_,.inl rfl,?_⟩
   refine iR mI (fun y:(Int×Int)×Str=>.tup [mI y.1,.str y.2]) (fun p y=>y.1=p∧PyData.strOk y.2=true) ps (fun p hp k hk=>?_) fun ys hys=>?_
   ·obtain ⟨y,hy,g1,g2,g3,g4⟩:=hc p hp
    refine ⟨_,rfl,0,rfl,_,rfl,_,rfl,.inr ⟨ks,vs,_,_,rfl,rfl,rfl,_,hy,?_⟩⟩
    have hz1:("z":Str).length=1:=by decide +kernel
    exact ⟨_,rfl,y,rfl,by omega,_,_,rfl,rfl,by rw [hz1];omega,hk (p,_) _ ⟨rfl,g3⟩ rfl⟩
   ·have hyl:ys.length=ps.length:=(rm hys).symm
    have hyp:ys.map (·.1)=ps:=qV hys
    have hyo:∀ y∈ys,PyData.strOk y.2=true:=qW hys
    refine ⟨ys.map (fun y=>([D.int y.1.1,D.int y.1.2],(kp y.1,D.str y.2))),by rw [List.map_map];rfl,fun q hq=>?_,by rw [List.length_map];omega,?_⟩
    ·obtain ⟨y,_,rfl⟩:=List.mem_map.mp hq
     rfl
    have hco:=j1 ys ([],[]) [] rfl (fun p hp=>absurd hp (by simp)) hyo
    rw [List.nil_append,hyp] at hco
    rw [List.map_map,show ((fun q:List D×(List Key×D)=>q.2)∘fun y:(Int×Int)×Str=>([D.int y.1.1,D.int y.1.2],(kp y.1,D.str y.2)))=fun y=>(kp y.1,D.str y.2) from rfl]
    generalize ((ys.map fun y=>(kp y.1,D.str y.2)).foldl putD ([],[])).1=ks2 at hco ⊢
    generalize ((ys.map fun y=>(kp y.1,D.str y.2)).foldl putD ([],[])).2=vs2 at hco ⊢
    have hcn:=hc.GC
    -- four turns
    refine ⟨_,rfl,⟨by decide,by decide⟩,?_⟩
    refine cV (fun xs s=>∃ (x4 x5 x6 x8 x9 Dr oO:Sl) (os:List (Option D)),((x4=.own 0∧os=[some (.dA ks vs)])∨(x4=.dat (.dA ks vs)∧os=[none]))∧s=⟨[.no,.dat (.eK d),.dat (.lst (ws.map .str)),.dat (.lst (ps.map mI)),x4,x5,x6,.dat (.dA ks2 vs2),x8,x9,Dr,oO],os⟩) ?_ ?_ _ _ ⟨.own 0,x5,x6,.no,.no,.no,.no,_,.inl ⟨rfl,rfl⟩,rfl⟩
    ·rintro s ⟨x4,x5,x6,x8,x9,Dr,oO,os,_,rfl⟩
     rfl
    ·rintro x xs s N ⟨x4,x5,x6,x8,x9,Dr,oO,os,h4,rfl⟩ hN
     refine ⟨_,rfl,_,rfl,_,rfl,ws,ps,30,rfl,⟨by omega,by omega,hp0,by omega,by decide,by decide⟩,fun v hv hvs=>?_⟩
     refine ⟨_,rfl,_,rfl,_,rfl,ws,ps,rfl,⟨by omega,by omega,hp0,by omega⟩,fun e he=>?_⟩
     rcases h4 with ⟨rfl,rfl⟩ | ⟨rfl,rfl⟩
     ·refine .inr ⟨0,_,rfl,rfl,_,rfl,.inl ⟨_,rfl,_,.inr rfl,?_⟩⟩
      refine cV (fun xs s=>(∀ x∈xs,∃ ka va,x=.dA ka va∧lq ka va ps)∧∃ x5 x6 x8 oO:Sl,s=⟨[.no,.dat (.eK d),.dat (.lst (ws.map .str)),.dat (.lst (ps.map mI)),.dat (.dA ks vs),x5,x6,.dat (.dA ks2 vs2),x8,.dat (vD v),.dat (eD e),oO],[none]⟩) ?_ ?_ _ _ ⟨?_,_,_,_,_,rfl⟩
      ·rintro s ⟨_,x5,x6,x8,oO,rfl⟩
       exact hN _ ⟨_,x5,x6,x8,_,_,oO,_,.inr ⟨rfl,rfl⟩,rfl⟩
      ·rintro x xs s N2 ⟨hx,x5,x6,x8,oO,rfl⟩ hN2
       obtain ⟨ka,va,rfl,hc3⟩:=hx x (List.mem_cons_self ..)
       have gv:=nv hc3 v hv
       have ge:=u0 hc3 e he
       obtain ⟨o1,o2⟩:=mM hc3 hwo v hv
       obtain ⟨o3,o4⟩:=vA hc3 hwo e he
       refine ⟨_,rfl,_,rfl,ka,va,v,rfl,gv,by omega,?_⟩
       refine ⟨_,rfl,_,rfl,ka,va,v,rfl,gv,(show v.sz≤120+1 by omega),(show 120≤200 by decide),⟨o1,o1,.inl (by omega)⟩,_,rfl,fF (by rw [eT];rfl) ?_⟩
       refine ⟨_,rfl,_,rfl,ka,va,e,rfl,ge,?_⟩
       refine ⟨_,rfl,_,rfl,ka,va,e,rfl,ge,⟨o3,o3,.inl o4⟩,_,rfl,fF (by rw [eT];rfl) ?_⟩
       exact hN2 _ ⟨fun y hy=>hx y (List.mem_cons_of_mem _ hy),x5,x6,x8,_,rfl⟩
      ·intro y hy
       rcases List.mem_cons.mp hy with rfl | hy
       ·exact ⟨ks,vs,rfl,hcn⟩
       rcases List.mem_cons.mp hy with rfl | hy
       ·exact ⟨ks2,vs2,rfl,hco⟩
       rw [List.mem_singleton.mp hy]
       exact ⟨ks,vs,rfl,hcn⟩
     ·refine .inl ⟨_,rfl,_,rfl,.inl ⟨_,rfl,_,.inr rfl,?_⟩⟩
      refine cV (fun xs s=>(∀ x∈xs,∃ ka va,x=.dA ka va∧lq ka va ps)∧∃ x5 x6 x8 oO:Sl,s=⟨[.no,.dat (.eK d),.dat (.lst (ws.map .str)),.dat (.lst (ps.map mI)),.dat (.dA ks vs),x5,x6,.dat (.dA ks2 vs2),x8,.dat (vD v),.dat (eD e),oO],[none]⟩) ?_ ?_ _ _ ⟨?_,_,_,_,_,rfl⟩
      ·rintro s ⟨_,x5,x6,x8,oO,rfl⟩
       exact hN _ ⟨_,x5,x6,x8,_,_,oO,_,.inr ⟨rfl,rfl⟩,rfl⟩
      ·rintro x xs s N2 ⟨hx,x5,x6,x8,oO,rfl⟩ hN2
       obtain ⟨ka,va,rfl,hc3⟩:=hx x (List.mem_cons_self ..)
       have gv:=nv hc3 v hv
       have ge:=u0 hc3 e he
       obtain ⟨o1,o2⟩:=mM hc3 hwo v hv
       obtain ⟨o3,o4⟩:=vA hc3 hwo e he
       refine ⟨_,rfl,_,rfl,ka,va,v,rfl,gv,by omega,?_⟩
       refine ⟨_,rfl,_,rfl,ka,va,v,rfl,gv,(show v.sz≤120+1 by omega),(show 120≤200 by decide),⟨o1,o1,.inl (by omega)⟩,_,rfl,fF (by rw [eT];rfl) ?_⟩
       refine ⟨_,rfl,_,rfl,ka,va,e,rfl,ge,?_⟩
       refine ⟨_,rfl,_,rfl,ka,va,e,rfl,ge,⟨o3,o3,.inl o4⟩,_,rfl,fF (by rw [eT];rfl) ?_⟩
       exact hN2 _ ⟨fun y hy=>hx y (List.mem_cons_of_mem _ hy),x5,x6,x8,_,rfl⟩
      ·intro y hy
       rcases List.mem_cons.mp hy with rfl | hy
       ·exact ⟨ks,vs,rfl,hcn⟩
       rcases List.mem_cons.mp hy with rfl | hy
       ·exact ⟨ks2,vs2,rfl,hco⟩
       rw [List.mem_singleton.mp hy]
       exact ⟨ks,vs,rfl,hcn⟩
  ·rintro x xs s N ⟨i,ks,vs,x5,x6,hi,hx,hkl,hki,hc,rfl⟩ hN
   have hex:(en (ps.map mI))[i]?=some x:=by
    have:=congrArg (fun l=>l[0]?) hx
    simpa using this.symm
   obtain ⟨z,hz,rfl⟩:=ix hex
   rw [List.getElem?_map] at hz
   obtain ⟨p,hp,rfl⟩:=Option.map_eq_some_iff.mp hz
   have eu:i < ps.length:=(List.getElem?_eq_some_iff.mp hp).1
   obtain ⟨ch,mQ,hgd⟩:=eF (i:=i) (by omega)
   refine ⟨_,rfl,rfl,_,_,rfl,_,_,rfl,rfl,?_⟩
   refine ⟨_,rfl,_,_,_,rfl,rfl,by decide +kernel,mQ,_,_,rfl,rfl,?_,0,rfl,_,rfl,_,rfl,.inr ⟨ks,vs,_,_,rfl,rfl,rfl,by omega,?_⟩⟩
   ·have h1:("new":Str).length=3:=by decide +kernel
    have h2:(⟨#[ch]⟩:Str).length=1:=rfl
    rw [h1,h2]
    omega
   ·refine hN _ ⟨i+1,_,_,_,_,eu,?_,(jD hkl).1,?_,?_,rfl⟩
    ·have:=congrArg List.tail hx
     rw [List.tail_drop] at this
     exact this
    ·have:=(jD (x:=D.str ("new"++⟨#[ch]⟩)) (q:=kp p) hkl).2
     exact Nat.le_trans this (by omega)
    ·have h:=mw.put (p:=p) hc hkl hgd
     rw [List.take_succ,hp]
     exact h
end
end fm
namespace L2
open PySem PySem.Spec PyProof.Rows
theorem v8 {K:PySem.W.Frag} {h:Heap} {b:Addr} {ps:Array Value} (X:K.In h) (hK:PySem.W.noTabs K=true) (e:h.get? b=some (PySem.W.tabObj ps)):K.lookup b=none:=by
 cases q:K.lookup b with
 | none=>rfl
 | some o =>
  have h1:=X b o q
  rw [e] at h1
  have h2:=List.all_eq_true.mp hK (b,o) (PySem.W.mem_of_lookupK q)
  cases h1
  exact absurd (show false=true from h2) Bool.false_ne_true
theorem n8 {P:Program} {w:World} {K:PySem.W.Frag} {mg mb:Str→Option Value} {k:Nat} {fa a c0 P0:Addr} {fd:FuncData} {x:Str} {sp:Sp} {s₁:Shared} {vs:List Value} {ns:List Int} {pos:Pos} {qual:Str}
  (KX:K.In s₁.heap) (uc:s₁.heap.Ns mainGlobals mg) (hb:s₁.heap.Ns builtinsNs mb) (AS:∀ x:Str,x≠"__name__"→mb x=bootBuiltins x) (D5:s₁.heap.NoLimit) (hg:s₁.gens=#[])
  (ha:s₁.heap.get? a=some { cls:=.type "list",data:=.seq vs.toArray }) (hi:IntsAre vs ns) (hl:ns.length≤sizeLine) (hr:bH k callerA)
  (hC:PySem.W.CodeHd s₁.heap c0 P0) (hP:s₁.heap.get? P0=some (PySem.W.tabObj #[])) (hB:s₁.heap.BuiltinsAt mg P0) (wN:PySem.W.noTabs K=true)
  (F:∀ base:Heap,K.In base→base.Ns mainGlobals mg→PySem.W.CodeHd base c0 P0→base.BuiltinsAt mg P0→aw P w K mg base bz k fa fd [x] sp) (z9:∀ (s:Shared) (u:Value),BindsTo s fd ⟨[u],[]⟩ [(x,u)])
  (lr:∀ H:Hp,kh P0 pos qual H→bS K H a (ns.map V.int)→sp [.ref a] H (fun v _=>v=.bl true) fun _ _ _=>False) :
  codeAny (model P w) callerA (.call (.ref fa) ⟨[.ref a],[]⟩) (fun r s'=>r=.ok (.ret (.bool true))∧OldK s₁.heap s'.heap∧s'.os=s₁.os∧AllBare s'.gens) s₁:=by
 have rv:=ja hi
 have lenV:=hi.length
 have aP:a≠P0:=fun z=>by rw [z,hP] at ha;cases ha
 have core:∀ H:Hp,H P0=some (.jf #[])→(∀ b,b≠P0→H b=none∨(b=a∧∃ o xs,H b=some (.j4 o (.lst xs))))→bS K H a (ns.map V.int)→eU P w H s₁.heap→(H a≠none→K.lookup a=none) →
   codeAny (model P w) callerA (.call (.ref fa) ⟨[.ref a],[]⟩) (fun r s'=>r=.ok (.ret (.bool true))∧OldK s₁.heap s'.heap∧s'.os=s₁.os∧AllBare s'.gens) s₁:=by
  intro H hT hO hS aH hK
  have base_of:∀ {b:Addr} {o:Obj},s₁.heap.get? b=some o→H b=none→(eP s₁.heap H).get? b=some o:=fun e n=>la e n
  have noA:∀ {b:Addr} {o:Obj},s₁.heap.get? b=some o→o.cls≠.type "list"→b≠P0→H b=none:=fun {b o} e hc hb=>by
   rcases hO b hb with z | ⟨z,_⟩
   ·exact z
   ·subst z
    rw [ha] at e
    cases e
    exact absurd rfl hc
  have nsK:∀ {b:Addr} {m:Str→Option Value},s₁.heap.Ns b m→(eP s₁.heap H).Ns b m:=fun {b m} ⟨o,es,ep,e,d,r⟩=>by
   have hbP:b≠P0:=fun z=>by rw [z,hP] at e;cases e;cases d
   refine ⟨o,es,ep,base_of e ?_,d,r⟩
   rcases hO b hbP with z | ⟨z,_⟩
   ·exact z
   ·subst z
    rw [ha] at e
    cases e
    cases d
  have hKb:K.In (eP s₁.heap H):=fun b o e=>base_of (KX b o e) (by
   have hbP:b≠P0:=fun z=>by rw [z,v8 KX wN hP] at e;cases e
   rcases hO b hbP with z | ⟨z,o',xs,z'⟩
   ·exact z
   ·subst z
    rw [hK (by rw [z'];simp)] at e;cases e)
  have hM:Mod K mg (eP s₁.heap H):=⟨hKb,nsK uc,⟨mb,nsK hb,AS⟩,let ⟨mc,h1,h2⟩:=D5;⟨mc,nsK h1,h2⟩⟩
  have e0:lM P w K mg (eP s₁.heap H) callerA [] s₁ H:=⟨rfl,hM,fun b o e=>nk e,Nat.le_of_eq (ip _ _),trivial,fun b hb=>absurd (show b∈([]:List Addr) from hb) (by simp),aH,.of_eq hg⟩
  have hC':PySem.W.CodeHd (eP s₁.heap H) c0 P0:=by
   obtain ⟨o,us,file,tf,flags,tg,inF,text,tt,e1,r1,r2,r3,r4,r5,r6,r7,r8,nX⟩:=hC
   exact ⟨o,us,file,tf,flags,tg,inF,text,tt,base_of e1 (noA e1 (by rw [r1];decide) nX),r1,r2,r3,r4,r5,r6,r7,r8,nX⟩
  have hB':(eP s₁.heap H).BuiltinsAt mg P0:=by
   obtain ⟨bm,o,b1,b2,b3,b4,b5,b6,b7,b8⟩:=hB
   exact ⟨bm,o,b1,b2,b3,b4,base_of b5 (noA b5 (by rw [b6];decide) b4),b6,b7,b8⟩
  refine codeAny_mono ((F _ hKb (nsK uc) hC' hB').run callerA [] s₁ H ⟨[.ref a],[]⟩ [.ref a] [.ref a] _ _ hr e0 (z9 s₁ (.ref a)) (.cons rfl .nil) (lr H (.inl hT) hS)) fun r s' h=>?_
  cases r with
  | error e=>exact (show False from h).elim
  | ok fl =>
   cases fl with
   | next=>exact False.elim h
   | brk=>exact False.elim h
   | cont=>exact False.elim h
   | ret u =>
    obtain ⟨v,H',os,bare,un,hok',r',q⟩:=h
    have q':v=.bl true:=q
    subst q'
    obtain rfl:u=Value.bool true:=r'
    have keep:∀ b o,b≠P0→s₁.heap.get? b=some o→s'.heap.get? b=some o:=fun b o hb e=>by
     rcases hO b hb with z | ⟨_,ob,xs,z⟩
     ·exact un.keep b o e z (by intro z;exact absurd (show b∈([]:List Addr) from z) (by simp)) (by simp)
     ·have z2:=un.ia b ob _ z
      obtain ⟨e1,_⟩:=aH b _ z
      obtain ⟨e2,_⟩:=hok' b _ z2
      rw [e] at e1;cases e1
      exact e2
    obtain ⟨more,hm⟩:=un.hX P0 _ hT
    have hP':s'.heap.get? P0=some { cls:=.none,data:=.fields (#[]++more) }:=hok' P0 _ hm
    have tab:=(hC.tab hP).isCodeTable
    refine ⟨rfl,⟨fun b o e=>?_,fun b o e=>?_⟩,os,bare⟩
    ·by_cases hb:b=P0
     ·subst hb
      rw [hP] at e
      cases e
      exact .inr (.inl ⟨tab,rfl,#[],more,rfl,hP'⟩)
     ·exact .inl (keep b o hb e)
    ·by_cases hb:b=P0
     ·subst hb
      exact ⟨_,hP'⟩
     ·exact ⟨o,keep b o hb e⟩
 cases hk:K.lookup a with
 | some o =>
  have e:=KX a o hk
  rw [ha] at e
  cases e
  refine core (fun b=>if b=P0 then some (.jf #[]) else none) (if_pos rfl) (fun b hb=>.inl (if_neg hb)) (.inr ⟨_,vs.toArray,_,hk,rfl,rfl,rfl,by rw [List.size_toArray,lenV];exact hl,by simpa using rv⟩) (fun b u z=>?_) fun z=>absurd (if_neg aP) z
  by_cases hb:b=P0
  ·have z':=(if_pos hb).symm.trans z
   cases z'
   subst hb
   exact hP
  ·have z':=(if_neg hb).symm.trans z
   cases z'
 | none =>
  have hHa:(fun b=>if b=P0 then some (HO.jf #[]) else if b=a then some (.j4 { cls:=.type "list",data:=.seq vs.toArray } (.lst (ns.map V.int))) else none) a=some (.j4 { cls:=.type "list",data:=.seq vs.toArray } (.lst (ns.map V.int))):=by
   show (if a=P0 then _ else if a=a then _ else _)=_
   rw [if_neg aP,if_pos rfl]
  refine core (fun b=>if b=P0 then some (.jf #[]) else if b=a then some (.j4 { cls:=.type "list",data:=.seq vs.toArray } (.lst (ns.map V.int))) else none) (if_pos rfl) (fun b hb=>?_) (.inl (.inr ⟨{ cls:=.type "list",data:=.seq vs.toArray },hHa⟩)) (fun b u z=>?_) fun _=>hk
  ·by_cases hba:b=a
   ·subst hba
    exact .inr ⟨rfl,_,_,hHa⟩
   ·exact .inl (by show (if b=P0 then _ else if b=a then _ else none)=none;rw [if_neg hb,if_neg hba])
  ·by_cases hb:b=P0
   ·have z':=(if_pos hb).symm.trans z
    cases z'
    subst hb
    exact hP
   ·have z':(if b=a then some (HO.j4 { cls:=.type "list",data:=.seq vs.toArray } (.lst (ns.map V.int))) else none)=some u:=(if_neg hb).symm.trans z
    by_cases hba:b=a
    ·rw [if_pos hba] at z'
     cases z'
     subst hba
     exact ⟨ha,by rw [List.length_map];exact hl,vs,_,rv,ha⟩
    ·rw [if_neg hba] at z'
     cases z'
theorem qu {l:PySem.W.OpenLaw} {n k:Nat} {q:Program} {loose:List Str} {XP:(Str→Option Value)→Heap→Prop} {YP:World→Heap→Prop} {d:DefRec} {K:Params→PySem.W.Frag} {sp:Addr→World→Sp} {x y:Str} {pos:Pos} {qual:Str}
  (hn:l.most=some n) (Dd:n≤sizeLine) (AN:d.params.defaults=[]) (hr:bH k callerA) (jA:((recsOf q).find? fun e=>e.name == y).isSome=true) (wN:∀ w:World,PySem.W.noTabs (K w.params)=true)
  (hY:∀ (w:World) (h:Heap),YP w h→(K w.params).In h)
  (F:∀ (w:World) (mg:Str→Option Value) (fa c0 P0 fy:Addr) (oy:Obj) (pL:FuncData) (h:Heap),(K w.params).In h→h.Ns mainGlobals mg→mg d.name=some (.ref fa)→mg y=some (.ref fy)→h.get? fy=some oy→oy.data=.func pL→pL.code=.ref c0→mainGlobals≠P0 →
   ∃ fd:FuncData,(∀ (s:Shared) (u:Value),BindsTo s fd ⟨[u],[]⟩ [(x,u)]) ∧
    ∀ base:Heap,(K w.params).In base→base.Ns mainGlobals mg→PySem.W.CodeHd base c0 P0→base.BuiltinsAt mg P0→aw l.prog w (K w.params) mg base bz k fa fd [x] (sp P0 w))
  (lr:∀ (w:World) (H:Hp) (a P0:Addr) (ns:List Int),ns.length≤n→kh P0 pos qual H→bS (K w.params) H a (ns.map V.int)→sp P0 w [.ref a] H (fun v _=>v=.bl true) fun _ _ _=>False) :
  PySem.W.WalkO q loose XP YP l.row.toRowW d [] (fun f vs=>PySem.call f vs):=by
 refine Ge.lg hn AN fun w s₀ s₁ mg mb fa o pm cd doc a vs ns G Y ho hd fZ hmg hobj hints hlen hg=>?_
 have KX:=hY w _ Y
 obtain ⟨dd,hdd⟩:=Option.isSome_iff_exists.mp jA
 have hnm:dd.name=y:=beq_iff_eq.mp (List.find?_some (p:=fun e:DefRec=>e.name == y) hdd)
 obtain ⟨fy,oy,pL,c0,P0,t1,t2,t3,t4,t5,t6⟩:=G.T.tab dd (List.mem_of_find?_eq_some hdd)
 rw [hnm] at t1
 have hP:s₁.heap.get? P0=some (PySem.W.tabObj #[]):=t6.2
 have tU:mainGlobals≠P0:=fun z=>by
  obtain ⟨o,es,ep,e,hd,_⟩:=G.T.g
  rw [z,hP] at e
  cases e
  cases hd
 have hC:PySem.W.CodeHd s₁.heap c0 P0:=PySem.W.CodeHd.of t5 t6
 have hB:s₁.heap.BuiltinsAt mg P0:=by
  obtain ⟨bm,ob,b1,b2,b3,b4,b5,b6⟩:=G.T.bmain
  refine ⟨bm,ob,b1,b2,fun z=>?_,fun z=>?_,b3,b4,b5,b6⟩
  ·obtain ⟨o,es,ep,e,hd,_⟩:=G.T.g
   rw [z,e] at b3
   cases b3
   rw [hd] at b6
   cases b6
  ·rw [z,hP] at b3
   cases b3
   cases b4
 obtain ⟨fd,hb,hF⟩:=F w mg fa c0 P0 fy oy pL _ KX G.T.g hmg t1 t2 t3 t4 tU
 exact n8 KX G.T.g G.T.b G.T.builtins G.T.nolimit hg hobj hints (Nat.le_trans hlen Dd) hr hC hP hB (wN w) hF hb fun H hT hS=>lr w H a P0 ns hlen hT hS
end L2
namespace fm
open PySem PySem.Spec L2 DL PyProof.Rows
theorem all_mk {l:PySem.W.OpenLaw} {w:World} {K:PySem.W.Frag} {h:Heap} {mg:Str→Option Value} {fa c0 P0 fy wk rQ nP rb vG F3 gX wu qR mr xo p6 l7 xx Bx:Addr} {oy:Obj} {pL:FuncData} (X:K.In h) (G:h.Ns mainGlobals mg) (GG:mg "law"=some (.ref fa)) (hy:mg "lifted_value"=some (.ref fy)) (ho:h.get? fy=some oy) (hd:oy.data=.func pL) (hc:pL.code=.ref c0) (tU:mainGlobals≠P0)
  {Cy Dp Ef BN Dv C6 BO De DY CM Cq F0 ET FN FE Cb Fp FA B4 FQ C9 El FI DZ DH Bm B5 BX CC AQ:Option Addr} {Ej DB Fx Cr EI D3 Bw EF BB BV D4 ES Ek B3 EC:Array (Option Value)} {Bl Bq CL CA z5 Dk Cf Fz EE Eb AA Cp F4 B2 Ff Er Ae DV Ds B7 BG DR vN C7 Dm Dw CY F9 zU Fy B8 BD Ci EY Au Cs BL CO EK F8 zq FW Fv EN EX CG zz Eo CP D8 Fo C1 AE DK Es DC Ed C5 yJ Cm BF E4 Eu CQ zT CZ By CH FJ Fe yQ DP Fq E8 Fl Bp AR ED BR BP Cg CT zA Cc Ey zm Ay Ap xN zN:Value}
  (F7:PySem.W.nsIn K mainGlobals "told_of"=some (some (.ref wk))) (EU:K.lookup wk=some ⟨Bl,Cy,.func (PySem.W.fnOf "told_of" "told_of" (aA b9) (ao b9) (af b9) .none Bq CL CA Dp z5 Dk),Ej⟩) (D6:PySem.W.codeIn K z5 "told_of"=true) (D9:PySem.W.keepIn K (.ref wk)=true)
  (E7:PySem.W.nsIn K mainGlobals "number_itself"=some (some (.ref rQ))) (Dt:K.lookup rQ=some ⟨Cf,Ef,.func (PySem.W.fnOf "number_itself" "number_itself" (aA aG) (ao aG) (af aG) .none Fz EE Eb BN AA Cp),DB⟩) (Fj:PySem.W.codeIn K AA "number_itself"=true) (BA:PySem.W.keepIn K (.ref rQ)=true)
  (Ee:PySem.W.nsIn K mainGlobals "lifted_name"=some (some (.ref nP))) (CD:K.lookup nP=some ⟨F4,Dv,.func (PySem.W.fnOf "lifted_name" "lifted_name" (aA aE) (ao aE) (af aE) .none B2 Ff Er C6 Ae DV),Fx⟩) (Ct:PySem.W.codeIn K Ae "lifted_name"=true) (CK:PySem.W.keepIn K (.ref nP)=true)
  (Bb:PySem.W.nsIn K mainGlobals "lifted_value"=some (some (.ref rb))) (zV:K.lookup rb=some ⟨Ds,BO,.func (PySem.W.fnOf "lifted_value" "lifted_value" (aA aq) (ao aq) (af aq) .none B7 BG DR De vN C7),Cr⟩) (A0:PySem.W.codeIn K vN "lifted_value"=true) (FV:PySem.W.keepIn K (.ref rb)=true)
  (EA:PySem.W.nsIn K mainGlobals "lifted_end"=some (some (.ref vG))) (CJ:K.lookup vG=some ⟨Dm,DY,.func (PySem.W.fnOf "lifted_end" "lifted_end" (aA a9) (ao a9) (af a9) .none Dw CY F9 CM zU Fy),EI⟩) (FK:PySem.W.codeIn K zU "lifted_end"=true) (Eg:PySem.W.keepIn K (.ref vG)=true)
  (Cv:PySem.W.nsIn K mainGlobals "_law_deal"=some (some (.ref F3))) (E9:K.lookup F3=some ⟨B8,Cq,.func (PySem.W.fnOf "_law_deal" "_law_deal" (aA bQ) (ao bQ) (af bQ) .none BD Ci EY F0 Au Cs),D3⟩) (BS:PySem.W.codeIn K Au "_law_deal"=true) (EM:PySem.W.keepIn K (.ref F3)=true)
  (F1:PySem.W.nsIn K mainGlobals "_law_draw"=some (some (.ref gX))) (DD:K.lookup gX=some ⟨BL,ET,.func (PySem.W.fnOf "_law_draw" "_law_draw" (aA aN) (ao aN) (af aN) .none CO EK F8 FN zq FW),Bw⟩) (FY:PySem.W.codeIn K zq "_law_draw"=true) (B6:PySem.W.keepIn K (.ref gX)=true)
  (C2:PySem.W.nsIn K mainGlobals "_law_words"=some (some (.ref wu))) (Fb:K.lookup wu=some ⟨Fv,FE,.func (PySem.W.fnOf "_law_words" "_law_words" (aA az) (ao az) (af az) .none EN EX CG Cb zz Eo),EF⟩) (BH:PySem.W.codeIn K zz "_law_words"=true) (FU:PySem.W.keepIn K (.ref wu)=true)
  (DX:PySem.W.nsIn K mainGlobals "_law_name"=some (some (.ref qR))) (Cd:K.lookup qR=some ⟨CP,Fp,.func (PySem.W.fnOf "_law_name" "_law_name" (aA bp) (ao bp) (af bp) .none D8 Fo C1 FA AE DK),BB⟩) (CV:PySem.W.codeIn K AE "_law_name"=true) (Bo:PySem.W.keepIn K (.ref qR)=true)
  (Dz:PySem.W.nsIn K mainGlobals "_law_value"=some (some (.ref mr))) (EO:K.lookup mr=some ⟨Es,B4,.func (PySem.W.fnOf "_law_value" "_law_value" (aA a7) (ao a7) (af a7) .none DC Ed C5 FQ yJ Cm),BV⟩) (BZ:PySem.W.codeIn K yJ "_law_value"=true) (EL:PySem.W.keepIn K (.ref mr)=true)
  (Di:PySem.W.nsIn K mainGlobals "_law_end"=some (some (.ref xo))) (F2:K.lookup xo=some ⟨BF,C9,.func (PySem.W.fnOf "_law_end" "_law_end" (aA cb) (ao cb) (af cb) .none E4 Eu CQ El zT CZ),D4⟩) (Fd:PySem.W.codeIn K zT "_law_end"=true) (DM:PySem.W.keepIn K (.ref xo)=true)
  (BM:PySem.W.nsIn K mainGlobals "_law_any_name"=some (some (.ref p6))) (EW:K.lookup p6=some ⟨By,FI,.func (PySem.W.fnOf "_law_any_name" "_law_any_name" (aA aF) (ao aF) (af aF) .none CH FJ Fe DZ yQ DP),ES⟩) (Bv:PySem.W.codeIn K yQ "_law_any_name"=true) (BE:PySem.W.keepIn K (.ref p6)=true)
  (Dy:PySem.W.nsIn K mainGlobals "_law_any_value"=some (some (.ref l7))) (EV:K.lookup l7=some ⟨Fq,DH,.func (PySem.W.fnOf "_law_any_value" "_law_any_value" (aA aC) (ao aC) (af aC) .none E8 Fl Bp Bm AR ED),Ek⟩) (DJ:PySem.W.codeIn K AR "_law_any_value"=true) (Dn:PySem.W.keepIn K (.ref l7)=true)
  (Fg:PySem.W.nsIn K mainGlobals "_law_any_end"=some (some (.ref xx))) (Eh:K.lookup xx=some ⟨BR,B5,.func (PySem.W.fnOf "_law_any_end" "_law_any_end" (aA aU) (ao aU) (af aU) .none BP Cg CT BX zA Cc),B3⟩) (Dl:PySem.W.codeIn K zA "_law_any_end"=true) (C8:PySem.W.keepIn K (.ref xx)=true)
  (BU:PySem.W.nsIn K mainGlobals "law"=some (some (.ref Bx))) (CF:K.lookup Bx=some ⟨Ey,CC,.func (PySem.W.fnOf "law" "law" (aA fb) (ao fb) (af fb) .none zm Ay Ap AQ xN zN),EC⟩) (BQ:PySem.W.codeIn K xN "law"=true) (BK:PySem.W.keepIn K (.ref Bx)=true)
  (mF:PySem.W.nsIn K mainGlobals "dict"=some none)
  (dP:PySem.W.nsIn K mainGlobals "enumerate"=some none)
  (rO:PySem.W.nsIn K mainGlobals "int"=some none)
  (df:PySem.W.nsIn K mainGlobals "isinstance"=some none)
  (pj:PySem.W.nsIn K mainGlobals "len"=some none)
  (mB:PySem.W.nsIn K mainGlobals "list"=some none)
  (qF:PySem.W.nsIn K mainGlobals "max"=some none)
  (jn:PySem.W.nsIn K mainGlobals "range"=some none)
  (eG:PySem.W.nsIn K mainGlobals "reversed"=some none)
  (pf:PySem.W.nsIn K mainGlobals "set"=some none)
  (gG:PySem.W.nsIn K mainGlobals "sorted"=some none)
  (jE:PySem.W.nsIn K mainGlobals "tuple"=some none)
  (o7:PySem.W.nsIn K mainGlobals "str"=some none)
  (l5:PySem.W.nsIn K mainGlobals "bool"=some none) :
  ∃ fd:FuncData,(∀ (s:Shared) (v:Value),BindsTo s fd ⟨[v],[]⟩ [("_law_script",v)])∧∀ base:Heap,K.In base→base.Ns mainGlobals mg→PySem.W.CodeHd base c0 P0→base.BuiltinsAt mg P0→aw l.prog w K mg base bz 126 fa fd ["_law_script"] (jg P0 fh cj K):=by
 have e:=GG.symm.trans (PySem.W.mg_of X G BU)
 cases e
 have e:=hy.symm.trans (PySem.W.mg_of X G Bb)
 cases e
 have e:=ho.symm.trans (X _ _ zV)
 cases e
 cases hd
 have e:vN=.ref c0:=hc
 subst e
 have T:Txt K mg:=⟨PySem.W.mg_none_of X G mF,PySem.W.mg_none_of X G dP,PySem.W.mg_none_of X G rO,PySem.W.mg_none_of X G df,PySem.W.mg_none_of X G pj,PySem.W.mg_none_of X G mB,PySem.W.mg_none_of X G qF,PySem.W.mg_none_of X G jn,PySem.W.mg_none_of X G eG,PySem.W.mg_none_of X G pf,PySem.W.mg_none_of X G gG,PySem.W.mg_none_of X G jE,PySem.W.mg_none_of X G o7,PySem.W.mg_none_of X G l5⟩
 have zC:=bO (st:=b9) EU D6 D9
 have Ce:=zC.binds (ps:=["value","of_number","of_thing"]) fun _ _ _ _ _ _ us hl=>match us,hl with | [_,_,_],_=>rfl
 have DU:=PySem.W.mg_of X G F7
 have yG:=bO (st:=aG) Dt Fj BA
 have B9:=yG.binds (ps:=["number"]) fun _ _ _ _ _ _ us hl=>match us,hl with | [_],_=>rfl
 have Fi:=PySem.W.mg_of X G E7
 have p7:=bO (st:=aE) CD Ct CK
 have vp:=p7.binds (ps:=["names","name"]) fun _ _ _ _ _ _ us hl=>match us,hl with | [_,_],_=>rfl
 have uL:=PySem.W.mg_of X G Ee
 have xq:=bO (st:=aq) zV A0 FV
 have yt:=xq.binds (ps:=["names","value"]) fun _ _ _ _ _ _ us hl=>match us,hl with | [_,_],_=>rfl
 have yy:=PySem.W.mg_of X G Bb
 have AJ:=bO (st:=a9) CJ FK Eg
 have FP:=AJ.binds (ps:=["names","end"]) fun _ _ _ _ _ _ us hl=>match us,hl with | [_,_],_=>rfl
 have EH:=PySem.W.mg_of X G EA
 have FDe:=bO (st:=bQ) E9 BS EM
 have bDe:=FDe.binds (ps:=["_law_script","_law_base"]) fun _ _ _ _ _ _ us hl=>match us,hl with | [_,_],_=>rfl
 have mDe:=PySem.W.mg_of X G Cv
 have eh:=bO (st:=aN) DD FY B6
 have eN:=eh.binds (ps:=["_law_deal_here","_law_many"]) fun _ _ _ _ _ _ us hl=>match us,hl with | [_,_],_=>rfl
 have eM:=PySem.W.mg_of X G F1
 have yS:=bO (st:=az) Fb BH FU
 have Ei:=yS.binds (ps:=["_law_deal_here","_law_many"]) fun _ _ _ _ _ _ us hl=>match us,hl with | [_,_],_=>rfl
 have Bs:=PySem.W.mg_of X G C2
 have uo:=bO (st:=bp) Cd CV Bo
 have v3:=uo.binds (ps:=["_law_names","_law_name_here"]) fun _ _ _ _ _ _ us hl=>match us,hl with | [_,_],_=>rfl
 have xH:=PySem.W.mg_of X G DX
 have oY:=bO (st:=a7) EO BZ EL
 have rY:=oY.binds (ps:=["_law_names","_law_value_here"]) fun _ _ _ _ _ _ us hl=>match us,hl with | [_,_],_=>rfl
 have rV:=PySem.W.mg_of X G Dz
 have yT:=bO (st:=cb) F2 Fd DM
 have B0:=yT.binds (ps:=["_law_names","_law_end_here"]) fun _ _ _ _ _ _ us hl=>match us,hl with | [_,_],_=>rfl
 have BW:=PySem.W.mg_of X G Di
 have rJ:=bO (st:=aF) EW Bv BE
 have tj:=rJ.binds (ps:=["_law_deal_here","_law_words_here","_law_places"]) fun _ _ _ _ _ _ us hl=>match us,hl with | [_,_,_],_=>rfl
 have tY:=PySem.W.mg_of X G BM
 have oR:=bO (st:=aC) EV DJ Dn
 have rX:=oR.binds (ps:=["_law_deal_here","_law_words_here","_law_places","_law_room"]) fun _ _ _ _ _ _ us hl=>match us,hl with | [_,_,_,_],_=>rfl
 have rS:=PySem.W.mg_of X G Dy
 have yD:=bO (st:=aU) Eh Dl C8
 have Df:=yD.binds (ps:=["_law_deal_here","_law_words_here","_law_places"]) fun _ _ _ _ _ _ us hl=>match us,hl with | [_,_,_],_=>rfl
 have CN:=PySem.W.mg_of X G Fg
 have FLa:=bO (st:=fb) CF BQ BK
 refine ⟨PySem.W.fnOf "law" "law" (aA fb) (ao fb) (af fb) .none zm Ay Ap AQ xN zN,fun s v=>.of_eq rfl,fun base _ _ C B=>?_⟩
 have gDr:=fun d l'=>sv (d:=d) (l:=l') (wJ (P:=l.prog) (w:=w) (base:=base) eh T)
 have gWo:=fun d l'=>qP (gDr d l') eh eM eN yS T
 have gAN:=fun d l'=>yE (gDr d l') eh eM eN rJ T
 have gAV:=fun d l'=>vd (gDr d l') eh eM eN (gAN d l') rJ tY tj oR rS rX T 31
 have gAE:=fun d l'=>zP (gDr d l') eh eM eN (gAN d l') rJ tY tj (gAV d l') oR rS rX yD T
 have gLN:=zl (P:=l.prog) (w:=w) (base:=base) uo T
 have gLF:=vj (P:=l.prog) (w:=w) (base:=base) p7 T
 have gLV:=vt gLN uo xH v3 oY rV rY T 121
 have gLE:=yM gLN uo xH v3 gLV oY rV rY yT T
 have gVL:=zp (P:=l.prog) (w:=w) zV A0 C B tU zC DU Ce yG Fi B9 p7 uL vp T
 have gEL:=Ah gVL xq yy yt gLF p7 uL vp AJ T
 exact v5 FLa T (wW FDe T) FDe mDe bDe gDr eh eM eN gWo yS Bs Ei gAV oR rS rX gAE yD CN Df gVL xq yy yt gEL AJ EH FP gLV oY rV rY gLE yT BW B0
theorem walk {l:PySem.W.OpenLaw} {q:Program} {loose:List Str} {XP:(Str→Option Value)→Heap→Prop} {YP:World→Heap→Prop} {d:DefRec} {K:Params→PySem.W.Frag} (hn:l.most=some 63) (AN:d.params.defaults=[])
  (jA:((recsOf q).find? fun e=>e.name == ("lifted_value":Str)).isSome=true) (wN:∀ w:World,PySem.W.noTabs (K w.params)=true) (hY:∀ (w:World) (h:Heap),YP w h→(K w.params).In h)
  (F:∀ (w:World) (mg:Str→Option Value) (fa c0 P0 fy:Addr) (oy:Obj) (pL:FuncData) (h:Heap),(K w.params).In h→h.Ns mainGlobals mg→mg d.name=some (.ref fa)→mg "lifted_value"=some (.ref fy)→h.get? fy=some oy→oy.data=.func pL→pL.code=.ref c0→mainGlobals≠P0 →
   ∃ fd:FuncData,(∀ (s:Shared) (u:Value),BindsTo s fd ⟨[u],[]⟩ [("_law_script",u)]) ∧
    ∀ base:Heap,(K w.params).In base→base.Ns mainGlobals mg→PySem.W.CodeHd base c0 P0→base.BuiltinsAt mg P0→aw l.prog w (K w.params) mg base bz 126 fa fd ["_law_script"] (jg P0 fh cj (K w.params))) :
  PySem.W.WalkO q loose XP YP l.row.toRowW d [] (fun f vs=>PySem.call f vs) :=
 L2.qu (n:=63) (k:=126) (x:="_law_script") (y:="lifted_value") (pos:=fh) (qual:=cj) (sp:=fun P0 w=>jg P0 fh cj (K w.params)) hn (by decide) AN ⟨rfl,by decide,by decide⟩ jA wN hY F fun _ _ a _ ns hl hT hS=>⟨hT,a,ns,rfl,hS,hl,fun _=>rfl⟩
end fm
def PySem.W.Fast.tw2200972869213108720 : Unit := ()
def PySem.W.Fast.tw16549586583990057175 : Unit := ()
def PySem.W.Fast.tw5833253748333891221 : Unit := ()
def PySem.W.Fast.tw1244693400583467737 : Unit := ()
def PySem.W.Fast.tw18381762723803003003 : Unit := ()
def PySem.W.Fast.tw7355521828154546660 : Unit := ()
def PySem.W.Fast.tw10700725106266789121 : Unit := ()
def PySem.W.Fast.tw17280419150290801740 : Unit := ()
def PySem.W.Fast.tw12192243294389464556 : Unit := ()
def PySem.W.Fast.tw3010893894615229535 : Unit := ()
def PySem.W.Fast.tw7028433396683934818 : Unit := ()
def PySem.W.Fast.tw3043889763671169711 : Unit := ()
def PySem.W.Fast.tw4943054969214094957 : Unit := ()
def PySem.W.Fast.tw6229932056964733480 : Unit := ()
def PySem.W.Fast.tw7285502074373769432 : Unit := ()
def PySem.W.Fast.tw1028016671891536324 : Unit := ()
def PySem.W.Fast.tw1703839391992114530 : Unit := ()
def PySem.W.Fast.tw12034078448482384388 : Unit := ()
def PySem.W.Fast.tw1770974448030456101 : Unit := ()
def PySem.W.Fast.tw9842611224653185652 : Unit := ()
def PySem.W.Fast.tw6011325331616256228 : Unit := ()
def PySem.W.Fast.tw5139118891704390488 : Unit := ()
def PySem.W.Fast.tw5469854223156527021 : Unit := ()
def PySem.W.Fast.tw16734055547579751084 : Unit := ()
def PySem.W.Fast.tw7523528482647114880 : Unit := ()
def PySem.W.Fast.tw8653874697889909316 : Unit := ()
def PySem.W.Fast.tw5725838909835993052 : Unit := ()
def PySem.W.Fast.tw14670835286020263281 : Unit := ()
def PySem.W.Fast.tw14915760948946720649 : Unit := ()
def PySem.W.Fast.tw1776427120541282661 : Unit := ()
def PySem.W.Fast.tw1440603907812599539 : Unit := ()
def PySem.W.Fast.tw10868570298610624125 : Unit := ()
def PySem.W.Fast.tw11192382744543055101 : Unit := ()
def PySem.W.Fast.tw10083843182268704940 : Unit := ()
def PySem.W.Fast.tw4643324000760429875 : Unit := ()
def PySem.W.Fast.tw17701801627922601563 : Unit := ()
def PySem.W.Fast.tw14846664010461879558 : Unit := ()
def PySem.W.Fast.tw2891921588174635620 : Unit := ()
def PySem.W.Fast.tw6392657484330060898 : Unit := ()
def PySem.W.Fast.tw1473118417900120627 : Unit := ()
def PySem.W.Fast.tw5672500310294619040 : Unit := ()
def PySem.W.Fast.tw7997769493744786096 : Unit := ()
def PySem.W.Fast.tw9238098157249190387 : Unit := ()
def PySem.W.Fast.tw9441551293526494870 : Unit := ()
def PySem.W.Fast.tw11062960531135861504 : Unit := ()
def PySem.W.Fast.tw5844619591098182899 : Unit := ()
def PySem.W.Fast.tw2627903942456294286 : Unit := ()
def PySem.W.Fast.tw7197188716258387154 : Unit := ()
def PySem.W.Fast.tw14208468761330288357 : Unit := ()
def PySem.W.Fast.tw4934863231308816925 : Unit := ()
def PySem.W.Fast.tw15885999821837141932 : Unit := ()
def PySem.W.Fast.tw13333816196970307847 : Unit := ()
def PySem.W.Fast.tw732352900708314708 : Unit := ()
def PySem.W.Fast.tw14283112678111009417 : Unit := ()
def PySem.W.Fast.tw2304749213172353651 : Unit := ()
def PySem.W.Fast.tw15977573961587578343 : Unit := ()
def PySem.W.Fast.tw7874621699817859917 : Unit := ()
def PySem.W.Fast.tw12554939467199178456 : Unit := ()
def PySem.W.Fast.tw2877847724735437123 : Unit := ()
def PySem.W.Fast.tw6005985892389507703 : Unit := ()
def PySem.W.Fast.tw6424280067531914376 : Unit := ()
def PySem.W.Fast.tw9134583575566265174 : Unit := ()
def PySem.W.Fast.tw16156806403474426258 : Unit := ()
def PySem.W.Fast.tw17464137787710189809 : Unit := ()
def PySem.W.Fast.tw516818511601484784 : Unit := ()
def PySem.W.Fast.tw5935291339144889914 : Unit := ()
def PySem.W.Fast.tw8568963183533823344 : Unit := ()
def PySem.W.Fast.tw10080845090314492930 : Unit := ()
def PySem.W.Fast.tw13557682242313443446 : Unit := ()
def PySem.W.Fast.tw16264053845215576551 : Unit := ()
def PySem.W.Fast.tw439615790702673571 : Unit := ()
def PySem.W.Fast.tw9106808394081191463 : Unit := ()
def PySem.W.Fast.tw9393866249391626574 : Unit := ()
def PySem.W.Fast.tw18094311535588315932 : Unit := ()
def PySem.W.Fast.tw1620866203464256867 : Unit := ()
def PySem.W.Fast.tw10245809681941740718 : Unit := ()
def PySem.W.Fast.tw11365378660364179960 : Unit := ()
def PySem.W.Fast.tw9752739057592540478 : Unit := ()
def PySem.W.Fast.tw13363565028036977581 : Unit := ()
def PySem.W.Fast.tw17565802754360247949 : Unit := ()
def PySem.W.Fast.tw16291001101888696086 : Unit := ()
def PySem.W.Fast.tw13679436027367164960 : Unit := ()
def PySem.W.Fast.tw11138529413986761269 : Unit := ()
def PySem.W.Fast.tw9149134636454100717 : Unit := ()
def PySem.W.Fast.tw11980463759504217482 : Unit := ()
def PySem.W.Fast.tw583887189047652416 : Unit := ()
def PySem.W.Fast.tw13329645216988050107 : Unit := ()
def PySem.W.Fast.tw16471909671701382348 : Unit := ()
def PySem.W.Fast.tw13166178227228563820 : Unit := ()
def PySem.W.Fast.tw3899070724166816933 : Unit := ()
def PySem.W.Fast.tw14854529267633463741 : Unit := ()
open PySem PySem.W PyProof.Rows
set_option maxRecDepth 100000 in
set_option maxHeartbeats 0 in
theorem PySem.Challenge.cw_sideturn_k31_values_read_by_names_holds : PySem.Challenge.rw_sideturn_k31_values_read_by_names.Holds := by
 w_on;o_law;k_head;(case hw=>w_witness2)
 k_fill
 refine fm.walk (l:=PySem.Challenge.rw_sideturn_k31_values_read_by_names) rfl rfl ?jA ?wN (fun w h Y=>PySem.W.km_in_of Y) ?F
 case jA=>kernel_rfl
 case wN =>
  intro w
  kernel_rfl
 case F =>
  intro w mg fa c0 P0 fy oy pL h KX G hmg hy ho hd hc tU
  refine' fm.all_mk KX G hmg hy ho hd hc tU ?F7 ?EU ?D6 ?D9 ?E7 ?Dt ?Fj ?BA ?Ee ?CD ?Ct ?CK ?Bb ?zV ?A0 ?FV ?EA ?CJ ?FK ?Eg ?Cv ?E9 ?BS ?EM ?F1 ?DD ?FY ?B6 ?C2 ?Fb ?BH ?FU ?DX ?Cd ?CV ?Bo ?Dz ?EO ?BZ ?EL ?Di ?F2 ?Fd ?DM ?BM ?EW ?Bv ?BE ?Dy ?EV ?DJ ?Dn ?Fg ?Eh ?Dl ?C8 ?BU ?CF ?BQ ?BK ?mF ?dP ?rO ?df ?pj ?mB ?qF ?jn ?eG ?pf ?gG ?jE ?o7 ?l5
  (case F7=>k_is)
  (case EU=>k_is)
  (case D6=>k_is)
  (case D9=>k_is)
  (case E7=>k_is)
  (case Dt=>k_is)
  (case Fj=>k_is)
  (case BA=>k_is)
  (case Ee=>k_is)
  (case CD=>k_is)
  (case Ct=>k_is)
  (case CK=>k_is)
  (case Bb=>k_is)
  (case zV=>k_is)
  (case A0=>k_is)
  (case FV=>k_is)
  (case EA=>k_is)
  (case CJ=>k_is)
  (case FK=>k_is)
  (case Eg=>k_is)
  (case Cv=>k_is)
  (case E9=>k_is)
  (case BS=>k_is)
  (case EM=>k_is)
  (case F1=>k_is)
  (case DD=>k_is)
  (case FY=>k_is)
  (case B6=>k_is)
  (case C2=>k_is)
  (case Fb=>k_is)
  (case BH=>k_is)
  (case FU=>k_is)
  (case DX=>k_is)
  (case Cd=>k_is)
  (case CV=>k_is)
  (case Bo=>k_is)
  (case Dz=>k_is)
  (case EO=>k_is)
  (case BZ=>k_is)
  (case EL=>k_is)
  (case Di=>k_is)
  (case F2=>k_is)
  (case Fd=>k_is)
  (case DM=>k_is)
  (case BM=>k_is)
  (case EW=>k_is)
  (case Bv=>k_is)
  (case BE=>k_is)
  (case Dy=>k_is)
  (case EV=>k_is)
  (case DJ=>k_is)
  (case Dn=>k_is)
  (case Fg=>k_is)
  (case Eh=>k_is)
  (case Dl=>k_is)
  (case C8=>k_is)
  (case BU=>k_is)
  (case CF=>k_is)
  (case BQ=>k_is)
  (case BK=>k_is)
  (case mF=>k_is)
  (case dP=>k_is)
  (case rO=>k_is)
  (case df=>k_is)
  (case pj=>k_is)
  (case mB=>k_is)
  (case qF=>k_is)
  (case jn=>k_is)
  (case eG=>k_is)
  (case pf=>k_is)
  (case gG=>k_is)
  (case jE=>k_is)
  (case o7=>k_is)
  (case l5=>k_is)
