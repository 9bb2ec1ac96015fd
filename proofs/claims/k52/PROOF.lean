import PyProof.Rows.All
import Wide.All
import OpenK.AllK
import Wide.FinOn
import Lean
import PyProof.EqAt
import PyProof.EqKinds
import PyProof.TupleCall
import PyProof.CompUse
import PyProof.P3Eq
import PyProof.NeData
import PyProof.P3In
import PyProof.EnumMake
import PyProof.Draws
import PyProof.ConsumeWalk
import PyProof.Rows.SetFrom
import PyProof.SetRoads
import PyProof.Rows.SortWalk
import PyProof.ListRange
import PyProof.WalksMore
import PySem.Challenge.RW_handnames_k52_great_names_changed
set_option Elab.async false
set_option linter.all false
set_option maxRecDepth 100000
namespace PySem.W.Fast
theorem tw5228693080453189659:True:=⟨⟩
theorem tw10494305259806741146:True:=⟨⟩
theorem tw11923541053793139321:True:=⟨⟩
theorem tw2529872023428090619:True:=⟨⟩
theorem tw14193566079023291188:True:=⟨⟩
theorem tw26420690306261379:True:=⟨⟩
theorem tw17365337814994345726:True:=⟨⟩
theorem tw1923464982239048655:True:=⟨⟩
end PySem.W.Fast
section
set_option maxHeartbeats 200000
namespace L2
open PySem PySem.Spec PyProof.Rows
noncomputable abbrev Key:=Sum Int Str
noncomputable def keyIs:Key->Value->Bool
 | .inl k,v=>Value.isInt k v
 | .inr x,v=>Value.isStrOf x v
noncomputable def keyH (w:World):Key->Int
 | .inl k=>hashInt k
 | .inr x=>hashStr w x
theorem keyIs_shape:∀ {k:Key} {v:Value},keyIs k v=true->(∃ i t,k=Sum.inl i/\v=Value.int i t)\/(∃ x t,k=Sum.inr x/\v=Value.str x t)
 | .inl i,v,h=>by
  obtain ⟨t,e⟩:=Value.isInt_shape (k:=i) (v:=v) h
  exact .inl ⟨i,t,rfl,e⟩
 | .inr x,v,h=>by
  obtain ⟨t,e⟩:=Value.isStrOf_shape (x:=x) (v:=v) h
  exact .inr ⟨x,t,rfl,e⟩
theorem keyIs_int (i:Int) (t:Tok):keyIs (.inl i) (.int i t)=true:=by simp [keyIs,Value.isInt]
theorem keyIs_str (x:Str) (t:Tok):keyIs (.inr x) (.str x t)=true:=by simp [keyIs,Value.isStrOf]
theorem key_ll (a b:Int):decide ((Sum.inl a:Key)=Sum.inl b)=(a==b):=by
 by_cases e:a=b
 ·subst e;simp
 ·have h:¬ (Sum.inl a:Key)=Sum.inl b:=λq=>e (Sum.inl.inj q)
  rw [decide_eq_false h]
  exact (beq_eq_false_iff_ne.mpr e).symm
theorem key_rr (a b:Str):decide ((Sum.inr a:Key)=Sum.inr b)=decide (a=b):=by
 by_cases e:a=b
 ·subst e;simp
 ·have h:¬ (Sum.inr a:Key)=Sum.inr b:=λq=>e (Sum.inr.inj q)
  rw [decide_eq_false h,decide_eq_false e]
theorem key_lr (a:Int) (b:Str):decide ((Sum.inl a:Key)=Sum.inr b)=false:=decide_eq_false (λq=>nomatch q)
theorem key_rl (a:Str) (b:Int):decide ((Sum.inr a:Key)=Sum.inl b)=false:=decide_eq_false (λq=>nomatch q)
noncomputable def mixKind (prog:Program) (w:World):PySem.KeyKind prog w Key where
 is:=keyIs
 hash:=keyH w
 inj:=λv a b ha hb=>by
  rcases keyIs_shape ha with ⟨i,t,rfl,rfl⟩ | ⟨x,t,rfl,rfl⟩
  ·rcases keyIs_shape hb with ⟨j,u,rfl,e⟩ | ⟨y,u,rfl,e⟩
   ·injection e with e1 _;rw [e1]
   ·exact nomatch e
  ·rcases keyIs_shape hb with ⟨j,u,rfl,e⟩ | ⟨y,u,rfl,e⟩
   ·exact nomatch e
   ·injection e with e1 _;rw [e1]
 byValue:=λk v h=>by
  rcases keyIs_shape h with ⟨i,t,rfl,rfl⟩ | ⟨x,t,rfl,rfl⟩ <;> rfl
 pyHash:=λhv h=>by
  rcases keyIs_shape hv with ⟨i,t,rfl,rfl⟩ | ⟨x,t,rfl,rfl⟩
  ·exact wpAny_pyHash_int h
  ·exact wpAny_pyHash_str h
 eqBool:=λhu hv h=>by
  rcases keyIs_shape hu with ⟨i,t,rfl,rfl⟩ | ⟨x,t,rfl,rfl⟩
  ·rcases keyIs_shape hv with ⟨j,u,rfl,rfl⟩ | ⟨y,u,rfl,rfl⟩
   ·rw [key_ll] at h;exact wpAny_eqBool_int h
   ·rw [key_lr] at h;exact SeqAt.EqAt.int_str i t y u _ _ _ _ h
  ·rcases keyIs_shape hv with ⟨j,u,rfl,rfl⟩ | ⟨y,u,rfl,rfl⟩
   ·rw [key_rl] at h;exact SeqAt.EqAt.str_int x t j u _ _ _ _ h
   ·rw [key_rr] at h;exact wpAny_eqBool_str h
 «strs»:=λk x t v h=>by
  rcases keyIs_shape h with ⟨i,u,rfl,e⟩ | ⟨y,u,rfl,e⟩
  ·exact nomatch e
  ·injection e with e1 _
   subst e1
   cases v <;> rfl
theorem mixKind_int (prog:Program) (w:World) (i:Int) (t:Tok):(mixKind prog w).is (.inl i) (.int i t)=true:=keyIs_int i t
theorem mixKind_str (prog:Program) (w:World) (x:Str) (t:Tok):(mixKind prog w).is (.inr x) (.str x t)=true:=keyIs_str x t
end L2
namespace L2
open PySem PySem.Spec PyProof.Rows
inductive V where
 | non | bl (b:Bool) | int (i:Int) | str (x:Str) | byt (b:Array UInt8) | flt (b:UInt64) | ref (a:Addr) | ty (n:String)
 deriving DecidableEq
noncomputable def RelV:V->Value->Prop
 | .non,u=>u=Value.none
 | .bl b,u=>u=Value.bool b
 | .int i,u=>∃ t,u=Value.int i t
 | .str x,u=>∃ t,u=Value.str x t
 | .byt b,u=>∃ t,u=Value.bytes b t
 | .flt b,u=>∃ t,u=Value.float b t
 | .ref a,u=>u=Value.ref a
 | .ty n,u=>u=Value.type n
noncomputable abbrev Vals:List V->List Value->Prop:=Paired RelV
theorem Vals.length {xs:List V} {us:List Value} (r:Vals xs us):xs.length=us.length:=Paired.length r
theorem Vals.get:∀ {xs:List V} {us:List Value} {i:Nat} {x:V},Vals xs us->xs[i]?=some x->∃ u,us[i]?=some u/\RelV x u
 | _,_,_,_,.nil,e=>by simp at e
 | _,_,0,_,.cons r _,e=>by simp at e;subst e;exact ⟨_,rfl,r⟩
 | _,_,i+1,x,.cons _ t,e=>by
  obtain ⟨u,h1,h2⟩:=Vals.get (i:=i) (x:=x) t (by simpa using e)
  exact ⟨u,by simpa using h1,h2⟩
theorem Vals.set {x:V} {u:Value} (r:RelV x u):∀ {xs:List V} {us:List Value} (i:Nat),Vals xs us->Vals (xs.set i x) (us.set i u)
 | _,_,_,.nil=>.nil
 | _,_,0,.cons _ t=>.cons r t
 | _,_,i+1,.cons q t=>.cons q (Vals.set r i t)
theorem Vals.append:∀ {xs ys:List V} {us ws:List Value},Vals xs us->Vals ys ws->Vals (xs++ys) (us++ws)
 | _,_,_,_,.nil,s=>s
 | _,_,_,_,.cons r t,s=>.cons r (Vals.append t s)
theorem Vals.take:∀ {xs:List V} {us:List Value} (n:Nat),Vals xs us->Vals (xs.take n) (us.take n)
 | _,_,0,_=>.nil
 | _,_,_+1,.nil=>.nil
 | _,_,n+1,.cons r t=>.cons r (Vals.take n t)
theorem Vals.drop:∀ {xs:List V} {us:List Value} (n:Nat),Vals xs us->Vals (xs.drop n) (us.drop n)
 | _,_,0,r=>r
 | _,_,_+1,.nil=>.nil
 | _,_,n+1,.cons _ t=>Vals.drop n t
noncomputable def RelO:Option V->Option Value->Prop
 | some v,some u=>RelV v u
 | none,none=>True
 | _,_=>False
noncomputable def KV {κ:Type}:List (κ×V)->List (κ×Value)->Prop:=Paired λ(p:κ×V) (q:κ×Value)=>p.1=q.1/\RelV p.2 q.2
noncomputable def kV:Key->V
 | .inl i=>.int i
 | .inr x=>.str x
inductive HO where
 | lst (xs:List V)
 | tup (xs:List V)
 | dK (kvs:List (Key×V)) | dT (kvs:List (List Key×V))
 | set (S:Int->Bool) (n:Nat)
 | ins (C dx:Addr) (fs:List (Str×V))
 | own (x:Addr)
 | xd (fs:List (Str×V))
 | met (f x:Addr)
 | rng (lo hi:Int)
 | frz (o:Obj) (u:HO)
 | tbl (ps:Array Value)
 | ext (φ:Heap->Prop)
noncomputable abbrev Hp:=Addr->Option HO
noncomputable def upd (H:Hp) (a:Addr) (o:HO):Hp:=λb=>if b=a then some o else H b
theorem upd_same {H:Hp} {a:Addr} {o:HO}:upd H a o a=some o:=by unfold upd;rw [if_pos rfl]
theorem upd_ne {H:Hp} {a b:Addr} {o:HO} (h:b≠a):upd H a o b=H b:=by unfold upd;rw [if_neg h]
theorem ne_of {H:Hp} {a b:Addr} {o u:HO} (h:H a=some o) (h':H b=some u) (d:o≠u):a≠b:=by
 intro e;subst e;rw [h] at h';exact d (Option.some.inj h')
theorem ne_of_none {H:Hp} {a b:Addr} {o:HO} (h:H a=some o) (h':H b=none):a≠b:=by
 intro e;subst e;rw [h] at h';cases h'
noncomputable def TupN (h:Heap) (a:Addr) (items:Array Value):Prop:=∃ o,h.get? a=some o/\o.cls=.type "tuple"/\∃ n,o.data=.seq items n/\o.dict=none
theorem TupN.is {h:Heap} {a:Addr} {items:Array Value} (x:TupN h a items):IsTup h a items:=let ⟨o,e,c,n,d,_⟩:=x;⟨o,e,c,n,d⟩
theorem TupN.new (h:Heap) (items:Array Value):TupN (h.push { cls:=.type "tuple",data:=.seq items }) h.objs.size items:=⟨_,Heap.get?_push_size _ rfl,rfl,_,rfl,rfl⟩
section
variable (P:Program) (w:World)
noncomputable def ObjOk (H:Hp) (h:Heap) (a:Addr):HO->Prop
 | .lst xs=>xs.length<=sizeLine/\∃ (its:List Value) (n:Nat),Vals xs its/\h.get? a=some { cls:=.type "list",data:=.seq its.toArray n }
 | .tup xs=>xs.length<=sizeLine/\∃ its:List Value,Vals xs its/\TupN h a its.toArray
 | .dK kvs=>kvs.length<=sizeLine/\(a==sysModules)=false/\∃ vs,KV kvs vs/\h.DictOf (mixKind P w) a vs
 | .dT kvs=>kvs.length<=sizeLine/\(a==sysModules)=false/\∃ xs:List (List Key×Addr×Value),
   Paired (λ(p:List Key×V) (q:List Key×Addr×Value)=>p.1=q.1/\H q.2.1=some (.tup (p.1.map kV))/\RelV p.2 q.2.2) kvs xs /\
   ∃ o es ep,h.get? a=some o/\o.ExactDict/\o.data=.dict es ep/\es.toList=xs.map (entryOfKey (tupleKind (mixKind P w)))/\(xs.map (·.1)).Nodup
 | .set S n=>h.SetOf (intKind P w) a S n
 | .ins C dx fs=>H dx=some (.own a)/\fs.length<=1000/\dx≠a/\h.get? a=some (PySem.W.instObj C dx) /\
   ∃ mA,h.Ns1 dx mA/\(∀ f,RelO (fs.lookup f) (mA f))/\PySem.Within mA (fs.map (·.1))
 | .own _=>∃ o,h.get? a=some o
 | .xd fs=>∃ mA,h.Ns1 a mA/\∀ f,RelO (fs.lookup f) (mA f)
 | .rng lo hi=>∃ t u v,h.get? a=some { cls:=.type "range",data:=.fields #[.int lo t,.int hi u,.int 1 v] }
 | .frz o u=>h.get? a=some o/\ObjOk H h a u
 | .tbl ps=>h.get? a=some { cls:=.none,data:=.fields ps }
 | .met f x=>h.get? a=some (PySem.W.methodObj (.ref f) (.ref x))
 | .ext φ=>φ h/\(∃ o,h.get? a=some o)/\∀ h1 h2:Heap,φ h1->(∀ o,h1.get? a=some o->h2.get? a=some o)->φ h2
noncomputable def HOk (H:Hp) (h:Heap):Prop:=∀ a o,H a=some o->ObjOk P w H h a o
end
section
variable {P:Program} {w:World} {H H':Hp} {h h':Heap} {a:Addr} {o:HO}
theorem ObjOk.lt (x:ObjOk P w H h a o):a<h.objs.size:=by
 cases o with
 | lst xs=>obtain ⟨_,_,_,_,e⟩:=x;exact Heap.lt_size e
 | tup xs=>obtain ⟨_,_,_,p⟩:=x;exact p.is.lt
 | dK kvs=>obtain ⟨_,_,_,_,o,_,_,e,_⟩:=x;exact Heap.lt_size e
 | dT kvs=>obtain ⟨_,_,_,_,o,_,_,e,_⟩:=x;exact Heap.lt_size e
 | set S n=>obtain ⟨o,_,_,_,e,_⟩:=x;exact Heap.lt_size e
 | ins C dx fs=>obtain ⟨_,_,_,e,_⟩:=x;exact Heap.lt_size e
 | own y=>obtain ⟨_,e⟩:=x;exact Heap.lt_size e
 | xd fs=>obtain ⟨_,⟨_,_,_,e,_⟩,_⟩:=x;exact Heap.lt_size e
 | rng lo hi=>obtain ⟨_,_,_,e⟩:=x;exact Heap.lt_size e
 | frz ob u=>obtain ⟨e,_⟩:=x;exact Heap.lt_size e
 | tbl ps=>exact Heap.lt_size (show h.get? a=some _ from x)
 | met f y=>exact Heap.lt_size (show h.get? a=some _ from x)
 | ext φ=>obtain ⟨_,⟨_,e⟩,_⟩:=x;exact Heap.lt_size e
theorem Paired.mapP {α β:Type} {F G:α->β->Prop}:∀ {l₁:List α} {l₂:List β},Paired F l₁ l₂->(∀ a b,F a b->G a b)->Paired G l₁ l₂
 | _,_,.nil,_=>.nil
 | _,_,.cons r t,f=>.cons (f _ _ r) (Paired.mapP t f)
theorem ObjOk.stay (x:ObjOk P w H h a o) (k:∀ b u,(b=a\/H b=some (.own a))->h.get? b=some u->h'.get? b=some u)
  (ho:∀ b,H b=some (.own a)->H' b=some (.own a)) (ht:∀ b xs,H b=some (.tup xs)->H' b=some (.tup xs)):ObjOk P w H' h' a o:=by
 induction o with
 | lst xs=>obtain ⟨z,its,n,r,e⟩:=x;exact ⟨z,its,n,r,k _ _ (.inl rfl) e⟩
 | tup xs=>obtain ⟨z,its,r,ob,e,c⟩:=x;exact ⟨z,its,r,ob,k _ _ (.inl rfl) e,c⟩
 | dK kvs=>obtain ⟨z,y,vs,r,ob,es,ep,e,c⟩:=x;exact ⟨z,y,vs,r,ob,es,ep,k _ _ (.inl rfl) e,c⟩
 | dT kvs=>
  obtain ⟨z,y,xs,r,ob,es,ep,e,c⟩:=x
  exact ⟨z,y,xs,Paired.mapP r λp q z=>⟨z.1,ht _ _ z.2.1,z.2.2⟩,ob,es,ep,k _ _ (.inl rfl) e,c⟩
 | set S n=>obtain ⟨ob,es,ep,t,e,c⟩:=x;exact ⟨ob,es,ep,t,k _ _ (.inl rfl) e,c⟩
 | ins C dx fs=>
  obtain ⟨d,z,ne,e,mA,⟨od,es,ep,e2,c⟩,r⟩:=x
  exact ⟨ho _ d,z,ne,k _ _ (.inl rfl) e,mA,⟨od,es,ep,k _ _ (.inr d) e2,c⟩,r⟩
 | own y=>obtain ⟨ob,e⟩:=x;exact ⟨ob,k _ _ (.inl rfl) e⟩
 | xd fs=>obtain ⟨mA,⟨od,es,ep,e,c⟩,r⟩:=x;exact ⟨mA,⟨od,es,ep,k _ _ (.inl rfl) e,c⟩,r⟩
 | rng lo hi=>obtain ⟨t,u,v,e⟩:=x;exact ⟨t,u,v,k _ _ (.inl rfl) e⟩
 | frz ob u ih=>obtain ⟨e,q⟩:=x;exact ⟨k _ _ (.inl rfl) e,ih q⟩
 | tbl ps=>
  have e:h.get? a=some { cls:=.none,data:=.fields ps }:=x
  show h'.get? a=some { cls:=.none,data:=.fields ps }
  exact k a _ (.inl rfl) e
 | met f y=>
  have e:h.get? a=some (PySem.W.methodObj (.ref f) (.ref y)):=x
  show h'.get? a=some (PySem.W.methodObj (.ref f) (.ref y))
  exact k a _ (.inl rfl) e
 | ext φ=>obtain ⟨p,⟨o,e⟩,st⟩:=x;exact ⟨st _ _ p λo q=>k _ _ (.inl rfl) q,⟨o,k _ _ (.inl rfl) e⟩,st⟩
theorem HOk.lt (x:HOk P w H h) (e:H a=some o):a<h.objs.size:=(x a o e).lt
theorem HOk.fresh (x:HOk P w H h) (e:h.objs.size<=a):H a=none:=by
 cases q:H a with
 | none=>rfl
 | some u=>exact absurd (Nat.lt_of_lt_of_le (x.lt q) e) (Nat.lt_irrefl _)
theorem HOk.kept (x:HOk P w H h) (k:∀ b u,h.get? b=some u->h'.get? b=some u):HOk P w H h':=λa o e=>
 (x a o e).stay (λb u _ q=>k b u q) (λ_ q=>q) λ_ _ q=>q
theorem HOk.laid (x:HOk P w H h) (k:∀ b u,h.get? b=some u->h'.get? b=some u) (hp:h.objs.size<=a) (new:ObjOk P w (upd H a o) h' a o):HOk P w (upd H a o) h':=λb u e=>by
 have hn:=x.fresh hp
 by_cases hb:b=a
 ·subst hb;rw [upd_same] at e;cases e;exact new
 ·rw [upd_ne hb] at e
  exact (x b u e).stay (λc v _ q=>k c v q) (λc q=>by rw [upd_ne (ne_of_none q hn)];exact q) λc xs q=>by rw [upd_ne (ne_of_none q hn)];exact q
end
noncomputable def Rd (H:Hp) (a:Addr) (u:HO):Prop:=H a=some u\/∃ o,H a=some (.frz o u)
theorem Rd.ok {P:Program} {w:World} {H:Hp} {h:Heap} {a:Addr} {u:HO} (r:Rd H a u) (x:HOk P w H h):ObjOk P w H h a u:=by
 rcases r with r | ⟨o,r⟩
 ·exact x a u r
 ·obtain ⟨_,q⟩:=x a _ r
  exact q
noncomputable def Mut:Option HO->Prop
 | some (.lst _)=>True
 | some (.dK _)=>True
 | some (.dT _)=>True
 | some (.set _ _)=>True
 | some (.ins _ _ _)=>True
 | some (.ext _)=>True
 | _=>False
section
variable {P:Program} {w:World} {H:Hp} {h h':Heap} {x e:Addr} {o':HO}
theorem HOk.write (ok:HOk P w H h) (mu:Mut (H x)) (he:e=x\/H e=some (.own x)) (k:∀ b u,b≠e->h.get? b=some u->h'.get? b=some u) (heo:∃ u,h'.get? e=some u)
  (new:ObjOk P w (upd H x o') h' x o'):HOk P w (upd H x o') h':=λb u q=>by
 have nown:∀ c y,H c=some (.own y)->c≠x:=λc y r z=>by subst z;rw [r] at mu;exact mu
 have ntup:∀ c xs,H c=some (.tup xs)->c≠x:=λc xs r z=>by subst z;rw [r] at mu;exact mu
 by_cases hb:b=x
 ·subst hb;rw [upd_same] at q;cases q;exact new
 ·rw [upd_ne hb] at q
  by_cases hbe:b=e
  ·have q':H b=some (.own x):=by
    rcases he with z | z
    ·exact absurd (hbe.trans z) hb
    ·rw [hbe];exact z
   rw [q] at q';cases q'
   obtain ⟨v,hv⟩:=heo
   exact ⟨v,by rw [hbe];exact hv⟩
  ·refine (ok b u q).stay (λc v hc r=>k c v ?_ r) (λc r=>by rw [upd_ne (nown c b r)];exact r) λc xs r=>by rw [upd_ne (ntup c xs r)];exact r
   rcases hc with rfl | hc
   ·exact hbe
   ·rintro rfl
    rcases he with z | z
    ·exact nown c b hc z
    ·rw [hc] at z;cases z;exact hb rfl
end
structure Un (fs ex:List Addr) (H H':Hp) (h h':Heap):Prop where
 keep:∀ b o,h.get? b=some o->H b=none->b∉fs->b∉ex->h'.get? b=some o
 slot:∀ b o,h.get? b=some o->H b=none->b∈fs->b∉ex->∃ sl,h'.get? b=some { o with slots:=sl }
 free:∀ b o,h.get? b=some o->H b=none->b∉ex->H' b=none
 there:∀ b o,h.get? b=some o->b∉ex->∃ o',h'.get? b=some o'
 tups:∀ b xs,H b=some (.tup xs)->H' b=some (.tup xs)
 frzs:∀ b o u,H b=some (.frz o u)->H' b=some (.frz o u)
 tbls:∀ b ps,H b=some (.tbl ps)->∃ more,H' b=some (.tbl (ps++more))
section
variable {fs fs' ex ex':List Addr} {H H1 H2:Hp} {h h1 h2 h':Heap} {a x e:Addr} {o:HO}
theorem Un.any (u:Un fs ex H H1 h h1) {b:Addr} {ob:Obj} (q:h.get? b=some ob) (n:H b=none) (hx:b∉ex):∃ sl,h1.get? b=some { ob with slots:=sl }:=by
 by_cases hb:b∈fs
 ·exact u.slot b ob q n hb hx
 ·exact ⟨ob.slots,u.keep b ob q n hb hx⟩
theorem Un.kept (k:∀ b u,h.get? b=some u->h'.get? b=some u):Un fs ex H H h h':=
 ⟨λb ob q _ _ _=>k b ob q,λb ob q _ _ _=>⟨ob.slots,k b ob q⟩,λ_ _ _ n _=>n,λb ob q _=>⟨ob,k b ob q⟩,λ_ _ q=>q,λ_ _ _ q=>q,λ_ ps q=>⟨#[],by rw [q];simp⟩⟩
theorem Un.refl:Un fs ex H H h h:=Un.kept λ_ _ q=>q
theorem Un.laid (k:∀ b u,h.get? b=some u->h'.get? b=some u) (hp:h.objs.size<=a) (hn:H a=none):Un fs ex H (upd H a o) h h' where
 keep:=λb u q _ _ _=>k b u q
 slot:=λb u q _ _ _=>⟨u.slots,k b u q⟩
 free:=λb u q n _=>by rw [upd_ne (Nat.ne_of_lt (Nat.lt_of_lt_of_le (Heap.lt_size q) hp))];exact n
 there:=λb u q _=>⟨u,k b u q⟩
 tups:=λb xs q=>by rw [upd_ne (ne_of_none q hn)];exact q
 frzs:=λb u xs q=>by rw [upd_ne (ne_of_none q hn)];exact q
 tbls:=λb ps q=>⟨#[],by rw [upd_ne (ne_of_none q hn),q];simp⟩
theorem Un.write (mu:Mut (H x)) (he:e=x\/H e=some (.own x)) (k:∀ b u,b≠e->h.get? b=some u->h'.get? b=some u) (heo:∃ u,h'.get? e=some u):Un fs ex H (upd H x o) h h':=by
 have hx:∀ b,H b=none->b≠x:=λb n z=>by subst z;rw [n] at mu;exact mu
 have hb:∀ b,H b=none->b≠e:=λb n z=>by
  subst z
  rcases he with r | r
  ·exact hx b n r
  ·rw [n] at r;cases r
 have hm:∀ b u,H b=some u->¬ Mut (some u)->b≠x:=λb u q nm z=>by subst z;rw [q] at mu;exact nm mu
 refine ⟨λb u q n _ _=>k b u (hb b n) q,λb u q n _ _=>⟨u.slots,k b u (hb b n) q⟩,λb u q n _=>by rw [upd_ne (hx b n)];exact n,λb u q _=>?_,
  λb xs q=>by rw [upd_ne (hm b _ q λz=>z)];exact q,λb u xs q=>by rw [upd_ne (hm b _ q λz=>z)];exact q,λb ps q=>⟨#[],by rw [upd_ne (hm b _ q λz=>z),q];simp⟩⟩
 by_cases hbe:b=e
 ·subst hbe;exact heo
 ·exact ⟨u,k b u hbe q⟩
end
noncomputable def trk (h:Heap) (H:Hp):List Addr:=(List.range h.objs.size).filter λa=>(H a).isSome
noncomputable def hidT (h:Heap) (H:Hp):Heap:=PySem.W.hideAll h (trk h H)
theorem hidT_size (h:Heap) (H:Hp):(hidT h H).objs.size=h.objs.size:=PySem.W.hideAll_size _ _
theorem hidT_get {h:Heap} {H:Hp} {b:Addr} {o:Obj} (e:h.get? b=some o) (n:H b=none):(hidT h H).get? b=some o:=
 PySem.W.hideAll_get _ e λhm=>by
  have q:(H b).isSome=true:=(List.mem_filter.mp hm).2
  rw [n] at q;simp at q
theorem of_hidT {h:Heap} {H:Hp} {b:Addr} {o:Obj} (e:(hidT h H).get? b=some o):h.get? b=some o/\H b=none:=by
 have e':h.get? b=some o:=PySem.W.of_hideAll (trk h H) e
 refine ⟨e',?_⟩
 cases q:H b with
 | none=>rfl
 | some x=>
  have hm:b∈trk h H:=List.mem_filter.mpr ⟨List.mem_range.mpr (Heap.lt_size e'),by simp [q]⟩
  have z:(hidT h H).get? b=none:=PySem.W.hideAll_none (trk h H) hm
  rw [z] at e;cases e
end L2
namespace L2
open PySem PySem.Spec PyProof.Rows
structure Mod (K:PySem.W.Frag) (mg:Str->Option Value) (base:Heap):Prop where
 kin:K.In base
 glob:base.Ns mainGlobals mg
 blt:∃ mb,base.Ns builtinsNs mb/\∀ x:Str,x ≠ "__name__"->mb x=bootBuiltins x
 nolimit:base.NoLimit
structure Cx where
 prog:Program
 w:World
 K:PySem.W.Frag
 mg:Str->Option Value
 base:Heap
 A:Around
 N:List Str
 s₀:Shared
 H₀:Hp
 env:Env
 outer:List Env
 stack:List Env
 ex:List Addr
 fn:Str->Bool
 calm:Bool
 pn:List (Addr×Obj)
 xe:Value->Shared->Prop
noncomputable def frs (l:List Env):List Addr:=l.filterMap (·.frame)
noncomputable abbrev Cx.fs (X:Cx):List Addr:=frs X.outer
noncomputable def Vis (sc:Scope) (x:Str):Prop:=sc.names.lookup x=some .local\/sc.names.lookup x=some .cell\/sc.names.lookup x=some .free
noncomputable def Loc (sc:Scope) (x:Str):Prop:=sc.names.lookup x=some .local\/sc.names.lookup x=some .cell
noncomputable def Look (env:Env) (h:Heap) (m:Str->Option Value) (x:Str) (u:Value):Prop:=
 (env.kindOf x=some .local/\m x=some u)\/((env.kindOf x=some .cell\/env.kindOf x=some .free)/\∃ c,env.cells.lookup x=some c/\h.IsCell c (some u))
structure Cx.Ok (X:Cx):Prop where
 mod:Mod X.K X.mg X.base
 kind:X.env.scope.kind=.function
 glob:X.env.globals=mainGlobals
 blt:X.env.builtins=builtinsNs
 above:X.s₀.heap.objs.size<=X.env.locals
 inj:∀ x y c,X.env.cells.lookup x=some c->X.env.cells.lookup y=some c->x=y
 has:∀ x,(X.env.kindOf x=some .cell\/X.env.kindOf x=some .free)->∃ c,X.env.cells.lookup x=some c
 cab:∀ x c,X.fn x=true->X.env.cells.lookup x=some c->X.s₀.heap.objs.size<=c
 hd:X.calm=true->X.A.handled=none
 frames:X.A.frames=some X.stack
 stk:X.stack=X.outer\/(X.stack=X.env :: X.outer/\X.env.frame=some X.env.locals)
 exf:∀ b∈X.ex,b≠X.env.locals/\∀ x c,X.env.cells.lookup x=some c->c≠b
 bs:∀ b o,X.base.get? b=some o->X.s₀.heap.get? b=some o/\X.H₀ b=none
 bsz:X.base.objs.size<=X.s₀.heap.objs.size
 noex:∀ b o,X.base.get? b=some o->b∉X.ex
 exfs:∀ b∈X.ex,b∉X.fs
 funs:X.s₀.heap.FunFrames X.base X.outer
 frf:∀ b∈X.fs,X.H₀ b=none
structure Inv (X:Cx) (pins:List (Addr×Obj)) (σ:List (Option V)) (H:Hp) (s:Shared):Prop where
 ok:X.Ok
 os:s.os=X.s₀.os
 bare:AllBare s.gens
 base:Un X.fs X.ex X.H₀ H X.s₀.heap s.heap
 loc:∃ m,s.heap.Ns X.env.locals m/\∀ (i:Nat) (x:Str) (v:V),X.N[i]?=some x->σ[i]?=some (some v)->Vis X.env.scope x->∃ u,RelV v u/\Look X.env s.heap m x u
 cell:∀ x c,X.env.cells.lookup x=some c->∃ v,s.heap.IsCell c v
 free:H X.env.locals=none
 freeC:∀ x c,X.env.cells.lookup x=some c->H c=none
 pin:∀ p∈X.pn++pins,s.heap.get? p.1=some p.2/\H p.1=none/\p.1≠X.env.locals/\p.1∉X.fs/\∀ v,p.2.data≠.cell v
 hok:HOk X.prog X.w H s.heap
 len:σ.length=X.N.length
section
variable {X:Cx} {pins:List (Addr×Obj)} {σ:List (Option V)} {H H':Hp} {s:Shared} {h':Heap}
theorem Cx.Ok.nofr (ok:X.Ok) {b:Addr} {o:Obj} (e:X.base.get? b=some o):b∉X.fs:=λhb=>by
 have:=(ok.funs.mem hb).1
 rw [e] at this;cases this
theorem Inv.bs (I:Inv X pins σ H s):∀ b o,X.base.get? b=some o->s.heap.get? b=some o/\H b=none:=λb o e=>
 ⟨I.base.keep b o (I.ok.bs b o e).1 (I.ok.bs b o e).2 (I.ok.nofr e) (I.ok.noex b o e),I.base.free b o (I.ok.bs b o e).1 (I.ok.bs b o e).2 (I.ok.noex b o e)⟩
theorem Inv.bk (I:Inv X pins σ H s):∀ b o,X.base.get? b=some o->s.heap.get? b=some o:=λb o e=>(I.bs b o e).1
theorem Inv.mod (I:Inv X pins σ H s):Mod X.K X.mg X.base:=I.ok.mod
theorem Inv.kIn (I:Inv X pins σ H s):X.K.In s.heap:=I.ok.mod.kin.keeps I.bk
theorem Inv.lt (I:Inv X pins σ H s):X.env.locals<s.heap.objs.size:=let ⟨_,hn,_⟩:=I.loc;hn.lt
theorem Inv.sz (I:Inv X pins σ H s):X.s₀.heap.objs.size<=s.heap.objs.size:=Nat.le_trans I.ok.above (Nat.le_of_lt I.lt)
theorem Inv.nofs (I:Inv X pins σ H s) {a:Addr} (h:s.heap.objs.size<=a):a∉X.fs:=λhb=>by
 obtain ⟨_,o,ho,_⟩:=I.ok.funs.mem hb
 exact absurd (Nat.lt_of_lt_of_le (Heap.lt_size ho) (Nat.le_trans I.sz h)) (Nat.lt_irrefl _)
theorem Inv.cne (I:Inv X pins σ H s):∀ x c,X.env.cells.lookup x=some c->c≠X.env.locals:=λx c e z=>by
 obtain ⟨v,o,ho,hd⟩:=I.cell x c e
 obtain ⟨m,⟨o',es,ep,ho',hd',_⟩,_⟩:=I.loc
 rw [z,ho'] at ho;cases ho;rw [hd'] at hd;cases hd
theorem Inv.funs (I:Inv X pins σ H s):s.heap.FunFrames X.base X.outer:=by
 have all:∀ (l:List Env),(∀ b∈frs l,b∈X.fs)->X.s₀.heap.FunFrames X.base l->s.heap.FunFrames X.base l:=by
  intro l
  induction l with
  | nil=>intro _ _;trivial
  | cons env r ih=>
   intro hs hl
   obtain ⟨hk,⟨L,o,hf,hn,ho,hd⟩,hr⟩:=hl
   have hL:L∈X.fs:=hs L (by unfold frs;rw [List.filterMap_cons,hf];exact List.mem_cons_self)
   obtain ⟨sl,e⟩:=I.base.slot L o ho (I.ok.frf L hL) hL λz=>I.ok.exfs L z hL
   exact ⟨hk,⟨L,_,hf,hn,e,hd⟩,ih (λb hb=>hs b (by unfold frs;rw [List.filterMap_cons,hf];exact List.mem_cons_of_mem _ hb)) hr⟩
 exact all X.outer (λ_ hb=>hb) I.ok.funs
theorem Inv.stack (I:Inv X pins σ H s):s.heap.FunFrames X.base X.stack:=by
 rcases I.ok.stk with e | ⟨e,hf⟩
 ·rw [e];exact I.funs
 ·rw [e]
  obtain ⟨m,hn,_⟩:=I.loc
  refine .cons (by rw [I.ok.kind];decide) hf hn ?_ I.funs
  exact Heap.get?_none_of_le (Nat.le_trans I.ok.bsz I.ok.above)
theorem Inv.stkSub (I:Inv X pins σ H s):∀ b∈frs X.stack,b∈X.env.locals :: X.fs:=λb hb=>by
 rcases I.ok.stk with e | ⟨e,hf⟩
 ·rw [e] at hb;exact List.mem_cons_of_mem _ hb
 ·rw [e] at hb
  unfold frs at hb
  rw [List.filterMap_cons,hf] at hb
  exact hb
theorem Inv.stkFree (I:Inv X pins σ H s):∀ b∈frs X.stack,H b=none:=λb hb=>by
 rcases List.mem_cons.mp (I.stkSub b hb) with e | hb
 ·rw [e];exact I.free
 ·obtain ⟨_,o,ho,_⟩:=I.ok.funs.mem hb
  exact I.base.free b o ho (I.ok.frf b hb) λz=>I.ok.exfs b z hb
theorem Inv.step {g':Array GenState} {t':Nat} {d':Drawn} {ch:List Addr} (I:Inv X pins σ H s)
  (hch:∀ b∈ch,(b∈X.ex\/X.s₀.heap.objs.size<=b)/\b≠X.env.locals/\(∀ x c,X.env.cells.lookup x=some c->c≠b)/\∀ p∈X.pn++pins,p.1≠b)
  (keep:∀ b o,b≠X.env.locals->b∉X.fs->b∉ch->s.heap.get? b=some o->H b=none->h'.get? b=some o)
  (slot:∀ b o,b≠X.env.locals->b∈X.fs->b∉ch->s.heap.get? b=some o->H b=none->∃ sl,h'.get? b=some { o with slots:=sl }) (free:∀ b o,b∉ch->s.heap.get? b=some o->H b=none->H' b=none)
  (there:∀ b o,b∉ch->s.heap.get? b=some o->∃ o',h'.get? b=some o')
  (tups:∀ b xs,H b=some (.tup xs)->H' b=some (.tup xs)) (frzs:∀ b o u,H b=some (.frz o u)->H' b=some (.frz o u)) (tbls:∀ b ps,H b=some (.tbl ps)->∃ more,H' b=some (.tbl (ps++more)))
  (ns:∀ m,s.heap.Ns X.env.locals m->h'.Ns X.env.locals m) (hok:HOk X.prog X.w H' h') (hg:AllBare g') :
  Inv X pins σ H' { s with heap:=h',gens:=g',drawn:=d',toks:=t' }:=by
 have neL:∀ b o,X.s₀.heap.get? b=some o->b≠X.env.locals:=λb o e=>Nat.ne_of_lt (Nat.lt_of_lt_of_le (Heap.lt_size e) I.ok.above)
 have neC:∀ b o,X.s₀.heap.get? b=some o->b∉X.ex->b∉ch:=λb o e hx hb=>by
  rcases (hch b hb).1 with z | z
  ·exact hx z
  ·exact absurd (Nat.lt_of_lt_of_le (Heap.lt_size e) z) (Nat.lt_irrefl _)
 have cellK:∀ x c,X.env.cells.lookup x=some c->∀ v,s.heap.IsCell c v->h'.IsCell c v:=λx c e v ⟨o,ho,hd⟩=>by
  have nch:c∉ch:=λz=>(hch c z).2.2.1 x c e rfl
  by_cases hc:c∈X.fs
  ·obtain ⟨sl,q⟩:=slot c o (I.cne x c e) hc nch ho (I.freeC x c e)
   exact ⟨_,q,hd⟩
  ·exact ⟨o,keep c o (I.cne x c e) hc nch ho (I.freeC x c e),hd⟩
 refine ⟨I.ok,I.os,hg,⟨λb o e n hb hx=>?_,λb o e n hb hx=>?_,λb o e n hx=>?_,λb o e hx=>?_,λb xs e=>tups b xs (I.base.tups b xs e),λb o xs e=>frzs b o xs (I.base.frzs b o xs e),λb ps e=>?_⟩,?_,λx c e=>?_,?_,λx c e=>?_,λp hp=>?_,hok,I.len⟩
 ·exact keep b o (neL b o e) hb (neC b o e hx) (I.base.keep b o e n hb hx) (I.base.free b o e n hx)
 ·obtain ⟨sl,e1⟩:=I.base.slot b o e n hb hx
  obtain ⟨sl',e2⟩:=slot b _ (neL b o e) hb (neC b o e hx) e1 (I.base.free b o e n hx)
  exact ⟨sl',e2⟩
 ·obtain ⟨o',e1⟩:=I.base.there b o e hx
  exact free b o' (neC b o e hx) e1 (I.base.free b o e n hx)
 ·obtain ⟨o',e1⟩:=I.base.there b o e hx
  exact there b o' (neC b o e hx) e1
 ·obtain ⟨m1,e1⟩:=I.base.tbls b ps e
  obtain ⟨m2,e2⟩:=tbls b _ e1
  exact ⟨m1++m2,by rw [e2,Array.append_assoc]⟩
 ·obtain ⟨m,hn,hl⟩:=I.loc
  refine ⟨m,ns m hn,λi x v e1 e2 e3=>?_⟩
  obtain ⟨u,r,l⟩:=hl i x v e1 e2 e3
  refine ⟨u,r,?_⟩
  rcases l with l | ⟨k,c,e,z⟩
  ·exact .inl l
  ·exact .inr ⟨k,c,e,cellK x c e _ z⟩
 ·obtain ⟨v,z⟩:=I.cell x c e
  exact ⟨v,cellK x c e v z⟩
 ·obtain ⟨m,⟨o,_,_,ho,_⟩,_⟩:=I.loc
  exact free _ o (λz=>(hch _ z).2.1 rfl) ho I.free
 ·obtain ⟨v,o,ho,hd⟩:=I.cell x c e
  exact free c o (λz=>(hch c z).2.2.1 x c e rfl) ho (I.freeC x c e)
 ·obtain ⟨e,n,ne,nf,d⟩:=I.pin p hp
  have nch:p.1∉ch:=λz=>(hch p.1 z).2.2.2 p hp rfl
  exact ⟨keep p.1 p.2 ne nf nch e n,free p.1 p.2 nch e n,ne,nf,d⟩
theorem Inv.un {t':Nat} (I:Inv X pins σ H s) (u:Un X.fs [] H H' s.heap h') (hok:HOk X.prog X.w H' h'):Inv X pins σ H' { s with heap:=h',toks:=t' }:=by
 obtain ⟨m,⟨o,es,ep,ho,r⟩,_⟩:=id I.loc
 obtain ⟨sl,hL⟩:=u.any ho I.free (by simp)
 exact I.step (g':=s.gens) (d':=s.drawn) (ch:=[]) (λ_ z=>nomatch z) (λb o _ hb _ e n=>u.keep b o e n hb (by simp)) (λb o _ hb _ e n=>u.slot b o e n hb (by simp)) (λb o _ e n=>u.free b o e n (by simp)) (λb o _ e=>u.there b o e (by simp)) u.tups u.frzs u.tbls (λm' hm=>by
  obtain ⟨o',es',ep',ho',r'⟩:=hm
  rw [ho] at ho';cases ho'
  exact ⟨_,es',ep',hL,r'⟩) hok I.bare
theorem Inv.call {g':Array GenState} {t':Nat} {d':Drawn} {ch:List Addr} (I:Inv X pins σ H s) (u:Un (frs X.stack) ch H H' s.heap h') (hok:HOk X.prog X.w H' h') (hg:AllBare g')
  (hch:∀ b∈ch,(b∈X.ex\/X.s₀.heap.objs.size<=b)/\b≠X.env.locals/\(∀ x c,X.env.cells.lookup x=some c->c≠b)/\∀ p∈X.pn++pins,p.1≠b) :
  Inv X pins σ H' { s with heap:=h',gens:=g',drawn:=d',toks:=t' }:=by
 obtain ⟨m,⟨o,es,ep,ho,r⟩,_⟩:=id I.loc
 obtain ⟨sl,hL⟩:=u.any ho I.free λz=>(hch _ z).2.1 rfl
 exact I.step (ch:=ch) hch (λb o hL hb hc e n=>u.keep b o e n (λz=>(List.mem_cons.mp (I.stkSub b z)).elim hL hb) hc) (λb o _ _ hc e n=>u.any e n hc) (λb o hc e n=>u.free b o e n hc) (λb o hc e=>u.there b o e hc) u.tups u.frzs u.tbls (λm' hm=>by
  obtain ⟨o',es',ep',ho',r'⟩:=hm
  rw [ho] at ho';cases ho'
  exact ⟨_,es',ep',hL,r'⟩) hok hg
theorem Inv.turned {t':Nat} {it:Addr} (I:Inv X pins σ H s) (k:∀ b o,b≠it->s.heap.get? b=some o->h'.get? b=some o) (hn:H it=none) (hL:it≠X.env.locals)
  (h1:it∈X.ex\/X.s₀.heap.objs.size<=it) (h2:∀ x c,X.env.cells.lookup x=some c->c≠it) (h3:∀ p∈X.pn++pins,p.1≠it):Inv X pins σ H { s with heap:=h',toks:=t' }:=by
 have nit:∀ b u,H b=some u->b≠it:=λb u e z=>by rw [z,hn] at e;cases e
 refine I.step (g':=s.gens) (d':=s.drawn) (ch:=[it]) (λb hb=>?_) (λb o _ _ hc e _=>k b o (λz=>hc (by simp [z])) e) (λb o _ _ hc e _=>⟨o.slots,k b o (λz=>hc (by simp [z])) e⟩) (λ_ _ _ _ n=>n)
  (λb o hc e=>⟨o,k b o (λz=>hc (by simp [z])) e⟩) (λ_ _ e=>e) (λ_ _ _ e=>e) (λb ps e=>⟨#[],by rw [e];simp⟩) (λm hm=>?_) (λb u e=>?_) I.bare
 ·have e:b=it:=by simpa using hb
  subst e
  exact ⟨h1,hL,h2,h3⟩
 ·obtain ⟨o,es,ep,ho,r⟩:=hm
  exact ⟨o,es,ep,k _ o (Ne.symm hL) ho,r⟩
 ·refine (I.hok b u e).stay (λc v hc q=>k c v ?_ q) (λ_ q=>q) λ_ _ q=>q
  rcases hc with z | z
  ·rw [z];exact nit b u e
  ·exact nit c _ z
theorem Inv.tok (I:Inv X pins σ H s) (t:Nat):Inv X pins σ H { s with toks:=t }:=I.un (h':=s.heap) (t':=t) Un.refl I.hok
theorem Inv.kept {t':Nat} (I:Inv X pins σ H s) (k:∀ b u,s.heap.get? b=some u->h'.get? b=some u):Inv X pins σ H { s with heap:=h',toks:=t' }:=I.un (Un.kept k) (I.hok.kept k)
theorem Inv.laid {a:Addr} {o:HO} {t':Nat} (I:Inv X pins σ H s) (k:∀ b u,s.heap.get? b=some u->h'.get? b=some u) (hp:s.heap.objs.size<=a) (new:ObjOk X.prog X.w (upd H a o) h' a o) :
  Inv X pins σ (upd H a o) { s with heap:=h',toks:=t' }:=I.un (Un.laid k hp (I.hok.fresh hp)) (I.hok.laid k hp new)
theorem Inv.write {x e:Addr} {o:HO} {t':Nat} (I:Inv X pins σ H s) (mu:Mut (H x)) (he:e=x\/H e=some (.own x)) (k:∀ b u,b≠e->s.heap.get? b=some u->h'.get? b=some u) (heo:∃ u,h'.get? e=some u)
  (new:ObjOk X.prog X.w (upd H x o) h' x o):Inv X pins σ (upd H x o) { s with heap:=h',toks:=t' }:=I.un (Un.write mu he k heo) (I.hok.write mu he k heo new)
theorem Inv.weak {σ':List (Option V)} (I:Inv X pins σ H s) (hl:σ'.length=σ.length) (w:∀ (i:Nat) v,σ'[i]?=some (some v)->σ[i]?=some (some v)):Inv X pins σ' H s:=
 ⟨I.ok,I.os,I.bare,I.base,let ⟨m,hn,hl'⟩:=I.loc;⟨m,hn,λi x v e1 e2 e3=>hl' i x v e1 (w i v e2) e3⟩,I.cell,I.free,I.freeC,I.pin,I.hok,hl.trans I.len⟩
theorem Inv.pins_of {pins':List (Addr×Obj)} (I:Inv X pins σ H s) (h:∀ p∈pins',s.heap.get? p.1=some p.2/\H p.1=none/\p.1≠X.env.locals/\p.1∉X.fs/\∀ v,p.2.data≠.cell v):Inv X pins' σ H s:=
 ⟨I.ok,I.os,I.bare,I.base,I.loc,I.cell,I.free,I.freeC,λp hp=>(List.mem_append.mp hp).elim (λz=>I.pin p (List.mem_append_left _ z)) (h p),I.hok,I.len⟩
theorem nodup_ix {N:List Str} (hN:N.Nodup) {i j:Nat} {x:Str} (a:N[i]?=some x) (b:N[j]?=some x):i=j:=by
 obtain ⟨h1,e1⟩:=List.getElem?_eq_some_iff.mp a
 obtain ⟨h2,e2⟩:=List.getElem?_eq_some_iff.mp b
 exact (List.getElem_inj hN).mp (e1.trans e2.symm)
theorem store_ok2 {M:Model} {A:Around} {E:Value->Shared->Prop} {i:Nat} {x:Str} {v:V} {u:Value} {Q:Unit->Shared->Prop} (I:Inv X pins σ H s) (hN:X.N.Nodup) (hi:X.N[i]?=some x) (hx:Loc X.env.scope x) (r:RelV v u)
  (h:∀ s',Inv X pins (σ.set i (some v)) H s'->(∃ a,Heap.SameBut a s.heap s'.heap/\(a=X.env.locals\/X.env.cells.lookup x=some a))->Q () s') (hf:X.fn x=true\/X.env.scope.names.lookup x=some .local:=by first | exact .inl rfl | exact .inr rfl | assumption):wpAny M A (storeName X.env x u) Q E s:=by
 obtain ⟨m,hn,hl⟩:=id I.loc
 have hcls:(X.env.scope.kind==.class||(X.env.scope.kind==.module&&X.env.locals != X.env.globals))=false:=by rw [I.ok.kind];rfl
 have hiσ:i<σ.length:=by rw [I.len];exact (List.getElem?_eq_some_iff.mp hi).1
 have cne:=I.cne
 have tracked:∀ {a:Addr} {h':Heap},(∃ o,s.heap.get? a=some o/\H a=none)->Heap.SameBut a s.heap h'->HOk X.prog X.w H h':=λ{a h'} ha hs b ob e=>by
  obtain ⟨_,_,hfree⟩:=ha
  refine (I.hok b ob e).stay (λc w' hc q=>(hs.2 c ?_).trans q) (λ_ q=>q) λ_ _ q=>q
  rintro rfl
  rcases hc with rfl | hc
  ·rw [hfree] at e;cases e
  ·rw [hfree] at hc;cases hc
 rcases hx with hk | hk
 ·refine wpAny_storeName_local hk hn (λh' hn' hs=>?_) hcls
  obtain ⟨oL,_,_,hoL,_⟩:=id hn
  refine h _ ⟨I.ok,I.os,I.bare,⟨λb o e n hb hx=>?_,λb o e n hb hx=>?_,I.base.free,λb o e hx=>?_,I.base.tups,I.base.frzs,I.base.tbls⟩,⟨_,hn',λj y v' e1 e2 e3=>?_⟩,λy c e=>?_,I.free,I.freeC,λp hp=>?_,tracked ⟨oL,hoL,I.free⟩ hs,by simpa using I.len⟩ ⟨_,hs,.inl rfl⟩
  ·exact (hs.2 b (Nat.ne_of_lt (Nat.lt_of_lt_of_le (Heap.lt_size e) I.ok.above))).trans (I.base.keep b o e n hb hx)
  ·obtain ⟨sl,e1⟩:=I.base.slot b o e n hb hx
   exact ⟨sl,(hs.2 b (Nat.ne_of_lt (Nat.lt_of_lt_of_le (Heap.lt_size e) I.ok.above))).trans e1⟩
  ·obtain ⟨o',e1⟩:=I.base.there b o e hx
   exact ⟨o',(hs.2 b (Nat.ne_of_lt (Nat.lt_of_lt_of_le (Heap.lt_size e) I.ok.above))).trans e1⟩
  ·by_cases hj:j=i
   ·subst hj
    rw [hi] at e1;cases e1
    rw [List.getElem?_set_self hiσ] at e2
    cases e2
    exact ⟨u,r,.inl ⟨hk,by simp⟩⟩
   ·rw [List.getElem?_set_ne (Ne.symm hj)] at e2
    obtain ⟨u',r',q⟩:=hl j y v' e1 e2 e3
    refine ⟨u',r',?_⟩
    rcases q with ⟨k,e⟩ | ⟨k,c,e,z⟩
    ·refine .inl ⟨k,?_⟩
     have:y≠x:=λe=>hj (nodup_ix hN e1 (e▸hi))
     simp [this,e]
    ·exact .inr ⟨k,c,e,z.sameBut hs (cne y c e)⟩
  ·obtain ⟨w',z⟩:=I.cell y c e
   exact ⟨w',z.sameBut hs (cne y c e)⟩
  ·obtain ⟨e,n,ne,nf,d⟩:=I.pin p hp
   exact ⟨(hs.2 p.1 ne).trans e,n,ne,nf,d⟩
 ·have hfn:X.fn x=true:=by
   rcases hf with z | z
   ·exact z
   ·rw [z] at hk;cases hk
  obtain ⟨c,hc⟩:=I.ok.has x (.inl hk)
  obtain ⟨w',z⟩:=I.cell x c hc
  refine wpAny_storeName_cell I.ok.kind hk hc z (λh' hc' hs=>?_)
  obtain ⟨oc,hoc,hocd⟩:=id z
  refine h { s with heap:=h' } ⟨I.ok,I.os,I.bare,⟨λb o e n hb hx=>?_,λb o e n hb hx=>?_,I.base.free,λb o e hx=>?_,I.base.tups,I.base.frzs,I.base.tbls⟩,⟨m,hn.sameBut hs (Ne.symm (cne x c hc)),λj y v' e1 e2 e3=>?_⟩,λy c' e=>?_,I.free,I.freeC,λp hp=>?_,tracked ⟨oc,hoc,I.freeC x c hc⟩ hs,by simpa using I.len⟩ ⟨c,hs,.inr hc⟩
  ·exact (hs.2 b (Nat.ne_of_lt (Nat.lt_of_lt_of_le (Heap.lt_size e) (I.ok.cab x c hfn hc)))).trans (I.base.keep b o e n hb hx)
  ·obtain ⟨sl,e1⟩:=I.base.slot b o e n hb hx
   exact ⟨sl,(hs.2 b (Nat.ne_of_lt (Nat.lt_of_lt_of_le (Heap.lt_size e) (I.ok.cab x c hfn hc)))).trans e1⟩
  ·obtain ⟨o',e1⟩:=I.base.there b o e hx
   exact ⟨o',(hs.2 b (Nat.ne_of_lt (Nat.lt_of_lt_of_le (Heap.lt_size e) (I.ok.cab x c hfn hc)))).trans e1⟩
  ·by_cases hj:j=i
   ·subst hj
    rw [hi] at e1;cases e1
    rw [List.getElem?_set_self hiσ] at e2
    cases e2
    exact ⟨u,r,.inr ⟨.inl hk,c,hc,hc'⟩⟩
   ·rw [List.getElem?_set_ne (Ne.symm hj)] at e2
    obtain ⟨u',r',q⟩:=hl j y v' e1 e2 e3
    refine ⟨u',r',?_⟩
    rcases q with q | ⟨k,c',e,z'⟩
    ·exact .inl q
    ·refine .inr ⟨k,c',e,z'.sameBut hs ?_⟩
     rintro rfl
     exact hj (nodup_ix hN e1 (I.ok.inj _ _ _ e hc▸hi))
  ·by_cases hcc:c'=c
   ·subst hcc;exact ⟨_,hc'⟩
   ·obtain ⟨w2,z2⟩:=I.cell y c' e
    exact ⟨w2,z2.sameBut hs hcc⟩
  ·obtain ⟨e,n,ne,nf,d⟩:=I.pin p hp
   refine ⟨(hs.2 p.1 ?_).trans e,n,ne,nf,d⟩
   intro q
   rw [q,hoc] at e
   have q':oc=p.2:=Option.some.inj e
   exact d w' (by rw [<- q'];exact hocd)
theorem store_ok {M:Model} {A:Around} {E:Value->Shared->Prop} {i:Nat} {x:Str} {v:V} {u:Value} {Q:Unit->Shared->Prop} (I:Inv X pins σ H s) (hN:X.N.Nodup) (hi:X.N[i]?=some x) (hx:Loc X.env.scope x) (r:RelV v u)
  (h:∀ s',Inv X pins (σ.set i (some v)) H s'->Q () s') (hf:X.fn x=true\/X.env.scope.names.lookup x=some .local:=by first | exact .inl rfl | exact .inr rfl | assumption):wpAny M A (storeName X.env x u) Q E s:=
 store_ok2 I hN hi hx r (λs' I' _=>h s' I') hf
theorem Inv.call' {s':Shared} {ch:List Addr} (I:Inv X pins σ H s) (ho:s'.os=s.os) (u:Un (frs X.stack) ch H H' s.heap s'.heap) (hok:HOk X.prog X.w H' s'.heap) (hg:AllBare s'.gens)
  (hch:∀ b∈ch,(b∈X.ex\/X.s₀.heap.objs.size<=b)/\b≠X.env.locals/\(∀ x c,X.env.cells.lookup x=some c->c≠b)/\∀ p∈X.pn++pins,p.1≠b):Inv X pins σ H' s':=by
 obtain ⟨h',g',d',t',o'⟩:=s'
 have e:o'=s.os:=ho
 subst e
 exact I.call (g':=g') (t':=t') (d':=d') u hok hg hch
end
noncomputable abbrev XK:=Value->Option Addr->Hp->Prop
noncomputable abbrev St:=List (Option V)
noncomputable abbrev VK:=V->Hp->Prop
noncomputable abbrev TE:=St->Hp->VK->Prop
noncomputable abbrev TT:=St->Hp->(Bool->Hp->Prop)->Prop
noncomputable abbrev TA:=St->Hp->(List V->Hp->Prop)->Prop
structure Ends where
 nx:St->Hp->Prop
 rt:VK
 bk:St->Hp->Prop:=λ_ _=>False
 ct:St->Hp->Prop:=λ_ _=>False
noncomputable abbrev TS:=Ends->St->Hp->Prop
noncomputable def EP (X:Cx) (pins:List (Addr×Obj)) (σ:St) (Q:VK) (u:Value) (s':Shared):Prop:=∃ v H',Inv X pins σ H' s'/\RelV v u/\Q v H'
noncomputable def TP (X:Cx) (pins:List (Addr×Obj)) (σ:St) (Q:Bool->Hp->Prop) (b:Bool) (s':Shared):Prop:=∃ H',Inv X pins σ H' s'/\Q b H'
noncomputable def AP (X:Cx) (pins:List (Addr×Obj)) (σ:St) (Q:List V->Hp->Prop) (us:List Value) (s':Shared):Prop:=∃ vs H',Inv X pins σ H' s'/\Vals vs us/\Q vs H'
noncomputable def SP (X:Cx) (pins:List (Addr×Obj)) (D:Ends) (f:Flow) (s':Shared):Prop:=
 match f with
 | .next=>∃ σ' H',Inv X pins σ' H' s'/\D.nx σ' H'
 | .brk=>∃ σ' H',Inv X pins σ' H' s'/\D.bk σ' H'
 | .cont=>∃ σ' H',Inv X pins σ' H' s'/\D.ct σ' H'
 | .ret u=>∃ v σ' H',Inv X pins σ' H' s'/\RelV v u/\D.rt v H'
noncomputable def PE (X:Cx) (e:Expr) (t:TE):Prop:=
 ∀ (pins:List (Addr×Obj)) (s:Shared) (σ:St) (H:Hp) (Q:VK),Inv X pins σ H s->t σ H Q->wpAny (model X.prog X.w) X.A (eval e X.env) (EP X pins σ Q) X.xe s
noncomputable def PT (X:Cx) (e:Expr) (t:TT):Prop:=
 ∀ (pins:List (Addr×Obj)) (s:Shared) (σ:St) (H:Hp) (Q:Bool->Hp->Prop),Inv X pins σ H s->t σ H Q->wpAny (model X.prog X.w) X.A (isTrue e X.env (eval e X.env)) (TP X pins σ Q) X.xe s
noncomputable def PW (X:Cx) (e:Expr) (t:TT):Prop:=
 ∀ (whole:Sem Value) (pins:List (Addr×Obj)) (s:Shared) (σ:St) (H:Hp) (Q:Bool->Hp->Prop),Inv X pins σ H s->t σ H Q->wpAny (model X.prog X.w) X.A (isTrue e X.env whole) (TP X pins σ Q) X.xe s
theorem PW.pt {X:Cx} {e:Expr} {t:TT} (h:PW X e t):PT X e t:=h _
noncomputable def PA (X:Cx) (es:List Expr) (t:TA):Prop:=
 ∀ (pos:Pos) (pins:List (Addr×Obj)) (s:Shared) (σ:St) (H:Hp) (Q:List V->Hp->Prop),Inv X pins σ H s->t σ H Q->wpAny (model X.prog X.w) X.A (spliced (backTo pos (starEach es X.env))) (AP X pins σ Q) X.xe s
noncomputable def PS (X:Cx) (st:Stmt) (t:TS):Prop:=
 ∀ (pins:List (Addr×Obj)) (s:Shared) (σ:St) (H:Hp) (D:Ends),Inv X pins σ H s->t D σ H->wpAny (model X.prog X.w) X.A (exec st X.env) (SP X pins D) X.xe s
noncomputable def PSs (X:Cx) (st:List Stmt) (t:TS):Prop:=
 ∀ (pins:List (Addr×Obj)) (s:Shared) (σ:St) (H:Hp) (D:Ends),Inv X pins σ H s->t D σ H->wpAny (model X.prog X.w) X.A (execs st X.env) (SP X pins D) X.xe s
theorem thn {α:Type} {t:Sem α} {Q Q':α->Shared->Prop} {M:Model} {A:Around} {E:Value->Shared->Prop} {s:Shared} (h:wpAny M A t Q E s) (hQ:∀ a s,Q a s->Q' a s):wpAny M A t Q' E s:=wpAny_mono h hQ λ_ _ x=>x
end L2
namespace L2
open PySem PySem.Spec PyProof.Rows
section
variable {X:Cx}
noncomputable def tVar (i:Nat):TE:=λσ H Q=>∃ v,σ[i]?=some (some v)/\Q v H
noncomputable def tC (v:V):TE:=λ_ H Q=>Q v H
theorem pe_var {i:Nat} {x:Str} {pos:Pos} (hN:X.N[i]?=some x) (hv:Vis X.env.scope x) (hd:(x==("__debug__" : Str))=false:=by decide) (hcd:(x==("__classdict__" : Str))=false:=by decide):PE X (.Name x pos) (tVar i):=by
 intro pins s σ H Q I h
 obtain ⟨v,e,h⟩:=h
 obtain ⟨m,hn,hl⟩:=I.loc
 obtain ⟨u,r,l⟩:=hl i x v hN e hv
 have fin:EP X pins σ Q u s:=⟨v,H,I,r,h⟩
 rcases l with ⟨hk,hm⟩ | ⟨hk,c,hc,hcell⟩
 ·exact wpAny_Name (wpAny_loadName_local I.ok.kind hk hn hm fin) hd
 ·rcases hk with hk | hk
  ·exact wpAny_Name (wpAny_loadName_cell I.ok.kind hk hc hcell fin) hd
  ·exact wpAny_Name (wpAny_loadName_free I.ok.kind hk hc hcell fin hcd) hd
theorem pe_int {i j pos}:PE X (.Constant (.int i) j pos) (tC (.int i)):=λ_ _ _ H _ I h=>wpAny_Constant_int ⟨.int i,H,I.tok _,⟨_,rfl⟩,h⟩
theorem pe_bl {b j pos}:PE X (.Constant (.bool b) j pos) (tC (.bl b)):=λ_ _ _ H _ I h=>Constant_bool ⟨.bl b,H,I,rfl,h⟩
theorem pe_non {j pos}:PE X (.Constant .none j pos) (tC .non):=λ_ _ _ H _ I h=>Constant_none ⟨.non,H,I,rfl,h⟩
theorem pe_str {x j pos}:PE X (.Constant (.str x) j pos) (tC (.str x)):=λ_ _ _ H _ I h=>Calls.Constant_str ⟨.str x,H,I.tok _,⟨_,rfl⟩,h⟩
noncomputable def Gl (X:Cx) (x:Str):Prop:=X.env.kindOf x=some .globalImplicit
theorem ld_glob {E:Value->Shared->Prop} {pins:List (Addr×Obj)} {s:Shared} {σ:St} {H:Hp} {x:Str} {u:Value} {pos:Pos} {Q:Value->Shared->Prop} (I:Inv X pins σ H s) (hg:Gl X x) (hm:X.mg x=some u) (h:Q u s)
  (hd:(x==("__debug__" : Str))=false:=by decide):wpAny (model X.prog X.w) X.A (eval (.Name x pos) X.env) Q E s:=
 Calls.Name_function_global I.ok.kind hg (Calls.loadGlobal_global (by rw [I.ok.glob];exact I.mod.glob.keeps I.bk) hm h) hd
theorem ld_blt {E:Value->Shared->Prop} {pins:List (Addr×Obj)} {s:Shared} {σ:St} {H:Hp} {x:Str} {u:Value} {pos:Pos} {Q:Value->Shared->Prop} (I:Inv X pins σ H s) (hg:Gl X x) (hm:X.mg x=none) (hv:bootBuiltins x=some u) (h:Q u s)
  (hn:x ≠ "__name__":=by decide) (hd:(x==("__debug__" : Str))=false:=by decide):wpAny (model X.prog X.w) X.A (eval (.Name x pos) X.env) Q E s:=by
 obtain ⟨mb,h1,h2⟩:=I.mod.blt
 exact Calls.Name_function_global I.ok.kind hg (Calls.loadGlobal_builtin (by rw [I.ok.glob];exact I.mod.glob.keeps I.bk) hm (by rw [I.ok.blt];exact h1.keeps I.bk) ((h2 x hn).trans hv) h) hd
theorem pe_glob {x:Str} {v:V} {u:Value} {pos:Pos} (hg:Gl X x) (hm:X.mg x=some u) (r:RelV v u) (hd:(x==("__debug__" : Str))=false:=by decide):PE X (.Name x pos) (tC v):=
 λ_ _ _ H _ I h=>ld_glob I hg hm ⟨v,H,I,r,h⟩ hd
variable {a b:Expr} {ta tb:TE} {pos:Pos}
variable {tA tB':TT} {rest:List Expr}
noncomputable def tAnd (t u:TT):TT:=λσ H Q=>t σ H λc H1=>if c=true then u σ H1 Q else Q false H1
noncomputable def tOr (t u:TT):TT:=λσ H Q=>t σ H λc H1=>if c=true then Q true H1 else u σ H1 Q
theorem pw_and1 (ha:PT X a tA):PW X (.BoolOp .And [a] pos) tA:=by
 intro wh pins s σ H Q I h
 refine isTrue_and (thn (ha pins s σ H Q I h) λc s1 e=>?_)
 cases c with
 | true=>exact isTrue_and_nil e
 | false=>exact e
theorem pw_or1 (ha:PT X a tA):PW X (.BoolOp .Or [a] pos) tA:=by
 intro wh pins s σ H Q I h
 refine isTrue_or (thn (ha pins s σ H Q I h) λc s1 e=>?_)
 cases c with
 | false=>exact isTrue_or_nil e
 | true=>exact e
theorem pw_and (ha:PT X a tA) (hb:PW X (.BoolOp .And (b :: rest) pos) tB'):PW X (.BoolOp .And (a :: b :: rest) pos) (tAnd tA tB'):=by
 intro wh pins s σ H Q I h
 refine isTrue_and (thn (ha pins s σ H _ I h) λc s1 ⟨H1,I1,q1⟩=>?_)
 cases c with
 | true=>exact hb wh pins s1 σ H1 Q I1 q1
 | false=>exact ⟨H1,I1,q1⟩
theorem pw_or (ha:PT X a tA) (hb:PW X (.BoolOp .Or (b :: rest) pos) tB'):PW X (.BoolOp .Or (a :: b :: rest) pos) (tOr tA tB'):=by
 intro wh pins s σ H Q I h
 refine isTrue_or (thn (ha pins s σ H _ I h) λc s1 ⟨H1,I1,q1⟩=>?_)
 cases c with
 | true=>exact ⟨H1,I1,q1⟩
 | false=>exact hb wh pins s1 σ H1 Q I1 q1
noncomputable def tIf (t:TT) (ta tb:TE):TE:=λσ H Q=>t σ H λc H1=>if c=true then ta σ H1 Q else tb σ H1 Q
theorem pe_ifExp {c:Expr} (hc:PT X c tA) (ha:PE X a ta) (hb:PE X b tb):PE X (.IfExp c a b pos) (tIf tA ta tb):=by
 intro pins s σ H Q I h
 refine wpAny_IfExp (thn (hc pins s σ H _ I h) λd s1 ⟨H1,I1,q1⟩=>?_)
 cases d with
 | true=>exact ha pins s1 σ H1 Q I1 q1
 | false=>exact hb pins s1 σ H1 Q I1 q1
end
end L2
namespace L2
open PySem PySem.Spec PyProof.Rows
noncomputable def SqL (K:PySem.W.Frag) (H:Hp) (a:Addr) (xs:List V):Prop:=
 Rd H a (.lst xs) \/
  ∃ (o:Obj) (its:Array Value) (n:Nat),K.lookup a=some o/\o.cls=.type "list"/\o.dict=none/\o.data=.seq its n/\its.size<=sizeLine/\Vals xs its.toList
noncomputable def SqT (K:PySem.W.Frag) (H:Hp) (a:Addr) (xs:List V):Prop:=
 Rd H a (.tup xs) \/
  ∃ (o:Obj) (its:Array Value) (n:Nat),K.lookup a=some o/\o.cls=.type "tuple"/\o.data=.seq its n/\its.size<=sizeLine/\Vals xs its.toList
noncomputable def absV:Value->Option V
 | .none=>some .non
 | .bool b=>some (.bl b)
 | .int i _=>some (.int i)
 | .str x _=>some (.str x)
 | .bytes b _=>some (.byt b)
 | .float b _=>some (.flt b)
 | .ref a=>some (.ref a)
 | .type n=>some (.ty n)
 | _=>none
theorem RelV.abs {x:V} {u:Value} (r:RelV x u):absV u=some x:=by
 cases x with
 | non=>cases r;rfl
 | bl _=>cases r;rfl
 | int _=>obtain ⟨t,rfl⟩:=r;rfl
 | str _=>obtain ⟨t,rfl⟩:=r;rfl
 | byt _=>obtain ⟨t,rfl⟩:=r;rfl
 | flt _=>obtain ⟨t,rfl⟩:=r;rfl
 | ref _=>cases r;rfl
 | ty _=>cases r;rfl
theorem RelV.inj {x y:V} {u:Value} (r:RelV x u) (q:RelV y u):x=y:=Option.some.inj (r.abs.symm.trans q.abs)
theorem Vals.inj:∀ {xs ys:List V} {us:List Value},Vals xs us->Vals ys us->xs=ys
 | _,_,_,.nil,.nil=>rfl
 | _,_,_,.cons r t,.cons r' t'=>by rw [r.inj r',Vals.inj t t']
section
variable {X:Cx} {pins:List (Addr×Obj)} {σ:St} {H:Hp} {s:Shared} {a:Addr} {xs ys:List V}
theorem Inv.list (I:Inv X pins σ H s) (h:SqL X.K H a xs):∃ its:List Value,Vals xs its/\PlainL s.heap a its.toArray/\xs.length<=sizeLine:=by
 rcases h with h | ⟨o,its,n,hk,hc,hd,hs,hz,r⟩
 ·obtain ⟨z,its,n,r,e⟩:=h.ok I.hok
  exact ⟨its,r,⟨_,n,e,rfl,rfl,rfl⟩,z⟩
 ·refine ⟨its.toList,r,⟨o,n,I.kIn a o hk,hc,hd,by simpa using hs⟩,?_⟩
  have e:=r.length
  simp only [Array.length_toList] at e
  omega
theorem Inv.tuple (I:Inv X pins σ H s) (h:SqT X.K H a xs):∃ its:List Value,Vals xs its/\IsTup s.heap a its.toArray/\xs.length<=sizeLine:=by
 rcases h with h | ⟨o,its,n,hk,hc,hs,hz,r⟩
 ·obtain ⟨z,its,r,p⟩:=h.ok I.hok
  exact ⟨its,r,p.is,z⟩
 ·refine ⟨its.toList,r,⟨o,I.kIn a o hk,hc,n,by simpa using hs⟩,?_⟩
  have e:=r.length
  simp only [Array.length_toList] at e
  omega
theorem Inv.list_inj (I:Inv X pins σ H s) (h:SqL X.K H a xs) (h':SqL X.K H a ys):xs=ys:=by
 obtain ⟨its,r,⟨o,n,e,_,_,d⟩,_⟩:=I.list h
 obtain ⟨its',r',⟨o',n',e',_,_,d'⟩,_⟩:=I.list h'
 rw [e] at e';cases e'
 rw [d] at d'
 injection d' with d1 _
 have:its=its':=by simpa using congrArg Array.toList d1
 subst this
 exact r.inj r'
theorem Inv.tuple_inj (I:Inv X pins σ H s) (h:SqT X.K H a xs) (h':SqT X.K H a ys):xs=ys:=by
 obtain ⟨its,r,⟨o,e,_,n,d⟩,_⟩:=I.tuple h
 obtain ⟨its',r',⟨o',e',_,n',d'⟩,_⟩:=I.tuple h'
 rw [e] at e';cases e'
 rw [d] at d'
 injection d' with d1 _
 have:its=its':=by simpa using congrArg Array.toList d1
 subst this
 exact r.inj r'
end
noncomputable abbrev Cx.wish (X:Cx) (E:Value->Shared->Prop):Cx:={ X with xe:=E }
noncomputable abbrev Cx.nox (X:Cx):Cx:=X.wish λ_ _=>False
theorem Cx.Ok.wish {X:Cx} (ok:X.Ok) (E:Value->Shared->Prop):(X.wish E).Ok:=
 ⟨ok.mod,ok.kind,ok.glob,ok.blt,ok.above,ok.inj,ok.has,ok.cab,ok.hd,ok.frames,ok.stk,ok.exf,ok.bs,ok.bsz,ok.noex,ok.exfs,ok.funs,ok.frf⟩
theorem Cx.Ok.unwish {X:Cx} {E:Value->Shared->Prop} (ok:(X.wish E).Ok):X.Ok:=
 ⟨ok.mod,ok.kind,ok.glob,ok.blt,ok.above,ok.inj,ok.has,ok.cab,ok.hd,ok.frames,ok.stk,ok.exf,ok.bs,ok.bsz,ok.noex,ok.exfs,ok.funs,ok.frf⟩
section
variable {X:Cx} {pins:List (Addr×Obj)} {σ:St} {H:Hp} {s:Shared} {E:Value->Shared->Prop}
theorem Inv.wish (I:Inv X pins σ H s) (E:Value->Shared->Prop):Inv (X.wish E) pins σ H s:=⟨I.ok.wish E,I.os,I.bare,I.base,I.loc,I.cell,I.free,I.freeC,I.pin,I.hok,I.len⟩
theorem Inv.unwish (I:Inv (X.wish E) pins σ H s):Inv X pins σ H s:=⟨I.ok.unwish,I.os,I.bare,I.base,I.loc,I.cell,I.free,I.freeC,I.pin,I.hok,I.len⟩
theorem SP.unwish {D:Ends} {f:Flow} {s':Shared} (h:SP (X.wish E) pins D f s'):SP X pins D f s':=by
 cases f with
 | next=>obtain ⟨σ',H',I,q⟩:=h;exact ⟨σ',H',I.unwish,q⟩
 | brk=>obtain ⟨σ',H',I,q⟩:=h;exact ⟨σ',H',I.unwish,q⟩
 | cont=>obtain ⟨σ',H',I,q⟩:=h;exact ⟨σ',H',I.unwish,q⟩
 | ret u=>obtain ⟨v,σ',H',I,r,q⟩:=h;exact ⟨v,σ',H',I.unwish,r,q⟩
theorem PSs.nox {st:List Stmt} {t:TS} (h:PSs X.nox st t):PSs X st t:=λpins s σ H D I hw=>
 wpAny_mono (h pins s σ H D (I.wish _) hw) (λ_ _ q=>q.unwish) λ_ _ z=>False.elim z
end
section
variable {X:Cx} {st:Stmt} {rest:List Stmt} {t u:TS} {e:Expr} {te:TE} {pos:Pos}
noncomputable def tNext:TS:=λD σ H=>D.nx σ H
noncomputable def tSeq (t u:TS):TS:=λD σ H=>t { D with nx:=u D } σ H
theorem pss_nil:PSs X [] tNext:=λ_ _ σ H _ I h=>wpAny_execs_nil ⟨σ,H,I,h⟩
theorem pss_cons (h1:PS X st t) (h2:PSs X rest u):PSs X (st :: rest) (tSeq t u):=by
 intro pins s σ H D I h
 refine wpAny_execs_cons (thn (h1 pins s σ H { D with nx:=u D } I h) λf s1 q=>?_)
 cases f with
 | next=>
  obtain ⟨σ',H',I',q⟩:=q
  exact h2 pins s1 σ' H' D I' q
 | ret v=>exact q
 | brk=>exact q
 | cont=>exact q
noncomputable def tRet (te:TE):TS:=λD σ H=>te σ H D.rt
theorem ps_ret (he:PE X e te):PS X (.Return (some e) pos) (tRet te):=by
 intro pins s σ H D I h
 exact wpAny_Return_some (thn (he pins s σ H _ I h) λv s1 ⟨x,H1,I1,r1,q1⟩=>⟨x,σ,H1,I1,r1,q1⟩)
noncomputable def tIfS (c:TT) (t u:TS):TS:=λD σ H=>c σ H λb H1=>if b=true then t D σ H1 else u D σ H1
theorem ps_if {c:Expr} {a b:List Stmt} {tc:TT} (hc:PT X c tc) (ha:PSs X a t) (hb:PSs X b u):PS X (.If c a b pos) (tIfS tc t u):=by
 intro pins s σ H D I h
 refine wpAny_If (thn (hc pins s σ H _ I h) λd s1 ⟨H1,I1,q1⟩=>?_)
 cases d with
 | true=>exact ha pins s1 σ H1 D I1 q1
 | false=>exact hb pins s1 σ H1 D I1 q1
end
noncomputable abbrev TG:=V->St->Hp->(St->Hp->Prop)->Prop
noncomputable abbrev TGs:=List V->St->Hp->(St->Hp->Prop)->Prop
noncomputable def PG (X:Cx) (target:Expr) (t:TG):Prop:=
 ∀ (pins:List (Addr×Obj)) (s:Shared) (σ:St) (H:Hp) (v:V) (u:Value) (Q:St->Hp->Prop),Inv X pins σ H s->RelV v u->t v σ H Q ->
  wpAny (model X.prog X.w) X.A (assign target X.env u) (λ_ s'=>∃ σ' H',Inv X pins σ' H' s'/\Q σ' H') X.xe s
noncomputable def PGs (X:Cx) (ts:List Expr) (t:TGs):Prop:=
 ∀ (pins:List (Addr×Obj)) (s:Shared) (σ:St) (H:Hp) (vs:List V) (us:List Value) (Q:St->Hp->Prop),Inv X pins σ H s->Vals vs us->t vs σ H Q ->
  wpAny (model X.prog X.w) X.A (assignInOrder ((assignEach ts X.env).map (·.2)) us) (λ_ s'=>∃ σ' H',Inv X pins σ' H' s'/\Q σ' H') X.xe s
noncomputable abbrev TSet:=V->V->V->Hp->(Hp->Prop)->Prop
noncomputable def PSet (X:Cx) (t:TSet):Prop:=
 ∀ (pins:List (Addr×Obj)) (s:Shared) (σ:St) (H:Hp) (o i v:V) (ov iv u:Value) (Q:Hp->Prop),Inv X pins σ H s->RelV o ov->RelV i iv->RelV v u->t o i v H Q ->
  wpAny (model X.prog X.w) X.A (setItem ov iv u) (λ_ s'=>∃ H',Inv X pins σ H' s'/\Q H') X.xe s
section
variable {X:Cx} {pos:Pos}
noncomputable def gName (i:Nat):TG:=λv σ H Q=>Q (σ.set i (some v)) H
theorem pg_name {i:Nat} {x:Str} (hN:X.N.Nodup) (hi:X.N[i]?=some x) (hx:Loc X.env.scope x) (hf:X.fn x=true\/X.env.scope.names.lookup x=some .local:=by first | exact .inl rfl | exact .inr rfl | assumption):PG X (.Name x pos) (gName i):=by
 intro pins s σ H v u Q I r h
 exact wpAny_assign_Name (store_ok I hN hi hx r (λs' I'=>⟨_,H,I',h⟩) hf)
noncomputable def gNil:TGs:=λvs σ H Q=>vs=[]/\Q σ H
noncomputable def gCons (t:TG) (u:TGs):TGs:=λvs σ H Q=>∃ v r,vs=v :: r/\t v σ H λσ' H'=>u r σ' H' Q
theorem pgs_nil:PGs X [] gNil:=by
 intro pins s σ H vs us Q I r h
 obtain ⟨e,h⟩:=h
 subst e
 cases r
 exact assignInOrder_nil ⟨σ,H,I,h⟩
theorem pgs_cons {e:Expr} {es:List Expr} {t:TG} {u:TGs} (h1:PG X e t) (h2:PGs X es u)
  (hs:(assignEach (e :: es) X.env).map (·.2)=assign e X.env :: (assignEach es X.env).map (·.2):=by rfl):PGs X (e :: es) (gCons t u):=by
 intro pins s σ H vs us Q I r h
 obtain ⟨v,vr,e1,h⟩:=h
 subst e1
 cases r with
 | cons r rr=>
  rw [hs]
  refine assignInOrder_cons (thn (h1 pins s σ H _ _ _ I r h) λ_ s1 ⟨σ1,H1,I1,q1⟩=>?_)
  exact h2 pins s1 σ1 H1 _ _ Q I1 rr q1
noncomputable def gTup (K:PySem.W.Frag) (n:Nat) (t:TGs):TG:=λv σ H Q=>∃ a xs,v=.ref a/\SqT K H a xs/\xs.length=n/\t xs σ H Q
theorem pg_tup {es:List Expr} {k:Nat} {t:TGs} {n:Nat} (hc:X.calm=true) (h:PGs X es t)
  (hn:(assignEach es X.env).length=n:=by rfl) (hst:(assignEach es X.env).findIdx? (·.1)=none:=by rfl):PG X (.Tuple es k pos) (gTup X.K n t):=by
 intro pins s σ H v u Q I r hw
 obtain ⟨a,xs,e1,hq,hl,hw⟩:=hw
 subst e1
 cases r
 obtain ⟨its,rv,ht,hz⟩:=I.tuple hq
 refine assign_Tuple_tuple (I.ok.hd hc) ht (by simp [hn,<- hl,rv.length]) hst λh' hx=>?_
 have I1:Inv X pins σ H { s with heap:=h' }:=I.kept (t':=s.toks) λb o e=>hx b o (Nat.ne_of_lt (Heap.lt_size e)) e
 exact h pins _ σ H xs _ Q I1 (by simpa using rv) hw
noncomputable def gSub (to ti:TE) (t:TSet):TG:=λv σ H Q=>to σ H λo H1=>ti σ H1 λi H2=>t o i v H2 λH3=>Q σ H3
theorem pg_sub {o i:Expr} {to ti:TE} {t:TSet} (ho:PE X o to) (hi:PE X i ti) (hs:PSet X t)
  (ha:∀ v,assign (.Subscript o i pos) X.env v=(do
   let ov <- holding [v] (eval o X.env)
   let iv <- holding [v,ov] (eval i X.env)
   standAt pos
   holding [v,ov,iv] (setItem ov iv v)
   release [v,ov,iv] []):=by intro _;rfl):PG X (.Subscript o i pos) (gSub to ti t):=by
 intro pins s σ H v u Q I r h
 rw [ha]
 refine wpAny_bind (wpAny_holding (thn (ho pins s σ H _ I h) λov s1 ⟨x,H1,I1,r1,q1⟩=>?_))
 refine wpAny_bind (wpAny_holding (thn (hi pins s1 σ H1 _ I1 q1) λiv s2 ⟨y,H2,I2,r2,q2⟩=>?_))
 refine wpAny_bind (wpAny_standAt (wpAny_bind (wpAny_holding (thn (hs pins s2 σ H2 x y v ov iv u _ I2 r1 r2 r q2) λ_ s3 ⟨H3,I3,q3⟩=>?_))))
 exact wpAny_release ⟨σ,H3,I3,q3⟩
noncomputable def tAsg (te:TE) (g:TG):TS:=λD σ H=>te σ H λx H1=>g x σ H1 D.nx
theorem ps_asg {tg e:Expr} {te:TE} {g:TG} (he:PE X e te) (hg:PG X tg g) (hs:swapsWithSole [tg] e pos.line X.env=pure false:=by rfl) (hw:swappedStores [tg] e X.env=pure none:=by rfl)
  (h1:(assignEach [tg] X.env).map (·.2)=[assign tg X.env]:=by rfl):PS X (.Assign [tg] e pos) (tAsg te g):=by
 intro pins s σ H D I h
 refine wpAny_Assign_stores (thn (he pins s σ H _ I h) λv s1 ⟨x,H1,I1,r1,q1⟩=>?_) hs hw
 rw [h1]
 exact thn (hg pins s1 σ H1 x v _ I1 r1 q1) λ_ s2 q=>q
theorem ps_set {i:Nat} {x:Str} {e:Expr} {te:TE} {pos':Pos} (hN:X.N.Nodup) (hi:X.N[i]?=some x) (hx:Loc X.env.scope x) (he:PE X e te) (hs:swapsWith e (some (.Name x pos')) pos.line X.env=pure false:=by rfl) (hf:X.fn x=true\/X.env.scope.names.lookup x=some .local:=by first | exact .inl rfl | exact .inr rfl | assumption) :
  PS X (.Assign [.Name x pos'] e pos) (tAsg te (gName i)):=by
 intro pins s σ H D I h
 refine wpAny_Assign_Name (thn (he pins s σ H _ I h) λv s1 ⟨y,H1,I1,r1,q1⟩=>?_) hs
 exact store_ok I1 hN hi hx r1 (λs2 I2=>⟨_,H1,I2,q1⟩) hf
end
structure It where
 go:Nat->Hp->Prop
 yld:Nat->Hp->V->Hp->Prop
 stop:Nat->Hp->Prop
noncomputable def FpOk (X:Cx) (pins:List (Addr×Obj)) (H:Hp) (b:Addr):Prop:=
 H b=none/\b≠X.env.locals/\b∉X.fs/\(b∈X.ex\/X.s₀.heap.objs.size<=b)/\(∀ x c,X.env.cells.lookup x=some c->c≠b)/\∀ p∈X.pn++pins,p.1≠b
theorem Inv.fpOk {X:Cx} {pins:List (Addr×Obj)} {σ:St} {H H':Hp} {s:Shared} {b:Addr} (I:Inv X pins σ H s) (hb:s.heap.objs.size<=b) (hn:H' b=none):FpOk X pins H' b:=by
 refine ⟨hn,Nat.ne_of_gt (Nat.lt_of_lt_of_le I.lt hb),I.nofs hb,.inr (Nat.le_trans I.sz hb),λx c e z=>?_,λp hp z=>?_⟩
 ·obtain ⟨v,q⟩:=I.cell x c e
  exact absurd (Nat.lt_of_lt_of_le q.lt (by rw [z];exact hb)) (Nat.lt_irrefl _)
 ·exact absurd (Nat.lt_of_lt_of_le (Heap.lt_size (I.pin p hp).1) (by rw [z];exact hb)) (Nat.lt_irrefl _)
structure Turn (P:Program) (w:World) (K:PySem.W.Frag) (tg:Expr) (J:It) (fp:List Addr) (it:Addr) (tn:Nat->Heap->Prop):Prop where
 mem:it∈fp
 obj:∀ i h,tn i h->∀ b∈fp,∃ o,h.get? b=some o/\∀ v,o.data≠.cell v
 keep:∀ i h h',tn i h->(∀ b∈fp,∀ o,h.get? b=some o->h'.get? b=some o)->tn i h'
 item:∀ (X:Cx),X.prog=P->X.w=w->X.K=K->X.calm=true->∀ (i:Nat) (pins:List (Addr×Obj)) (s:Shared) (σ:St) (H:Hp) (E:Value->Shared->Prop),Inv X pins σ H s->(∀ b∈fp,FpOk X pins H b)->tn i s.heap->J.go i H ->
  wpAny (model P w) X.A (pyNext (.ref it)) (λr s1=>∃ u,r=some u /\
   wpAny (model P w) X.A (letOwnedTupleGo tg (.ref it) u) (λ_ s2=>∃ x H',Inv X pins σ H' s2/\RelV x u/\J.yld i H x H'/\tn (i+1) s2.heap/\∀ b∈fp,H' b=none) E s1) E s
 done:∀ (X:Cx),X.prog=P->X.w=w->X.K=K->X.calm=true->∀ (i:Nat) (pins:List (Addr×Obj)) (s:Shared) (σ:St) (H:Hp) (E:Value->Shared->Prop),Inv X pins σ H s->(∀ b∈fp,FpOk X pins H b)->tn i s.heap->J.stop i H ->
  wpAny (model P w) X.A (pyNext (.ref it)) (λr s1=>r=none/\Inv X pins σ H s1) E s
 self:∀ (A:Around) (i:Nat) (s:Shared) (Q:Value->Shared->Prop) (E:Value->Shared->Prop),tn i s.heap->Q (.ref it) s->wpAny (model P w) A (pyIter (.ref it)) Q E s
noncomputable abbrev TI:=St->Hp->(It->Hp->Prop)->Prop
noncomputable def PIE (X:Cx) (pins:List (Addr×Obj)) (σ:St) (tg:Expr) (R:It->Hp->Prop) (itv:Value) (s2:Shared):Prop:=
 ∃ (it:Addr) (fp:List Addr) (tn:Nat->Heap->Prop) (J:It) (H':Hp),itv=.ref it/\Inv X pins σ H' s2/\Turn X.prog X.w X.K tg J fp it tn/\tn 0 s2.heap/\(∀ b∈fp,FpOk X pins H' b)/\R J H'
noncomputable def PI (X:Cx) (tg iter:Expr) (wi:TI):Prop:=
 ∀ (pins:List (Addr×Obj)) (s:Shared) (σ:St) (H:Hp) (R:It->Hp->Prop),Inv X pins σ H s->wi σ H R ->
  wpAny (model X.prog X.w) X.A (eval iter X.env) (λv s1=>wpAny (model X.prog X.w) X.A (pyIter v) (PIE X pins σ tg R) X.xe s1) X.xe s
theorem go_of {M:Model} {A:Around} {E:Value->Shared->Prop} {s:Shared} {tg:Expr} {it:Addr} {u:Value} {o:Obj} {n:String} {vs:Array Value} {Q:Unit->Shared->Prop} (ho:s.heap.get? it=some o) (hc:o.cls=.type n) (hd:o.data=.fields vs)
  (hn:["enumerate","zip","dict_itemiterator","dict_reverseitemiterator","odict_iterator","itertools.zip_longest","itertools.pairwise"].contains n=false) (hQ:Q () s):wpAny M A (letOwnedTupleGo tg (.ref it) u) Q E s:=by
 unfold letOwnedTupleGo
 cases tg <;> first
  | exact wpAny_pure hQ
  | (cases u <;> first
    | exact wpAny_pure hQ
    | (refine wpAny_bind (wpAny_load ho ?_);rw [hc,hd];show wpAny M A (if (["enumerate","zip","dict_itemiterator","dict_reverseitemiterator","odict_iterator","itertools.zip_longest","itertools.pairwise"].contains n&&vs[0]?==some (rawInt _))=true then _ else _) Q E s;rw [if_neg (by intro h;rw [hn,Bool.false_and] at h;cases h)];exact wpAny_pure hQ))
noncomputable def Itl (K:PySem.W.Frag) (a:Addr):It:=
 ⟨λi H=>∃ xs x,SqL K H a xs/\xs[i]?=some x,λi H x H'=>H'=H/\∀ xs,SqL K H a xs->xs[i]?=some x,λi H=>∃ xs,SqL K H a xs/\xs.length<=i⟩
noncomputable def Itt (K:PySem.W.Frag) (a:Addr):It:=
 ⟨λi H=>∃ xs x,SqT K H a xs/\xs[i]?=some x,λi H x H'=>H'=H/\∀ xs,SqT K H a xs->xs[i]?=some x,λi H=>∃ xs,SqT K H a xs/\xs.length<=i⟩
noncomputable def Itr (lo:Int) (n:Nat):It:=⟨λi _=>i<n,λi H x H'=>H'=H/\x=.int (lo+i),λi _=>n<=i⟩
theorem turn_list {P:Program} {w:World} {K:PySem.W.Frag} {tg:Expr} (a it:Addr):Turn P w K tg (Itl K a) [it] it (λi h=>h.IsListIter it a i) where
 mem:=by simp
 obj:=λi h st b hb=>by
  have e:b=it:=by simpa using hb
  subst e
  obtain ⟨o,e,c,d⟩:=st
  exact ⟨o,e,λv z=>by rw [d] at z;cases z⟩
 keep:=λi h h' st k=>st.at λo e=>k it (by simp) o e
 item:=by
  intro X hP hw hK hc i pins s σ H E I hf st hg
  subst hP hw hK
  obtain ⟨xs,x,hq,hx⟩:=hg
  obtain ⟨its,rv,p,hz⟩:=I.list hq
  obtain ⟨u,hu,ru⟩:=rv.get hx
  obtain ⟨f0,f1,f2,f3,f4,f5⟩:=hf it (by simp)
  refine wpAny_pyNext_list_item st p.isList (x:=u) (by simpa using hu) λh' st' sb=>?_
  have I1:Inv X pins σ H { s with heap:=h' }:=I.turned (t':=s.toks) (λb o hb e=>(sb.2 b hb).trans e) f0 f1 f3 f4 f5
  obtain ⟨o,e,c,d⟩:=id st'
  exact ⟨u,rfl,go_of (s:={ s with heap:=h' }) e c d (by decide) ⟨x,H,I1,ru,⟨rfl,λys hy=>by rw [I.list_inj hy hq];exact hx⟩,st',λb hb=>(hf b hb).1⟩⟩
 done:=by
  intro X hP hw hK hc i pins s σ H E I hf st hg
  subst hP hw hK
  obtain ⟨xs,hq,hx⟩:=hg
  obtain ⟨its,rv,p,hz⟩:=I.list hq
  obtain ⟨f0,f1,f2,f3,f4,f5⟩:=hf it (by simp)
  have hl:=rv.length
  exact wpAny_pyNext_list_end (I.ok.hd hc) st p.isList (by simp;omega) λh' eb=>⟨rfl,I.turned (t':=s.toks) (λb o hb e=>eb b o hb e) f0 f1 f3 f4 f5⟩
 self:=λ_ _ _ _ _ st h=>wpAny_pyIter_listiter st h
theorem turn_tuple {P:Program} {w:World} {K:PySem.W.Frag} {tg:Expr} (a it:Addr):Turn P w K tg (Itt K a) [it] it (λi h=>h.IsTupleIter it a i) where
 mem:=by simp
 obj:=λi h st b hb=>by
  have e:b=it:=by simpa using hb
  subst e
  obtain ⟨o,e,c,d⟩:=st
  exact ⟨o,e,λv z=>by rw [d] at z;cases z⟩
 keep:=λi h h' st k=>st.at λo e=>k it (by simp) o e
 item:=by
  intro X hP hw hK hc i pins s σ H E I hf st hg
  subst hP hw hK
  obtain ⟨xs,x,hq,hx⟩:=hg
  obtain ⟨its,rv,p,hz⟩:=I.tuple hq
  obtain ⟨u,hu,ru⟩:=rv.get hx
  obtain ⟨f0,f1,f2,f3,f4,f5⟩:=hf it (by simp)
  refine wpAny_pyNext_tuple_item st (show s.heap.IsTuple a its.toArray from p) (x:=u) (by simpa using hu) λh' st' sb=>?_
  have I1:Inv X pins σ H { s with heap:=h' }:=I.turned (t':=s.toks) (λb o hb e=>(sb.2 b hb).trans e) f0 f1 f3 f4 f5
  obtain ⟨o,e,c,d⟩:=id st'
  exact ⟨u,rfl,go_of (s:={ s with heap:=h' }) e c d (by decide) ⟨x,H,I1,ru,⟨rfl,λys hy=>by rw [I.tuple_inj hy hq];exact hx⟩,st',λb hb=>(hf b hb).1⟩⟩
 done:=by
  intro X hP hw hK hc i pins s σ H E I hf st hg
  subst hP hw hK
  obtain ⟨xs,hq,hx⟩:=hg
  obtain ⟨its,rv,p,hz⟩:=I.tuple hq
  obtain ⟨f0,f1,f2,f3,f4,f5⟩:=hf it (by simp)
  have hl:=rv.length
  exact wpAny_pyNext_tuple_end (I.ok.hd hc) st (show s.heap.IsTuple a its.toArray from p) (by simp;omega) λh' eb=>⟨rfl,I.turned (t':=s.toks) (λb o hb e=>eb b o hb e) f0 f1 f3 f4 f5⟩
 self:=λ_ _ _ _ _ st h=>wpAny_pyIter_tupleiter st h
theorem turn_range {P:Program} {w:World} {K:PySem.W.Frag} {tg:Expr} (it:Addr) (lo:Int) (n:Nat):Turn P w K tg (Itr lo n) [it] it (λi h=>IsRangeIter h it (lo+(i:Nat) * 1) ((n:Int)-(i:Nat)) 1) where
 mem:=by simp
 obj:=λi h st b hb=>by
  have e:b=it:=by simpa using hb
  subst e
  exact ⟨_,st,λv z=>by
   have z':Data.fields _=Data.cell v:=z
   cases z'⟩
 keep:=λi h h' st k=>k it (by simp) _ st
 item:=by
  intro X hP hw hK hc i pins s σ H E I hf st hg
  subst hP hw hK
  obtain ⟨f0,f1,f2,f3,f4,f5⟩:=hf it (by simp)
  have W:=Walks.range (prog:=X.prog) (w:=X.w) (I.ok.hd hc) it lo 1 n
  refine W.item i s _ _ hg st λv h' tk hv st' kk=>?_
  obtain ⟨t,rfl⟩:=hv
  have I1:Inv X pins σ H { s with heap:=h',toks:=tk }:=I.turned (λb o hb e=>kk b o (by simpa using hb) e) f0 f1 f3 f4 f5
  refine ⟨_,rfl,go_of (s:={ s with heap:=h',toks:=tk }) (n:="range_iterator") st' rfl rfl (by decide) ⟨.int (lo+i),H,I1,⟨t,?_⟩,⟨rfl,rfl⟩,st',λb hb=>(hf b hb).1⟩⟩
  rw [Int.mul_one]
 done:=by
  intro X hP hw hK hc i pins s σ H E I hf st hg
  subst hP hw hK
  obtain ⟨f0,f1,f2,f3,f4,f5⟩:=hf it (by simp)
  exact wpAny_pyNext_range_end (I.ok.hd hc) st (by have:n<=i:=hg;omega) λh' eb=>⟨rfl,I.turned (t':=s.toks) (λb o hb e=>eb b o hb e) f0 f1 f3 f4 f5⟩
 self:=λ_ _ _ _ _ st h=>wpAny_pyIter_rangeiter st h
end L2
namespace L2
open PySem PySem.Spec PyProof.Rows
section
variable {X:Cx} {tg:Expr}
theorem range_it {pins:List (Addr×Obj)} {σ:St} {H:Hp} {s:Shared} {R:It->Hp->Prop} {E:Value->Shared->Prop} {lo hi:Int} {t u v:Tok} {tk:Nat} (I:Inv X pins σ H s) (h1:-(2 ^ 62)<=lo) (h2:lo<2 ^ 62) (h3:-(2 ^ 62)<=hi) (h4:hi<2 ^ 62)
  (q:R (Itr lo (hi-lo).toNat) H):wpAny (model X.prog X.w) X.A (pyIter (.ref s.heap.objs.size)) (PIE X pins σ tg R) E { s with heap:=s.heap.push { cls:=.type "range",data:=.fields #[.int lo t,.int hi u,.int 1 v] },toks:=tk }:=by
 refine wpAny_pyIter_range (IsRange.new ..) (small_one h1 h2 h3 h4) ?_
 have I1:Inv X pins σ H { s with heap:=s.heap.push { cls:=.type "range",data:=.fields #[.int lo t,.int hi u,.int 1 v] },toks:=tk }:=I.kept λb o e=>Heap.get?_push_of_some _ e
 refine ⟨(s.heap.push { cls:=.type "range",data:=.fields #[.int lo t,.int hi u,.int 1 v] }).objs.size,[(s.heap.push { cls:=.type "range",data:=.fields #[.int lo t,.int hi u,.int 1 v] }).objs.size],_,_,H,rfl,
  I1.kept (t':=tk) λb o e=>Heap.get?_push_of_some _ e,turn_range _ lo (hi-lo).toNat,?_,λb hb=>?_,q⟩
 ·have e1:lo+((0:Nat):Int) * 1=lo:=by simp
  have e2:(((hi-lo).toNat:Nat):Int)-((0:Nat):Int)=Builtin.Range.rangeSize lo hi 1:=by rw [rangeSize_one];split <;> omega
  show IsRangeIter _ _ (lo+((0:Nat):Int) * 1) ((((hi-lo).toNat:Nat):Int)-((0:Nat):Int)) 1
  rw [e1,e2]
  exact Heap.get?_push_size _ rfl
 ·have e:b=(s.heap.push { cls:=.type "range",data:=.fields #[.int lo t,.int hi u,.int 1 v] }).objs.size:=by simpa using hb
  subst e
  exact I1.fpOk (Nat.le_refl _) (I1.hok.fresh (Nat.le_refl _))
noncomputable def iRng1 (ta:TA):TI:=λσ H R=>ta σ H λvs H1=>∃ j:Int,vs=[.int j]/\-(2 ^ 62)<=j/\j<2 ^ 62/\R (Itr 0 j.toNat) H1
theorem pi_range1 {a:Expr} {ta:TA} {p pos:Pos} (hg:Gl X "range") (hm:X.mg "range" = none) (ha:PA X [a] ta) (hs:starEach [a] X.env=[(false,eval a X.env)]:=by rfl):PI X tg (.Call (.Name "range" p) [a] [] pos) (iRng1 ta):=by
 intro pins s σ H R I h
 refine Call_ (ld_blt I hg hm boot_range (PyProof.Rows.callWith_type1 (thn (ha pos pins s σ H _ I h) λus s1 ⟨vs,H1,I1,r1,q1⟩=>?_) hs rfl))
 obtain ⟨j,e,q1,q2,q⟩:=q1
 subst e
 cases r1 with
 | cons r rr=>
  cases rr
  obtain ⟨t,rfl⟩:=r
  exact call_range_1 (range_it I1 (by omega) (by omega) q1 q2 (by simpa using q))
noncomputable def tFor (wi:TI) (g:TG) (tb:TS):TS:=λD σ H=>wi σ H λJ H1=>∃ W:Nat->Nat->St->Hp->Prop,(∃ m,W 0 m σ H1)/\∀ i m σ H,W i m σ H ->
 (J.stop i H/\D.nx σ H)\/(J.go i H/\∃ N:St->Hp->Prop,(∀ σ' H',N σ' H'->∃ m',m'<m/\W (i+1) m' σ' H')/\∀ x H',J.yld i H x H'->g x σ H' λσ2 H2=>tb { D with nx:=N,ct:=N,bk:=D.nx } σ2 H2)
noncomputable def pinsAt (fp:List Addr) (h:Heap):List (Addr×Obj):=fp.filterMap λb=>(h.get? b).map λo=>(b,o)
theorem mem_pinsAt {fp:List Addr} {h:Heap} {b:Addr} {o:Obj} (hb:b∈fp) (e:h.get? b=some o):(b,o)∈pinsAt fp h:=List.mem_filterMap.mpr ⟨b,hb,by rw [e];rfl⟩
theorem of_pinsAt {fp:List Addr} {h:Heap} {p:Addr×Obj} (hp:p∈pinsAt fp h):p.1∈fp/\h.get? p.1=some p.2:=by
 obtain ⟨b,hb,e⟩:=List.mem_filterMap.mp hp
 cases q:h.get? b with
 | none=>rw [q] at e;cases e
 | some o=>
  rw [q] at e
  have e':(b,o)=p:=Option.some.inj e
  subst e'
  exact ⟨hb,q⟩
theorem Inv.pinned {pins:List (Addr×Obj)} {σ:St} {H:Hp} {s:Shared} {fp:List Addr} (I:Inv X pins σ H s) (hf:∀ b∈fp,FpOk X pins H b) (ho:∀ b∈fp,∃ o,s.heap.get? b=some o/\∀ v,o.data≠.cell v):Inv X (pins++pinsAt fp s.heap) σ H s:=
 I.pins_of λp hp=>(List.mem_append.mp hp).elim (λz=>I.pin p (List.mem_append_right _ z)) λz=>by
  obtain ⟨hb,e⟩:=of_pinsAt z
  obtain ⟨f0,f1,f2,_⟩:=hf p.1 hb
  obtain ⟨o,e',d⟩:=ho p.1 hb
  rw [e] at e';cases e'
  exact ⟨e,f0,f1,f2,d⟩
theorem Inv.unpinned {pins pl:List (Addr×Obj)} {σ:St} {H:Hp} {s:Shared} (I:Inv X (pins++pl) σ H s):Inv X pins σ H s:=I.pins_of λp hp=>I.pin p (List.mem_append_right _ (List.mem_append_left _ hp))
theorem ps_for {iter:Expr} {body:List Stmt} {wi:TI} {g:TG} {tb:TS} {pos:Pos} (hp:PassesOwn (model X.prog X.w) X.A X.env X.xe) (hc:X.calm=true) (hi:PI X tg iter wi) (hg:PG X tg g) (hb:PSs X body tb)
  (hs:∀ x,foldedSetIterable iter X.env x=pure x:=by intro _;rfl):PS X (.For tg iter body [] pos) (tFor wi g tb):=by
 intro pins s σ H D I h
 refine wpAny_For (thn (hi pins s σ H _ I h) λv s1 h1=>thn h1 λitv s2 h2=>?_) hs
 obtain ⟨it,fp,tn,J,H2,e,I2,T,st2,f2,W,⟨m0,w0⟩,turn⟩:=h2
 subst e
 have stat:∀ {H':Hp},(∀ b∈fp,H' b=none)->∀ b∈fp,FpOk X pins H' b:=λhn b hb=>⟨hn b hb,(f2 b hb).2⟩
 refine codeAny_forLoop_any (λn s'=>∃ i σ' H',Inv X pins σ' H' s'/\tn i s'.heap/\(∀ b∈fp,H' b=none)/\W i n σ' H') ?_ m0 ⟨0,σ,H2,I2,st2,λb hb=>(f2 b hb).1,w0⟩
 rintro n s3 ⟨i,σ3,H3,I3,st3,fr3,w3⟩
 rcases turn i n σ3 H3 w3 with ⟨stop,qn⟩ | ⟨go,N,hN,step⟩
 ·refine wpAny_passesOwn hp (thn (T.done X rfl rfl rfl hc i pins s3 σ3 H3 X.xe I3 (stat fr3) st3 stop) λr s4 ⟨hr,I4⟩=>?_)
  subst hr
  exact wpAny_execs_nil ⟨σ3,H3,I4,qn⟩
 ·refine wpAny_passesOwn hp (thn (T.item X rfl rfl rfl hc i pins s3 σ3 H3 X.xe I3 (stat fr3) st3 go) λr s4 ⟨u,hr,h4⟩=>?_)
  subst hr
  refine wpAny_passesOwn hp (thn h4 λ_ s5 ⟨x,H5,I5,r5,y5,st5,fr5⟩=>?_)
  have I5':=I5.pinned (stat fr5) (T.obj _ _ st5)
  refine wpAny_passesOwn hp (thn (hg _ s5 σ3 H5 x u _ I5' r5 (step x H5 y5)) λ_ s6 ⟨σ6,H6,I6,q6⟩=>?_)
  refine wpAny_passesOwn hp (thn (hb _ s6 σ6 H6 _ I6 q6) λf s7 q7=>?_)
  have again:∀ {σ7:St} {H7:Hp},Inv X (pins++pinsAt fp s5.heap) σ7 H7 s7->N σ7 H7->∃ m,m<n/\∃ i σ' H',Inv X pins σ' H' s7/\tn i s7.heap/\(∀ b∈fp,H' b=none)/\W i m σ' H':=λ{σ7 H7} I7 n7=>by
   obtain ⟨m',hm,w7⟩:=hN σ7 H7 n7
   refine ⟨m',hm,i+1,σ7,H7,I7.unpinned,T.keep _ _ _ st5 λb hb o e=>(I7.pin (b,o) (List.mem_append_right _ (List.mem_append_right _ (mem_pinsAt hb e)))).1,λb hb=>?_,w7⟩
   obtain ⟨o,e,d⟩:=T.obj _ _ st5 b hb
   exact (I7.pin (b,o) (List.mem_append_right _ (List.mem_append_right _ (mem_pinsAt hb e)))).2.1
  cases f with
  | next=>obtain ⟨σ7,H7,I7,n7⟩:=q7;exact again I7 n7
  | cont=>obtain ⟨σ7,H7,I7,n7⟩:=q7;exact again I7 n7
  | brk=>obtain ⟨σ7,H7,I7,q7⟩:=q7;exact ⟨σ7,H7,I7.unpinned,q7⟩
  | ret v=>obtain ⟨x7,σ7,H7,I7,r7,q7⟩:=q7;exact ⟨x7,σ7,H7,I7.unpinned,r7,q7⟩
end
end L2
namespace L2
open PySem PySem.Spec PyProof.Rows
noncomputable abbrev R2:=V->V->Hp->VK->Prop
noncomputable def OpR (X:Cx) (f:Value->Value->Sem Value) (r:R2):Prop:=
 ∀ (pins:List (Addr×Obj)) (s:Shared) (σ:St) (H:Hp) (x y:V) (v u:Value) (Q:VK),Inv X pins σ H s->RelV x v->RelV y u->r x y H Q ->
  wpAny (model X.prog X.w) X.A (f v u) (EP X pins σ Q) X.xe s
noncomputable def UnR (X:Cx) (f:Value->Sem Value) (r:V->Hp->VK->Prop):Prop:=
 ∀ (pins:List (Addr×Obj)) (s:Shared) (σ:St) (H:Hp) (x:V) (v:Value) (Q:VK),Inv X pins σ H s->RelV x v->r x H Q ->
  wpAny (model X.prog X.w) X.A (f v) (EP X pins σ Q) X.xe s
noncomputable def CallR (X:Cx) (f:Value) (r:List V->Hp->VK->Prop):Prop:=
 ∀ (pins:List (Addr×Obj)) (s:Shared) (σ:St) (H:Hp) (xs:List V) (us:List Value) (Q:VK),Inv X pins σ H s->Vals xs us->r xs H Q ->
  wpAny (model X.prog X.w) X.A (call f us) (EP X pins σ Q) X.xe s
noncomputable def tOp (r:R2) (ta tb:TE):TE:=λσ H Q=>ta σ H λx H1=>tb σ H1 λy H2=>r x y H2 Q
noncomputable def tUn (r:V->Hp->VK->Prop) (ta:TE):TE:=λσ H Q=>ta σ H λx H1=>r x H1 Q
noncomputable def rI (C:Int->Int->Prop) (g:Int->Int->V):R2:=λx y H Q=>∃ i j,x=.int i/\y=.int j/\C i j/\Q (g i j) H
noncomputable def rI0 (g:Int->Int->V):R2:=λx y H Q=>∃ i j,x=.int i/\y=.int j/\Q (g i j) H
noncomputable def rU (g:Int->V):V->Hp->VK->Prop:=λx H Q=>∃ i,x=.int i/\Q (g i) H
section
variable {X:Cx} {a b c:Expr} {ta tb tc:TE} {pos:Pos}
theorem binT (ha:PE X a ta) (hb:PE X b tb) {pins:List (Addr×Obj)} {s:Shared} {σ:St} {H:Hp} {R:V->V->Hp->Prop} (I:Inv X pins σ H s)
  (h:ta σ H λx H1=>tb σ H1 λy H2=>R x y H2) {Q:Value->Shared->Prop} {f:Value->Value->Sem Value}
  (hf:∀ v u s2 x y H2,Inv X pins σ H2 s2->RelV x v->RelV y u->R x y H2->wpAny (model X.prog X.w) X.A (f v u) Q X.xe s2) :
  wpAny (model X.prog X.w) X.A (eval a X.env) (λv s₁=>wpAny (model X.prog X.w) X.A (eval b X.env) (λu s₂=>wpAny (model X.prog X.w) X.A (f v u) Q X.xe s₂) X.xe s₁) X.xe s:=by
 refine thn (ha pins s σ H _ I h) λv s1 ⟨x,H1,I1,r1,q1⟩=>?_
 refine thn (hb pins s1 σ H1 _ I1 q1) λu s2 ⟨y,H2,I2,r2,q2⟩=>?_
 exact hf v u s2 x y H2 I2 r1 r2 q2
theorem pe_op {op:Operator} {r:R2} (ho:OpR X (binaryOp op) r) (ha:PE X a ta) (hb:PE X b tb):PE X (.BinOp a op b pos) (tOp r ta tb):=by
 intro pins s σ H Q I h
 exact wpAny_BinOp (binT ha hb I h λv u s2 x y H2 I2 rx ry q=>ho pins s2 σ H2 x y v u Q I2 rx ry q)
theorem pe_un {op:UnaryOp} {r:V->Hp->VK->Prop} (ho:UnR X (unaryOp op) r) (ha:PE X a ta):PE X (.UnaryOp op a pos) (tUn r ta):=by
 intro pins s σ H Q I h
 exact UnaryOp_ (thn (ha pins s σ H _ I h) λv s1 ⟨x,H1,I1,r1,q1⟩=>ho pins s1 σ H1 x v Q I1 r1 q1)
theorem opI {f:Value->Value->Sem Value} {C:Int->Int->Prop} {g:Int->Int->Int}
  (rule:∀ (i j:Int) (t u:Tok) (s:Shared) (Q:Value->Shared->Prop) (E:Value->Shared->Prop),C i j->Q (.int (g i j) s.toks) { s with toks:=s.toks+1 }->wpAny (model X.prog X.w) X.A (f (.int i t) (.int j u)) Q E s) :
  OpR X f (rI C λi j=>.int (g i j)):=by
 intro pins s σ H x y v u Q I rx ry h
 obtain ⟨i,j,rfl,rfl,hc,q⟩:=h
 obtain ⟨t,rfl⟩:=rx
 obtain ⟨t',rfl⟩:=ry
 exact rule i j t t' s _ _ hc ⟨.int (g i j),H,I.tok _,⟨_,rfl⟩,q⟩
theorem opI0 {f:Value->Value->Sem Value} {g:Int->Int->Int}
  (rule:∀ (i j:Int) (t u:Tok) (s:Shared) (Q:Value->Shared->Prop) (E:Value->Shared->Prop),Q (.int (g i j) s.toks) { s with toks:=s.toks+1 }->wpAny (model X.prog X.w) X.A (f (.int i t) (.int j u)) Q E s) :
  OpR X f (rI0 λi j=>.int (g i j)):=by
 intro pins s σ H x y v u Q I rx ry h
 obtain ⟨i,j,rfl,rfl,q⟩:=h
 obtain ⟨t,rfl⟩:=rx
 obtain ⟨t',rfl⟩:=ry
 exact rule i j t t' s _ _ ⟨.int (g i j),H,I.tok _,⟨_,rfl⟩,q⟩
theorem opB0 {f:Value->Value->Sem Value} {g:Int->Int->Bool}
  (rule:∀ (i j:Int) (t u:Tok) (s:Shared) (Q:Value->Shared->Prop) (E:Value->Shared->Prop),Q (.bool (g i j)) s->wpAny (model X.prog X.w) X.A (f (.int i t) (.int j u)) Q E s) :
  OpR X f (rI0 λi j=>.bl (g i j)):=by
 intro pins s σ H x y v u Q I rx ry h
 obtain ⟨i,j,rfl,rfl,q⟩:=h
 obtain ⟨t,rfl⟩:=rx
 obtain ⟨t',rfl⟩:=ry
 exact rule i j t t' s _ _ ⟨.bl (g i j),H,I,rfl,q⟩
noncomputable def CDiv (i j:Int):Prop:=0<j/\j<1073741824
noncomputable def CPow (i j:Int):Prop:=0<=j/\j<=1000000/\i.natAbs<2 ^ 64
noncomputable def CMul (i j:Int):Prop:=(-(2 ^ 64)<i/\i<2 ^ 64)\/(-(2 ^ 64)<j/\j<2 ^ 64)
theorem CMul.ok {i j:Int} (h:CMul i j):IntMulOk i j:=by
 rcases h with ⟨h1,h2⟩ | ⟨h1,h2⟩
 ·exact .of_left (intBits_le_64 h1 h2)
 ·exact .of_right (intBits_le_64 h1 h2)
theorem op_add:OpR X (binaryOp .Add) (rI0 λi j=>.int (i+j)):=opI0 λ_ _ _ _ _ _ _ q=>add_int q
theorem op_sub:OpR X (binaryOp .Sub) (rI0 λi j=>.int (i-j)):=opI0 λ_ _ _ _ _ _ _ q=>sub_int q
theorem op_mul:OpR X (binaryOp .Mult) (rI CMul λi j=>.int (i * j)):=opI λ_ _ _ _ _ _ _ hc q=>mul_int q hc.ok
theorem op_fdiv:OpR X (binaryOp .FloorDiv) (rI CDiv λi j=>.int (i / j)):=opI λi j _ _ _ _ _ hc q=>by
 have h1:(0:Int)<j:=hc.1
 have h2:j<1073741824:=hc.2
 exact floordiv_int (by omega) (by rw [Int.fdiv_eq_ediv_of_nonneg i (by omega)];exact q) (.inl (PyProof.noPylong_small (by omega)))
theorem op_mod:OpR X (binaryOp .Mod) (rI (λ_ j=>0<j) λi j=>.int (i % j)):=opI λi j _ _ _ _ _ hc q=>by
 have h1:(0:Int)<j:=hc
 exact mod_int' (by omega) (by rw [Int.fmod_eq_emod_of_nonneg i (by omega)];exact q)
theorem op_pow:OpR X (binaryOp .Pow) (rI CPow λi j=>.int (i ^ j.toNat)):=opI λ_ _ _ _ _ _ _ hc q=>pow_int_small hc.1 hc.2.1 hc.2.2 q
theorem unI {f:Value->Sem Value} {g:Int->Int}
  (rule:∀ (i:Int) (t:Tok) (s:Shared) (Q:Value->Shared->Prop) (E:Value->Shared->Prop),Q (.int (g i) s.toks) { s with toks:=s.toks+1 }->wpAny (model X.prog X.w) X.A (f (.int i t)) Q E s) :
  UnR X f (rU λi=>.int (g i)):=by
 intro pins s σ H x v Q I rx h
 obtain ⟨i,rfl,q⟩:=h
 obtain ⟨t,rfl⟩:=rx
 exact rule i t s _ _ ⟨.int (g i),H,I.tok _,⟨_,rfl⟩,q⟩
theorem un_neg:UnR X (unaryOp .USub) (rU λi=>.int (-i)):=unI λ_ _ _ _ _ q=>neg_int q
end
noncomputable def scal:V->V->Bool
 | .non,.non=>true | .non,.int _=>true | .int _,.non=>true | .non,.bl _=>true | .bl _,.non=>true | .non,.str _=>true | .str _,.non=>true
 | .int _,.int _=>true | .bl _,.bl _=>true | .str _,.str _=>true | .byt _,.byt _=>true
 | .int _,.str _=>true | .str _,.int _=>true | .bl _,.str _=>true | .str _,.bl _=>true
 | _,_=>false
noncomputable def rEq:R2:=λx y H Q=>scal x y=true/\Q (.bl (decide (x=y))) H
noncomputable def rNe:R2:=λx y H Q=>scal x y=true/\Q (.bl (!decide (x=y))) H
theorem dec_int {i j:Int}:decide (V.int i=V.int j)=(i==j):=by
 rw [Bool.eq_iff_iff]
 simp
theorem dec_bl {i j:Bool}:decide (V.bl i=V.bl j)=(i==j):=by
 rw [Bool.eq_iff_iff]
 simp
theorem dec_str {i j:Str}:decide (V.str i=V.str j)=(i==j):=by
 rw [Bool.eq_iff_iff]
 simp
theorem dec_byt {i j:Array UInt8}:decide (V.byt i=V.byt j)=(i.toList==j.toList):=by
 rw [Bool.eq_iff_iff]
 cases i
 cases j
 simp
section
variable {X:Cx} {a b c:Expr} {ta tb tc:TE} {pos:Pos}
theorem fin_bl {pins:List (Addr×Obj)} {σ:St} {H:Hp} {s:Shared} {Q:VK} {k k':Bool} (I:Inv X pins σ H s) (q:Q (.bl k) H) (e:k=k'):EP X pins σ Q (.bool k') s:=by
 subst e
 exact ⟨.bl k,H,I,rfl,q⟩
theorem op_eq:OpR X (compareOp .Eq) rEq:=by
 intro pins s σ H x y v u Q I rx ry h
 obtain ⟨hs,q⟩:=h
 cases x with
 | non=>
  cases rx
  cases y with
  | non=>cases ry;exact PySem.EqNone.eq_none_none (fin_bl I q (by simp))
  | bl j=>cases ry;exact PySem.EqNone.eq_none_bool (fin_bl I q (by simp))
  | int j=>obtain ⟨t',rfl⟩:=ry;exact PySem.EqNone.eq_none_int (fin_bl I q (by simp))
  | str j=>obtain ⟨t',rfl⟩:=ry;exact PySem.EqNone.eq_none_str (fin_bl I q (by simp))
  | _=>exact absurd (show false=true from hs) Bool.false_ne_true
 | bl i=>
  cases rx
  cases y with
  | non=>cases ry;exact PySem.EqNone.eq_bool_none (fin_bl I q (by simp))
  | bl j=>cases ry;exact eq_bool (fin_bl I q dec_bl)
  | str j=>obtain ⟨t',rfl⟩:=ry;exact PySem.EqMixed.eq_bool_str (fin_bl I q (by simp))
  | _=>exact absurd (show false=true from hs) Bool.false_ne_true
 | int i=>
  obtain ⟨t,rfl⟩:=rx
  cases y with
  | non=>cases ry;exact PySem.EqNone.eq_int_none (fin_bl I q (by simp))
  | int j=>obtain ⟨t',rfl⟩:=ry;exact eq_int (fin_bl I q dec_int)
  | str j=>obtain ⟨t',rfl⟩:=ry;exact PySem.EqMixed.eq_int_str (fin_bl I q (by simp))
  | _=>exact absurd (show false=true from hs) Bool.false_ne_true
 | str i=>
  obtain ⟨t,rfl⟩:=rx
  cases y with
  | non=>cases ry;exact PySem.EqNone.eq_str_none (fin_bl I q (by simp))
  | bl j=>cases ry;exact PySem.EqMixed.eq_str_bool (fin_bl I q (by simp))
  | int j=>obtain ⟨t',rfl⟩:=ry;exact PySem.EqMixed.eq_str_int (fin_bl I q (by simp))
  | str j=>obtain ⟨t',rfl⟩:=ry;exact eq_str (fin_bl I q dec_str)
  | _=>exact absurd (show false=true from hs) Bool.false_ne_true
 | byt i=>
  obtain ⟨t,rfl⟩:=rx
  cases y with
  | byt j=>obtain ⟨t',rfl⟩:=ry;exact PySem.W.eq_bytes (fin_bl I q dec_byt)
  | _=>exact absurd (show false=true from hs) Bool.false_ne_true
 | _=>cases y <;> exact absurd (show false=true from hs) Bool.false_ne_true
theorem op_ne:OpR X (compareOp .NotEq) rNe:=by
 intro pins s σ H x y v u Q I rx ry h
 obtain ⟨hs,q⟩:=h
 cases x with
 | non=>
  cases rx
  cases y with
  | non=>cases ry;exact PySem.EqNone.ne_none_none (fin_bl I q (by simp))
  | bl j=>cases ry;exact PySem.EqNone.ne_none_bool (fin_bl I q (by simp))
  | int j=>obtain ⟨t',rfl⟩:=ry;exact PySem.EqNone.ne_none_int (fin_bl I q (by simp))
  | str j=>obtain ⟨t',rfl⟩:=ry;exact PySem.EqNone.ne_none_str (fin_bl I q (by simp))
  | _=>exact absurd (show false=true from hs) Bool.false_ne_true
 | bl i=>
  cases rx
  cases y with
  | non=>cases ry;exact PySem.EqNone.ne_bool_none (fin_bl I q (by simp))
  | bl j=>cases ry;exact ne_bool (fin_bl I q (congrArg not dec_bl))
  | str j=>obtain ⟨t',rfl⟩:=ry;exact PySem.EqMixed.ne_bool_str (fin_bl I q (by simp))
  | _=>exact absurd (show false=true from hs) Bool.false_ne_true
 | int i=>
  obtain ⟨t,rfl⟩:=rx
  cases y with
  | non=>cases ry;exact PySem.EqNone.ne_int_none (fin_bl I q (by simp))
  | int j=>obtain ⟨t',rfl⟩:=ry;exact ne_int (fin_bl I q (congrArg not dec_int))
  | str j=>obtain ⟨t',rfl⟩:=ry;exact PySem.EqMixed.ne_int_str (fin_bl I q (by simp))
  | _=>exact absurd (show false=true from hs) Bool.false_ne_true
 | str i=>
  obtain ⟨t,rfl⟩:=rx
  cases y with
  | non=>cases ry;exact PySem.EqNone.ne_str_none (fin_bl I q (by simp))
  | bl j=>cases ry;exact PySem.EqMixed.ne_str_bool (fin_bl I q (by simp))
  | int j=>obtain ⟨t',rfl⟩:=ry;exact PySem.EqMixed.ne_str_int (fin_bl I q (by simp))
  | str j=>obtain ⟨t',rfl⟩:=ry;exact ne_str (fin_bl I q (congrArg not dec_str))
  | _=>exact absurd (show false=true from hs) Bool.false_ne_true
 | byt i=>
  obtain ⟨t,rfl⟩:=rx
  cases y with
  | byt j=>obtain ⟨t',rfl⟩:=ry;exact PySem.W.ne_bytes (fin_bl I q (congrArg not dec_byt))
  | _=>exact absurd (show false=true from hs) Bool.false_ne_true
 | _=>cases y <;> exact absurd (show false=true from hs) Bool.false_ne_true
theorem op_lt:OpR X (compareOp .Lt) (rI0 λi j=>.bl (decide (i<j))):=opB0 λ_ _ _ _ _ _ _ q=>lt_int q
theorem op_le:OpR X (compareOp .LtE) (rI0 λi j=>.bl (decide (i<=j))):=opB0 λ_ _ _ _ _ _ _ q=>le_int q
theorem op_gt:OpR X (compareOp .Gt) (rI0 λi j=>.bl (decide (j<i))):=opB0 λ_ _ _ _ _ _ _ q=>gt_int q
theorem op_ge:OpR X (compareOp .GtE) (rI0 λi j=>.bl (decide (j<=i))):=opB0 λ_ _ _ _ _ _ _ q=>ge_int q
theorem pe_cmpR {op:CmpOp} {r:R2} (ho:OpR X (compareOp op) r) (ha:PE X a ta) (hb:PE X b tb) (hm:behindInMarks op b=false):PE X (.Compare a [op] [b] pos) (tOp r ta tb):=by
 intro pins s σ H Q I h
 exact wpAny_Compare1 (binT ha hb I h λv u s2 x y H2 I2 rx ry q=>ho pins s2 σ H2 x y v u Q I2 rx ry q) hm
noncomputable def tTest (t:TE):TT:=λσ H Q=>t σ H λx H'=>∃ k,x=.bl k/\Q k H'
theorem pt_cmpR {op:CmpOp} {r:R2} (ho:OpR X (compareOp op) r) (ha:PE X a ta) (hb:PE X b tb) (hm:behindInMarks op b=false):PT X (.Compare a [op] [b] pos) (tTest (tOp r ta tb)):=by
 intro pins s σ H Q I h
 refine wpAny_isTrue_Compare1 (thn (ha pins s σ H _ I h) λv s1 ⟨x,H1,I1,r1,q1⟩=>thn (hb pins s1 σ H1 _ I1 q1) λu s2 ⟨y,H2,I2,r2,q2⟩=>
  thn (ho pins s2 σ H2 x y v u _ I2 r1 r2 q2) λc s3 ⟨z,H3,I3,r3,k,e,q3⟩=>?_) hm
 subst e
 cases r3
 exact wpAny_truthy_bool ⟨H3,I3,q3⟩
theorem line63:(sizeLine:Nat)<2 ^ 63:=by rw [sizeLine_eq];decide
theorem op_add_str:OpR X (binaryOp .Add) (λx y H Q=>∃ i j,x=.str i/\y=.str j/\i.length+j.length<=sizeLine/\Q (.str (i++j)) H):=by
 intro pins s σ H x y v u Q I rx ry h
 obtain ⟨i,j,rfl,rfl,hz,q⟩:=h
 obtain ⟨t,rfl⟩:=rx
 obtain ⟨t',rfl⟩:=ry
 exact add_str (λt' tk=>⟨.str (i++j),H,I.tok _,⟨_,rfl⟩,q⟩) hz
theorem vals1 {x:V} {us:List Value} (r:Vals [x] us):∃ u,us=[u]/\RelV x u:=by
 cases r with
 | cons r1 r2=>cases r2;exact ⟨_,rfl,r1⟩
theorem vals2 {x y:V} {us:List Value} (r:Vals [x,y] us):∃ u w',us=[u,w']/\RelV x u/\RelV y w':=by
 cases r with
 | cons r1 r2=>
  cases r2 with
  | cons r3 r4=>cases r4;exact ⟨_,_,rfl,r1,r3⟩
end
end L2
namespace L2
open PySem PySem.Spec PyProof.Rows
theorem RelO.some_of {v:V} {o:Option Value} (r:RelO (some v) o):∃ u,o=some u/\RelV v u:=by
 cases o with
 | none=>exact (show False from r).elim
 | some u=>exact ⟨u,rfl,r⟩
noncomputable def NoAttr (K:PySem.W.Frag) (C:Addr) (f:Str):Prop:=PySem.W.findIn K (.ref C) f=some none
end L2
namespace L2
open PySem PySem.Spec PyProof.Rows
structure Room (q:Bool) (k:Nat) (A:Around):Prop where
 hd:q=false->A.handled=none
 dp:A.depth+3 * k+5<recursionLimit
 un:A.units+16 * k+200<cLine
 gd:A.guards=some []
theorem Room.any {q:Bool} {k:Nat} {A:Around} (r:Room false k A):Room q k A:=⟨λ_=>r.hd rfl,r.dp,r.un,r.gd⟩
theorem Room.deeper {q:Bool} {k:Nat} {A:Around} (r:Room q (k+1) A) (env:Env):Room q k (A.deeper env):=
 ⟨r.hd,by have:=r.dp;show A.depth+1+3 * k+5<_;omega,by have:=r.un;show A.units+3+16 * k+200<_;omega,r.gd⟩
theorem Room.depth {q:Bool} {k:Nat} {A:Around} (r:Room q k A):A.depth<recursionLimit:=by have:=r.dp;omega
theorem Room.units {q:Bool} {k:Nat} {A:Around} (r:Room q k A):A.units+64<cLine:=by have:=r.un;omega
noncomputable def tNil:TA:=λ_ H Q=>Q [] H
noncomputable def tCons (ta:TE) (tr:TA):TA:=λσ H Q=>ta σ H λx H1=>tr σ H1 λxs H2=>Q (x :: xs) H2
section
variable {X:Cx} {e:Expr} {es:List Expr} {te:TE} {t:TA} {pos:Pos}
theorem pa_nil:PA X [] tNil:=λ_ _ _ _ H Q I h=>Calls.spliced_nil ⟨[],H,I,.nil,h⟩
theorem pa_cons (ha:PE X e te) (hr:PA X es t) (hs:starEach (e :: es) X.env=(false,eval e X.env) :: starEach es X.env:=by rfl):PA X (e :: es) (tCons te t):=by
 intro pos pins s σ H Q I h
 rw [hs]
 show wpAny _ _ (spliced ((false,eval e X.env) :: backTo pos (starEach es X.env))) _ _ s
 refine Calls.spliced_cons (thn (ha pins s σ H _ I h) λu s1 ⟨x,H1,I1,r1,q1⟩=>?_)
 exact thn (hr pos pins s1 σ H1 _ I1 q1) λus s2 ⟨xs,H2,I2,r2,q2⟩=>⟨x :: xs,H2,I2,.cons r1 r2,q2⟩
noncomputable def tTup (t:TA):TE:=λσ H Q=>t σ H λxs H1=>xs.length<=sizeLine/\∀ p,H1 p=none->Q (.ref p) (upd H1 p (.tup xs))
noncomputable def tLst (t:TA):TE:=λσ H Q=>t σ H λxs H1=>xs.length<=sizeLine/\∀ p,H1 p=none->Q (.ref p) (upd H1 p (.lst xs))
theorem pe_tup {x1} (h:PA X es t):PE X (.Tuple es x1 pos) (tTup t):=by
 intro pins s σ H Q I hq
 refine wpAny_Tuple_spliced (thn (h pos pins s σ H _ I hq) λus s1 ⟨xs,H1,I1,r,z,q⟩=>⟨by rw [<- r.length];exact z,?_⟩)
 have hf:H1 s1.heap.objs.size=none:=I1.hok.fresh (Nat.le_refl _)
 refine ⟨.ref s1.heap.objs.size,upd H1 s1.heap.objs.size (.tup xs),I1.laid (t':=s1.toks) (λb u e=>Heap.get?_push_of_some _ e) (Nat.le_refl _) ?_,rfl,q _ hf⟩
 exact ⟨z,us,r,⟨_,Heap.get?_push_size _ rfl,rfl,_,rfl,rfl⟩⟩
theorem pe_lst (h:PA X es t):PE X (.List es pos) (tLst t):=by
 intro pins s σ H Q I hq
 refine wpAny_List_spliced (thn (h pos pins s σ H _ I hq) λus s1 ⟨xs,H1,I1,r,z,q⟩=>⟨by rw [<- r.length];exact z,?_⟩)
 have hf:H1 s1.heap.objs.size=none:=I1.hok.fresh (Nat.le_refl _)
 refine ⟨.ref s1.heap.objs.size,upd H1 s1.heap.objs.size (.lst xs),I1.laid (t':=s1.toks) (λb u e=>Heap.get?_push_of_some _ e) (Nat.le_refl _) ?_,rfl,q _ hf⟩
 exact ⟨z,us,0,r,Heap.get?_push_size _ rfl⟩
end
noncomputable abbrev Sp:=List V->Hp->VK->XK->Prop
structure CXT where
 cx:List Env->Hp->Shared->XK->Value->Shared->Prop
 q:Bool
instance:CoeFun CXT λ_=>List Env->Hp->Shared->XK->Value->Shared->Prop:=⟨CXT.cx⟩
structure Env0 (P:Program) (w:World) (K:PySem.W.Frag) (mg:Str->Option Value) (base:Heap) (A:Around) (outer:List Env) (s:Shared) (H:Hp):Prop where
 frames:A.frames=some outer
 mod:Mod K mg base
 bs:∀ b o,base.get? b=some o->s.heap.get? b=some o/\H b=none
 bsz:base.objs.size<=s.heap.objs.size
 funs:s.heap.FunFrames base outer
 frf:∀ b∈frs outer,H b=none
 hok:HOk P w H s.heap
 bare:AllBare s.gens
noncomputable def CE (outer:List Env) (P:Program) (w:World) (H:Hp) (s:Shared) (Q:VK) (u:Value) (s':Shared):Prop:=
 ∃ v H',s'.os=s.os/\AllBare s'.gens/\Un (frs outer) [] H H' s.heap s'.heap/\HOk P w H' s'.heap/\RelV v u/\Q v H'
noncomputable def CR (CX:CXT) (outer:List Env) (P:Program) (w:World) (H:Hp) (s:Shared) (Q:VK) (E:XK) (r:Result) (s':Shared):Prop:=
 match r with
 | .ok (.ret u)=>CE outer P w H s Q u s'
 | .ok _=>False
 | .error e=>CX outer H s E e s'
structure FnOk (P:Program) (w:World) (K:PySem.W.Frag) (mg:Str->Option Value) (base:Heap) (CX:CXT) (k:Nat) (f:Addr) (fd:FuncData) (ps:List Str) (sp:Sp):Prop where
 len:∀ vs H Q E,sp vs H Q E->vs.length=ps.length
 run:∀ (A:Around) (outer:List Env) (s:Shared) (H:Hp) (args:Args) (us:List Value) (vs:List V) (Q:VK) (E:XK),Room CX.q k A->Env0 P w K mg base A outer s H->BindsTo s fd args (ps.zip us)->Vals vs us->sp vs H Q E ->
  codeAny (model P w) A (.call (.ref f) args) (CR CX outer P w H s Q E) s
theorem FnOk.imp {P:Program} {w:World} {K:PySem.W.Frag} {mg:Str->Option Value} {base:Heap} {CX:CXT} {k:Nat} {f:Addr} {fd:FuncData} {ps:List Str} {sp sp':Sp} (F:FnOk P w K mg base CX k f fd ps sp)
  (h:∀ vs H Q E,sp' vs H Q E->sp vs H Q E):FnOk P w K mg base CX k f fd ps sp':=
 ⟨λvs H Q E q=>F.len vs H Q E (h _ _ _ _ q),λA outer s H args us vs Q E hr he hb hv hs=>F.run A outer s H args us vs Q E hr he hb hv (h _ _ _ _ hs)⟩
section
variable {X:Cx} {pins:List (Addr×Obj)} {σ:St} {H:Hp} {s s':Shared}
theorem Inv.env0 (I:Inv X pins σ H s):Env0 X.prog X.w X.K X.mg X.base X.A X.stack s H:=
 ⟨I.ok.frames,I.ok.mod,I.bs,Nat.le_trans I.ok.bsz I.sz,I.stack,I.stkFree,I.hok,I.bare⟩
theorem Inv.after {Q:VK} {u:Value} (I:Inv X pins σ H s) (h:CE X.stack X.prog X.w H s Q u s'):EP X pins σ Q u s':=by
 obtain ⟨v,H',os,bare,un,hok,r,q⟩:=h
 obtain ⟨hh,g,d,t,os'⟩:=s'
 obtain rfl:os'=s.os:=os
 exact ⟨v,H',I.call (h':=hh) (g':=g) (d':=d) (t':=t) (ch:=[]) un hok bare (λb z=>absurd z (by simp)),r,q⟩
end
noncomputable def tCall (sp:Sp) (dvs:List V) (E:XK) (t:TA):TE:=λσ H Q=>t σ H λvs H1=>sp (vs++dvs) H1 Q E
noncomputable def Binds (K:PySem.W.Frag) (fd:FuncData) (ps:List Str) (ds:List Value):Prop:=
 ∀ (s:Shared) (us:List Value),K.In s.heap->(us++ds).length=ps.length->BindsTo s fd ⟨us,[]⟩ (ps.zip (us++ds))
theorem Binds.all {K:PySem.W.Frag} {fd:FuncData} {ps:List Str} (h:∀ us:List Value,us.length=ps.length->bindArgs fd ⟨us,[]⟩=pure (ps.zip us)):Binds K fd ps []:=λs us _ hl=>by
 rw [List.append_nil] at hl ⊢
 exact .of_eq (h us hl)
noncomputable def Passes (CX:CXT) (X:Cx) (E:XK):Prop:=∀ (pins:List (Addr×Obj)) (σ:St) (H:Hp) (s:Shared) (e:Value) (s':Shared),Inv X pins σ H s->CX X.stack H s E e s'->X.xe e s'
section
variable {X:Cx} {CX:CXT} {k:Nat} {f C:Addr} {fd:FuncData} {ps:List Str} {sp:Sp} {dvs:List V} {ds:List Value} {E:XK} {x m:Str} {p pos apos:Pos} {e o:Expr} {es:List Expr} {ta:TE} {t:TA}
theorem run_fn {pins:List (Addr×Obj)} {σ:St} {H:Hp} {s:Shared} {Q:VK} {us:List Value} {vs:List V} (F:FnOk X.prog X.w X.K X.mg X.base CX k f fd ps sp) (hr:Room CX.q k X.A) (hb:Binds X.K fd ps ds) (hd:Vals dvs ds) (hx:Passes CX X E)
  (I:Inv X pins σ H s) (r:Vals vs us) (h:sp (vs++dvs) H Q E):wpAny (model X.prog X.w) X.A (call (.ref f) us) (EP X pins σ Q) X.xe s:=by
 have r2:Vals (vs++dvs) (us++ds):=r.append hd
 have hl:(us++ds).length=ps.length:=by rw [<- r2.length];exact F.len _ _ _ _ h
 refine wpAny_call (codeAny_mono (F.run X.A X.stack s H ⟨us,[]⟩ (us++ds) (vs++dvs) Q E hr I.env0 (hb s us I.kIn hl) r2 h) λr s' hq=>?_)
 cases r with
 | error e=>exact hx pins σ H s e s' I hq
 | ok fl=>
  cases fl with
  | ret u=>exact I.after hq
  | next=>exact False.elim hq
  | brk=>exact False.elim hq
  | cont=>exact False.elim hq
theorem pe_call (F:FnOk X.prog X.w X.K X.mg X.base CX k f fd ps sp) (hr:Room CX.q k X.A) (hg:Gl X x) (hm:X.mg x=some (.ref f)) (hk:PySem.W.keepIn X.K (.ref f)=true) (hb:Binds X.K fd ps ds) (hd:Vals dvs ds) (hx:Passes CX X E)
  (ha:PA X (e :: es) t) (hdb:(x==("__debug__" : Str))=false:=by decide) (he:starEach (e :: es) X.env=(false,eval e X.env) :: starEach es X.env:=by rfl) (hpl:(backTo pos (starEach es X.env)).any (·.1)=false:=by rfl) :
  PE X (.Call (.Name x p) (e :: es) [] pos) (tCall sp dvs E t):=by
 intro pins s σ H Q I h
 refine wpAny_Call_Name_kw (ld_glob I hg hm ?_ hdb)
 refine PySem.W.callWith_K (h₀:=X.base) I.ok.mod.kin hk (thn (ha pos pins s σ H _ I h) λus s1 ⟨vs,H1,I1,r,q⟩=>⟨I1.kIn,?_⟩) he hpl
 exact run_fn F hr hb hd hx I1 r q
theorem pe_call0 (F:FnOk X.prog X.w X.K X.mg X.base CX k f fd ps sp) (hr:Room CX.q k X.A) (hg:Gl X x) (hm:X.mg x=some (.ref f)) (hk:PySem.W.keepIn X.K (.ref f)=true) (hb:Binds X.K fd ps ds) (hd:Vals dvs ds) (hx:Passes CX X E)
  (hdb:(x==("__debug__" : Str))=false:=by decide):PE X (.Call (.Name x p) [] [] pos) (tCall sp dvs E tNil):=by
 intro pins s σ H Q I h
 refine wpAny_Call_Name_kw (ld_glob I hg hm ?_ hdb)
 exact PySem.W.callWith_K0 I.kIn hk (run_fn (us:=[]) F hr hb hd hx I .nil h)
end
structure FnScope (N P:List Str) (sc:Scope):Prop where
 kind:sc.kind=.function
 co:sc.isCoroutine=false
 gen:sc.isGenerator=false
 nd:N.Nodup
 pre:N.take P.length=P
 par:∀ x∈P,sc.names.lookup x=some .local\/sc.names.lookup x=some .cell
 nofree:∀ y∈sc.names,y.2≠.free
theorem bindL_out {kindOf:Str->Option NameKind} {x:Str}:∀ {binds:List (Str×Value)} {m:Str->Option Value},(∀ v,(x,v)∉binds)->bindL kindOf binds m x=m x
 | [],_,_=>rfl
 | (n,v) :: r,m,h=>by
  unfold bindL
  rw [bindL_out λw hw=>h w (List.mem_cons_of_mem _ hw)]
  split
  ·have:x≠n:=by rintro rfl;exact h v List.mem_cons_self
   simp [this]
  ·rfl
theorem bindC_out {kindOf:Str->Option NameKind} {x:Str}:∀ {binds:List (Str×Value)} {m:Str->Option Value},(∀ v,(x,v)∉binds)->bindC kindOf binds m x=m x
 | [],_,_=>rfl
 | (n,v) :: r,m,h=>by
  unfold bindC
  rw [bindC_out λw hw=>h w (List.mem_cons_of_mem _ hw)]
  split
  ·rfl
  ·have:x≠n:=by rintro rfl;exact h v List.mem_cons_self
   simp [this]
theorem bindL_get {kindOf:Str->Option NameKind} {x:Str} {v:Value}:∀ {P:List Str} {vs:List Value} {i:Nat} {m:Str->Option Value},P.Nodup->P[i]?=some x->vs[i]?=some v->kindOf x=some .local ->
  bindL kindOf (P.zip vs) m x=some v
 | [],_,_,_,_,h,_,_=>by simp at h
 | _ :: _,[],_,_,_,_,h,_=>by simp at h
 | p :: P,w :: vs,0,m,nd,h1,h2,hk=>by
  simp at h1 h2;subst h1;subst h2
  show bindL kindOf ((p,w) :: P.zip vs) m p=_
  unfold bindL
  rw [bindL_out λv hv=>(List.nodup_cons.mp nd).1 (List.of_mem_zip hv).1,if_pos hk]
  simp
 | p :: P,w :: vs,i+1,m,nd,h1,h2,hk=>by
  show bindL kindOf ((p,w) :: P.zip vs) m x=_
  unfold bindL
  exact bindL_get (i:=i) (List.nodup_cons.mp nd).2 (by simpa using h1) (by simpa using h2) hk
theorem bindC_get {kindOf:Str->Option NameKind} {x:Str} {v:Value}:∀ {P:List Str} {vs:List Value} {i:Nat} {m:Str->Option Value},P.Nodup->P[i]?=some x->vs[i]?=some v->kindOf x≠some .local ->
  bindC kindOf (P.zip vs) m x=some v
 | [],_,_,_,_,h,_,_=>by simp at h
 | _ :: _,[],_,_,_,_,h,_=>by simp at h
 | p :: P,w :: vs,0,m,nd,h1,h2,hk=>by
  simp at h1 h2;subst h1;subst h2
  show bindC kindOf ((p,w) :: P.zip vs) m p=_
  unfold bindC
  rw [bindC_out λv hv=>(List.nodup_cons.mp nd).1 (List.of_mem_zip hv).1,if_neg hk]
  simp
 | p :: P,w :: vs,i+1,m,nd,h1,h2,hk=>by
  show bindC kindOf ((p,w) :: P.zip vs) m x=_
  unfold bindC
  exact bindC_get (i:=i) (List.nodup_cons.mp nd).2 (by simpa using h1) (by simpa using h2) hk
noncomputable def start (N:List Str) (vs:List V):St:=vs.map some++List.replicate (N.length-vs.length) none
noncomputable def cxOf (CX:CXT) (P:Program) (w:World) (K:PySem.W.Frag) (mg:Str->Option Value) (base:Heap) (N:List Str) (qual:Str) (scope:Scope) (f:Addr) (cd:Value) (A:Around) (outer:List Env) (s:Shared) (H:Hp) (E:XK):Cx where
 prog:=P
 w:=w
 K:=K
 mg:=mg
 base:=base
 A:=A.deeper (envOfC qual scope s.heap.objs.size f cd)
 N:=N
 s₀:=s
 H₀:=H
 env:=envOfC qual scope s.heap.objs.size f cd
 outer:=outer
 stack:=envOfC qual scope s.heap.objs.size f cd :: outer
 ex:=[]
 calm:=!CX.q
 fn:=λ_=>true
 pn:=[]
 xe:=λe s'=>wpAny (model P w) (A.deeper (envOfC qual scope s.heap.objs.size f cd)) (leaving (envOfC qual scope s.heap.objs.size f cd) e) (λ_ s''=>CX outer H s E e s'') (λe' s''=>CX outer H s E e' s'') s'
theorem cell_has {sc:Scope} {n:Nat} {x:Str} (h:sc.names.lookup x=some .cell):∃ c,(cellsFrom n sc.names []).lookup x=some c:=by
 have q:=PySem.W.cellsFrom_some sc.names n [] (.inl h)
 exact Option.isSome_iff_exists.mp q
theorem inv_start {CX:CXT} {P:Program} {w:World} {K:PySem.W.Frag} {mg:Str->Option Value} {base:Heap} {N ps:List Str} {qual:Str} {scope:Scope} {f:Addr} {cd:Value} {A:Around} {outer:List Env} {s s1:Shared} {H:Hp} {E:XK} {us:List Value} {vs:List V}
  (S:FnScope N ps scope) (hd:CX.q=false->A.handled=none) (e0:Env0 P w K mg base A outer s H) (hl:vs.length=ps.length) (r:Vals vs us)
  (x:InCallC s s.heap.objs.size (bindL (envOfC qual scope s.heap.objs.size f cd).kindOf (ps.zip us) λ_=>none) (cellsFrom (s.heap.objs.size+1) scope.names []) (bindC (envOfC qual scope s.heap.objs.size f cd).kindOf (ps.zip us) λ_=>none) s1) :
  Inv (cxOf CX P w K mg base N qual scope f cd A outer s H E) [] (start N vs) H s1:=by
 have hpl:ps.length<=N.length:=by have:=congrArg List.length S.pre;rw [List.length_take] at this;omega
 obtain ⟨h1,tk,rfl,hk⟩:=x.done
 have noA:∀ b:Addr,b∉(cxOf CX P w K mg base N qual scope f cd A outer s H E).ex:=λb z=>absurd (show b∈([]:List Addr) from z) (by simp)
 refine ⟨⟨e0.mod,S.kind,rfl,rfl,Nat.le_refl _,λy z c h1 h2=>?_,λy hy=>?_,λy c _ h=>?_,λz=>hd (by have z:(!CX.q)=true:=z;simpa using z),Around.frames_deeper e0.frames,.inr ⟨rfl,rfl⟩,λb z=>absurd z (noA b),e0.bs,e0.bsz,λb _ _=>noA b,λb z=>absurd z (noA b),e0.funs,e0.frf⟩,
  rfl,e0.bare,Un.kept hk,⟨_,x.toInCall.ns,λi y v h1 h2 h3=>?_⟩,λy c h=>⟨_,x.cell y c h⟩,e0.hok.fresh (Nat.le_refl _),λy c h=>?_,λp hp=>absurd (show p∈([]:List (Addr×Obj)) from hp) (by simp),e0.hok.kept hk,?_⟩
 ·exact name_of_addr x.apart (PySem.mem_of_lookup h1) (PySem.mem_of_lookup h2)
 ·have hy:scope.names.lookup y=some .cell\/scope.names.lookup y=some .free:=hy
  rcases hy with hy | hy
  ·exact cell_has hy
  ·exact absurd rfl (S.nofree _ (PySem.mem_of_lookup hy))
 ·exact Nat.le_of_lt (x.above y c (PySem.mem_of_lookup h))
 ·have hi:i<vs.length:=by
   unfold start at h2
   by_cases hi:i<vs.length
   ·exact hi
   ·rw [List.getElem?_append_right (by simpa using hi)] at h2
    rw [List.getElem?_replicate] at h2
    split at h2 <;> cases h2
  have ha:vs[i]?=some v:=by
   unfold start at h2
   rw [List.getElem?_append_left (by simpa using hi),List.getElem?_map] at h2
   cases e:vs[i]? with
   | none=>rw [e] at h2;cases h2
   | some a=>rw [e] at h2;cases h2;rfl
  obtain ⟨u,hu,rv⟩:=r.get ha
  have hp:ps[i]?=some y:=by
   rw [<- S.pre,List.getElem?_take_of_lt (by omega)];exact h1
  have ndP:ps.Nodup:=by rw [<- S.pre];exact S.nd.sublist (List.take_sublist _ _)
  refine ⟨u,rv,?_⟩
  rcases S.par y (List.mem_of_getElem? hp) with k | k
  ·exact .inl ⟨k,bindL_get ndP hp hu k⟩
  ·obtain ⟨c,e⟩:=cell_has (n:=s.heap.objs.size+1) k
   refine .inr ⟨.inl k,c,e,?_⟩
   have q:=x.cell y c e
   rw [bindC_get ndP hp hu (by show scope.names.lookup y≠_;rw [k];decide)] at q
   exact q
 ·exact e0.hok.fresh (Nat.le_of_lt (x.above y c (PySem.mem_of_lookup h)))
 ·unfold start
  show _=N.length
  rw [List.length_append,List.length_map,List.length_replicate]
  omega
theorem fn_of {CX:CXT} {P:Program} {w:World} {K:PySem.W.Frag} {mg:Str->Option Value} {base:Heap} {k:Nat} {f:Addr} {name qual:Str} {params:Arguments} {body:List Stmt} {scope:Scope} {dV kV doc pm cdv ct oc:Value} {an od:Option Addr}
  {osl:Array (Option Value)} {N ps:List Str} {sp:Sp} (lk:K.lookup f=some ⟨oc,od,.func (PySem.W.fnOf name qual params body scope dV kV doc pm an cdv ct),osl⟩) (hcd:PySem.W.codeIn K cdv qual=true) (S:FnScope N ps scope)
  (len:∀ vs H Q E,sp vs H Q E->vs.length=ps.length)
  (hbody:∀ (A:Around) (outer:List Env) (s:Shared) (H:Hp) (vs:List V) (Q:VK) (E:XK),Room CX.q k (A.deeper (envOfC qual scope s.heap.objs.size f cdv))->sp vs H Q E ->
   ∃ t,PSs (cxOf CX P w K mg base N qual scope f cdv A outer s H E) body t/\t { nx:=λ_ H'=>Q .non H',rt:=Q } (start N vs) H) :
  FnOk P w K mg base CX (k+1) f (PySem.W.fnOf name qual params body scope dV kV doc pm an cdv ct) ps sp:=by
 refine ⟨len,λA outer s H args us vs Q E hr e0 hb r hsp=>?_⟩
 have hl:=len _ _ _ _ hsp
 have KX:K.In s.heap:=e0.mod.kin.keeps λb o e=>(e0.bs b o e).1
 have lim:s.heap.NoLimit:=e0.mod.nolimit.keeps λb o e=>(e0.bs b o e).1
 have hkind:∀ y∈ps.zip us,scope.names.lookup y.1=some .local\/(scope.names.lookup y.1=some .cell/\((cellsFrom (s.heap.objs.size+1) scope.names []).lookup y.1).isSome=true):=λ⟨n,v⟩ hy=>by
  rcases S.par n (List.of_mem_zip hy).1 with q | q
  ·exact .inl q
  ·exact .inr ⟨q,PySem.W.cellsFrom_some _ _ _ (.inl q)⟩
 refine codeAny_call_function hr.depth (KX _ _ lk) rfl S.co S.gen rfl (PySem.W.codeRec_of KX hcd) (hb _ _ _ _ ?_)
 refine wpAny_newFunctionEnv_cells S.kind hkind λenv he s1 x=>?_
 subst he
 refine ⟨lim.keeps x.toInCall.keep,codeAny_func ?_⟩
 obtain ⟨t,ht,hq⟩:=hbody A outer s H vs Q E (hr.deeper _) hsp
 have I:Inv (cxOf CX P w K mg base N qual scope f cdv A outer s H E) [] (start N vs) H s1:=inv_start S hr.hd e0 hl r x
 refine wpAny_mono (ht [] s1 (start N vs) H _ I hq) (λfl s' hs=>?_) λe s' hs=>hs
 have fin:∀ {σ':St} {H':Hp} {v:V} {u:Value},Inv (cxOf CX P w K mg base N qual scope f cdv A outer s H E) [] σ' H' s'->RelV v u->Q v H'->CE outer P w H s Q u s':=
  λ{σ' H' v u} J rv q=>⟨v,H',J.os,J.bare,J.base,J.hok,rv,q⟩
 cases fl with
 | ret u=>
  obtain ⟨v,σ',H',J,rv,q⟩:=hs
  exact fin J rv q
 | next=>
  obtain ⟨σ',H',J,q⟩:=hs
  exact fin (v:=V.non) (u:=Value.none) J rfl q
 | brk=>
  obtain ⟨_,_,_,q⟩:=hs
  exact False.elim q
 | cont=>
  obtain ⟨_,_,_,q⟩:=hs
  exact False.elim q
end L2
namespace L2
open PySem PySem.Spec PyProof.Rows
section
variable {X:Cx} {x:Str} {p pos:Pos} {e:Expr} {es:List Expr} {t:TA} {id T:String} {r:List V->Hp->VK->Prop}
noncomputable def tCB (r:List V->Hp->VK->Prop) (t:TA):TE:=λσ H Q=>t σ H λvs H1=>r vs H1 Q
theorem pe_callB (hc:CallR X (.builtin id) r) (hg:Gl X x) (hm:X.mg x=none) (hv:bootBuiltins x=some (.builtin id)) (ha:PA X (e :: es) t) (hn:x ≠ "__name__":=by decide) (hdb:(x==("__debug__" : Str))=false:=by decide)
  (he:starEach (e :: es) X.env=(false,eval e X.env) :: starEach es X.env:=by rfl) (hpl:(backTo pos (starEach es X.env)).any (·.1)=false:=by rfl):PE X (.Call (.Name x p) (e :: es) [] pos) (tCB r t):=by
 intro pins s σ H Q I h
 refine wpAny_Call_Name_kw (ld_blt I hg hm hv ?_ hn hdb)
 exact PyProof.Rows.callWith_builtin1 (thn (ha pos pins s σ H _ I h) λus s1 ⟨vs,H1,I1,r1,q1⟩=>hc pins s1 σ H1 vs us Q I1 r1 q1) he hpl
theorem pe_callTy (hc:CallR X (.type T) r) (hg:Gl X x) (hm:X.mg x=none) (hv:bootBuiltins x=some (.type T)) (ha:PA X (e :: es) t) (hn:x ≠ "__name__":=by decide) (hdb:(x==("__debug__" : Str))=false:=by decide)
  (he:starEach (e :: es) X.env=(false,eval e X.env) :: starEach es X.env:=by rfl) (hpl:(backTo pos (starEach es X.env)).any (·.1)=false:=by rfl):PE X (.Call (.Name x p) (e :: es) [] pos) (tCB r t):=by
 intro pins s σ H Q I h
 refine wpAny_Call_Name_kw (ld_blt I hg hm hv ?_ hn hdb)
 exact PyProof.Rows.callWith_type1 (thn (ha pos pins s σ H _ I h) λus s1 ⟨vs,H1,I1,r1,q1⟩=>hc pins s1 σ H1 vs us Q I1 r1 q1) he hpl
end
end L2
namespace HT
open PySem PyProof.Rows
section
open PySem.SeqAt
open PySem.AutoSeq1 (wpAny_loadPart')
open PySem.MeetsSeq PySem.MeetsSeq2 PySem.MeetsSeq3
end
section
variable {prog:Program} {w:World} {A:Around} {E:Value->Shared->Prop} {s:Shared}
theorem cat_tup {t b:Addr} {vs ws:List Value} {Q:Value->Shared->Prop} (ht:IsTup s.heap t vs.toArray) (hb:IsTup s.heap b ws.toArray) (hv:vs≠[])
  (h1:ws=[]->Q (.ref t) s) (h2:ws≠[]->Q (.ref s.heap.objs.size) { s with heap:=s.heap.push { cls:=.type "tuple",data:=.seq (vs++ws).toArray } })
  (hsz:vs.length+ws.length<=sizeLine):wpAny (model prog w) A (binaryOp .Add (.ref t) (.ref b)) Q E s:=by
 obtain ⟨⟨cls,dd,data,sl⟩,ho,hc,n,hd⟩:=id ht
 obtain ⟨⟨cls2,dd2,data2,sl2⟩,ho2,hc2,n2,hd2⟩:=id hb
 simp only at hc hd hc2 hd2
 subst hc hd hc2 hd2
 have e:vs.toArray++ws.toArray=(vs++ws).toArray:=by simp
 by_cases hw:ws=[]
 ·exact concat_meets ⟨_,ho,rfl⟩ ⟨_,ho2,rfl⟩ noFill_tuple_add seq_tuple_add PySem.F.slot_tuple_add PySem.F.entry_tuple_add (PySem.F.args_tuple_add_2 _ _)
   (tuple_addW1 t b vs.toArray ws.toArray n n2 dd dd2 sl sl2 (by simpa using hv) (by simp [hw])) ⟨ho,ho2,h1 hw⟩
 ·refine concat_meets ⟨_,ho,rfl⟩ ⟨_,ho2,rfl⟩ noFill_tuple_add seq_tuple_add PySem.F.slot_tuple_add PySem.F.entry_tuple_add (PySem.F.args_tuple_add_2 _ _)
   (tuple_addW2 t b vs.toArray ws.toArray n n2 dd dd2 sl sl2 (by simpa using hv) (by simpa using hw) (by rw [List.size_toArray,List.size_toArray];exact hsz)) ⟨ho,ho2,?_⟩
  rw [e]
  exact h2 hw
noncomputable def sIx (n d:Nat):Option Int->Nat
 | none=>d
 | some v=>if v<0 then (v+(n:Int)).toNat else min v.toNat n
theorem sIx_le (n d:Nat) (hd:d<=n) (o:Option Int):sIx n d o<=n:=by
 cases o with
 | none=>exact hd
 | some v=>
  show (if v<0 then (v+(n:Int)).toNat else min v.toNat n)<=n
  by_cases hv:v<0
  ·rw [if_pos hv];omega
  ·rw [if_neg hv];exact Nat.min_le_right _ _
theorem clip_eq (v:Int) (n d:Nat):(if v<0 then max (v+(n:Int)) 0 else min v (n:Int))=((sIx n d (some v):Nat):Int):=by
 show (if v<0 then max (v+(n:Int)) 0 else min v (n:Int))=(((if v<0 then (v+(n:Int)).toNat else min v.toNat n):Nat):Int)
 by_cases hv:v<0
 ·simp only [if_pos hv];omega
 ·simp only [if_neg hv];omega
theorem adjust_gen (lo hi:Option Int) (n:Nat):Builtin.Slice.sliceAdjust lo hi 1 (n:Int)=(((sIx n 0 lo:Nat):Int),((sIx n n hi:Nat):Int)):=by
 have h1:¬ ((1:Int)<0):=by omega
 unfold Builtin.Slice.sliceAdjust
 simp only [h1,if_false]
 refine Prod.ext ?_ ?_
 ·cases lo with
  | none=>rfl
  | some v=>exact clip_eq v n 0
 ·cases hi with
  | none=>rfl
  | some v=>exact clip_eq v n n
theorem places_gen (i j:Nat):Builtin.Slice.slicePlaces (i:Int) (j:Int) 1=j-i:=by
 unfold Builtin.Slice.slicePlaces
 have h1:(1:Int) > 0:=by omega
 simp only [h1,if_true,Int.ediv_one]
 split <;> omega
theorem slicePart_ {v:Value} {o:Option Int} {Q:Option Int->Shared->Prop} (p:IsPart v o) (h:Q o s):wpAny (model prog w) A (Builtin.Slice.slicePartIndex v) Q E s:=by
 cases p with
 | none=>exact slicePart_none h
 | int i t=>exact slicePart_int h
theorem sliceApplied_gen {sl:Addr} {vl vu:Value} {lo hi:Option Int} {n:Nat} {Q:Int×Int×Nat->Shared->Prop} (hs:s.heap.IsSliceOf sl vl vu .none) (pl:IsPart vl lo) (pu:IsPart vu hi)
  (h:Q (((sIx n 0 lo:Nat):Int),1,sIx n n hi-sIx n 0 lo) s):wpAny (model prog w) A (Builtin.Slice.sliceApplied (.ref sl) (pure (n:Int))) Q E s:=by
 obtain ⟨os,hos,hcs,hds⟩:=id hs
 unfold Builtin.Slice.sliceApplied Builtin.Slice.sliceFields
 refine wpAny_bind (wpAny_bind (wpAny_field hos hds (x:=vl) rfl (wpAny_bind (wpAny_field hos hds (x:=vu) rfl (wpAny_bind (wpAny_field hos hds (x:=.none) rfl (wpAny_pure ?_)))))))
 refine wpAny_bind (slicePart_none ?_)
 show wpAny _ _ (if ((1:Int)==0)=true then _ else _) _ _ s
 rw [if_neg (by decide)]
 refine wpAny_bind (slicePart_ pl (wpAny_bind (slicePart_ pu (wpAny_bind (wpAny_pure ?_)))))
 show wpAny _ _ (match Builtin.Slice.sliceAdjust lo hi 1 (n:Int) with | (lo,hi)=>pure (lo,(1:Int),Builtin.Slice.slicePlaces lo hi 1)) _ _ s
 rw [adjust_gen lo hi n]
 show wpAny _ _ (pure (((sIx n 0 lo:Nat):Int),(1:Int),Builtin.Slice.slicePlaces ((sIx n 0 lo:Nat):Int) ((sIx n n hi:Nat):Int) 1)) _ _ s
 rw [places_gen]
 exact wpAny_pure h
theorem pick_gen (xs:Array Value) (i k:Nat):((List.range k).filterMap λ(m:Nat)=>xs[((i:Int)+(m:Int) * 1).toNat]?).toArray=((xs.toList.drop i).take k).toArray:=by
 have e:(λ(m:Nat)=>xs[((i:Int)+(m:Int) * 1).toNat]?)=λm=>xs[i+m]?:=by
  funext m
  have:((i:Int)+(m:Int) * 1).toNat=i+m:=by omega
  rw [this]
 rw [e]
 have:=pick_run xs i k
 rw [List.filterMap_map] at this
 have e2:((λx=>xs[x]?) ∘ λx=>i+x)=λm=>xs[i+m]?:=rfl
 rw [e2] at this
 rw [this]
theorem getItem_tuple_cut {t sl:Addr} {items:Array Value} {vl vu:Value} {lo hi:Option Int} {Q:Value->Shared->Prop} (ht:IsTup s.heap t items) (hs:s.heap.IsSliceOf sl vl vu .none) (pl:IsPart vl lo) (pu:IsPart vu hi)
  (hw:¬ (sIx items.size 0 lo=0/\sIx items.size items.size hi=items.size))
  (h:Q (.ref s.heap.objs.size) { s with heap:=s.heap.push { cls:=.type "tuple",data:=.seq ((items.toList.drop (sIx items.size 0 lo)).take (sIx items.size items.size hi-sIx items.size 0 lo)).toArray } })
  (hsz:items.size<=sizeLine):wpAny (model prog w) A (getItem (.ref t) (.ref sl)) Q E s:=by
 have htake:sizeOk (.seq ((items.toList.drop (sIx items.size 0 lo)).take (sIx items.size items.size hi-sIx items.size 0 lo)).toArray):=by
  show ((items.toList.drop (sIx items.size 0 lo)).take (sIx items.size items.size hi-sIx items.size 0 lo)).toArray.size<=sizeLine
  rw [List.size_toArray,List.length_take,List.length_drop,Array.length_toList]
  omega
 have hj:sIx items.size items.size hi<=items.size:=sIx_le _ _ (Nat.le_refl _) hi
 obtain ⟨os,hos,hcs,hds⟩:=id hs
 have hTs:s.TypeIs (.ref sl) "slice":=⟨os,hos,hcs⟩
 unfold getItem
 try with_reducible refine wpAny_holding ?_
 first | refine wpAny_bind (wpAny_pure ?_) | skip
 refine wpAny_bind (wpAny_sequenceKey ht.typeIs (by decide) ?_)
 refine wpAny_bind (wpAny_callSpecial?_slot (name:=Str.ofString "__getitem__") ht.typeIs PyProof.Rows.slot_tuple_getitem
  (wpAny_call_entry PyProof.Rows.slot_tuple_getitem ht.typeIs entry_tuple_getitem ?_ (args_tuple_getitem _ _)))
 show wpAny _ _ (Builtin.Tuple.tupleItemsOf (.ref t) >>= _) _ _ s
 refine wpAny_bind (tupleItemsOf_ ht ?_)
 refine wpAny_bind (wpAny_typeOf hTs ?_)
 rw [if_pos (by decide)]
 refine wpAny_bind (sliceApplied_gen hs pl pu ?_)
 have hno:¬ ((((sIx items.size 0 lo:Nat):Int)==0&&(1:Int)==1&&(sIx items.size items.size hi-sIx items.size 0 lo)==items.size)=true):=by
  intro q
  rw [Bool.and_eq_true,Bool.and_eq_true] at q
  have q1:((sIx items.size 0 lo:Nat):Int)=0:=eq_of_beq q.1.1
  have q2:sIx items.size items.size hi-sIx items.size 0 lo=items.size:=eq_of_beq q.2
  exact hw ⟨by omega,by omega⟩
 show wpAny _ _ (if (((sIx items.size 0 lo:Nat):Int)==0&&(1:Int)==1&&(sIx items.size items.size hi-sIx items.size 0 lo)==items.size)=true then _ else _) _ _ s
 rw [if_neg hno,pick_gen]
 first
  | exact wpAny_bind (m:=Builtin.Tuple.tupleExact _) (wpAny_newObj_type (wpAny_pure ⟨_,rfl,wpAny_pure h⟩) htake)
  | exact wpAny_bind (m:=Builtin.Tuple.tupleExact _) (wpAny_newObj_type (wpAny_bind (wpAny_pure (wpAny_pure ⟨_,rfl,wpAny_pure h⟩))) htake)
  | exact wpAny_bind (wpAny_bind (m:=Builtin.Tuple.tupleExact _) (wpAny_newObj_type (wpAny_pure (wpAny_pure ⟨_,rfl,wpAny_pure h⟩)) htake))
  | exact wpAny_bind (wpAny_bind (m:=Builtin.Tuple.tupleExact _) (wpAny_newObj_type (wpAny_pure ⟨_,rfl,wpAny_pure h⟩) htake))
end
end HT
namespace L2
open PySem PySem.Spec PyProof.Rows
noncomputable abbrev TO:=St->Hp->(Option Int->Hp->Prop)->Prop
noncomputable def PO (X:Cx) (e:Option Expr) (t:TO):Prop:=
 ∀ (pins:List (Addr×Obj)) (s:Shared) (σ:St) (H:Hp) (Q:Option Int->Hp->Prop),Inv X pins σ H s->t σ H Q ->
  wpAny (model X.prog X.w) X.A (evalPart e X.env) (λu s'=>∃ o H',Inv X pins σ H' s'/\IsPart u o/\Q o H') X.xe s
noncomputable def tNoPart:TO:=λ_ H Q=>Q none H
noncomputable def tPart (t:TE):TO:=λσ H Q=>t σ H λx H1=>∃ i,x=.int i/\Q (some i) H1
section
variable {X:Cx} {e:Expr} {te:TE} {lo hi:Option Expr} {tl th:TO} {pos p2:Pos}
theorem po_none:PO X none tNoPart:=by
 intro pins s σ H Q I h
 rw [evalPart_none]
 exact wpAny_pure ⟨none,H,I,.none,h⟩
theorem po_some (h:PE X e te):PO X (some e) (tPart te):=by
 intro pins s σ H Q I hw
 rw [evalPart_some]
 refine thn (h pins s σ H _ I hw) λu s1 ⟨x,H1,I1,r1,q1⟩=>?_
 obtain ⟨i,rfl,q⟩:=q1
 obtain ⟨t,rfl⟩:=r1
 exact ⟨some i,H1,I1,.int i t,q⟩
noncomputable def SlR (X:Cx) (r:V->Option Int->Option Int->Hp->VK->Prop):Prop:=
 ∀ (pins:List (Addr×Obj)) (s:Shared) (σ:St) (H:Hp) (x:V) (v vl vu:Value) (lo hi:Option Int) (sl:Addr) (Q:VK),Inv X pins σ H s->RelV x v->s.heap.IsSliceOf sl vl vu .none->IsPart vl lo->IsPart vu hi->r x lo hi H Q ->
  ∃ T id,typeLookup (.type T) "__getitem__" = pure (some (.builtin id))/\s.TypeIs v T/\wpAny (model X.prog X.w) X.A (getItem v (.ref sl)) (EP X pins σ Q) X.xe s
noncomputable def tSl (r:V->Option Int->Option Int->Hp->VK->Prop) (te:TE) (tl th:TO):TE:=λσ H Q=>te σ H λx H1=>tl σ H1 λl H2=>th σ H2 λu H3=>r x l u H3 Q
theorem pe_slice {r:V->Option Int->Option Int->Hp->VK->Prop} (hr:SlR X r) (he:PE X e te) (hl:PO X lo tl) (hu:PO X hi th):PE X (.Subscript e (.Slice lo hi none p2) pos) (tSl r te tl th):=by
 intro pins s σ H Q I h
 refine Subscript_ (thn (he pins s σ H _ I h) λv s1 ⟨x,H1,I1,r1,q1⟩=>?_)
 refine wpAny_Slice (thn (hl pins s1 σ H1 _ I1 q1) λvl s2 ⟨l,H2,I2,pl,q2⟩=>thn (hu pins s2 σ H2 _ I2 q2) λvu s3 ⟨u,H3,I3,pu,q3⟩=>?_)
 rw [evalPart_none]
 refine wpAny_pure ?_
 have I4:Inv X pins σ H3 { s3 with heap:=s3.heap.push { cls:=.type "slice",data:=.fields #[vl,vu,.none] } }:=I3.kept (t':=s3.toks) λb ob q=>Heap.get?_push_of_some _ q
 obtain ⟨T,id,hT,ht,hg⟩:=hr pins { s3 with heap:=s3.heap.push { cls:=.type "slice",data:=.fields #[vl,vu,.none] } } σ H3 x v vl vu l u s3.heap.objs.size Q I4 r1 (Heap.IsSliceOf.new ..) pl pu q3
 show wpAny (model X.prog X.w) X.A (subscriptTail e (.Slice lo hi none p2) v (.ref s3.heap.objs.size)) (EP X pins σ Q) X.xe { s3 with heap:=s3.heap.push { cls:=.type "slice",data:=.fields #[vl,vu,.none] } }
 exact tail_any (ops:=[.ref s3.heap.objs.size,v]) ht hT hg (by with_unfolding_all rfl)
noncomputable def cutV (xs:List V) (lo hi:Option Int):List V:=(xs.drop (HT.sIx xs.length 0 lo)).take (HT.sIx xs.length xs.length hi-HT.sIx xs.length 0 lo)
theorem cutV_length (xs:List V) (lo hi:Option Int):(cutV xs lo hi).length<=xs.length:=by
 unfold cutV
 rw [List.length_take,List.length_drop]
 omega
noncomputable def rSlT (K:PySem.W.Frag):V->Option Int->Option Int->Hp->VK->Prop:=λx lo hi H Q=>∃ a xs,x=.ref a/\SqT K H a xs /\
 ¬ (HT.sIx xs.length 0 lo=0/\HT.sIx xs.length xs.length hi=xs.length)/\∀ p,H p=none->Q (.ref p) (upd H p (.tup (cutV xs lo hi)))
theorem sl_tup:SlR X (rSlT X.K):=by
 intro pins s σ H x v vl vu lo hi sl Q I rx hs pl pu h
 obtain ⟨a,xs,rfl,hx,hw,q⟩:=h
 cases rx
 obtain ⟨its,r,ht,hz⟩:=I.tuple hx
 have hlen:its.toArray.size=xs.length:=by rw [List.size_toArray];exact r.length.symm
 refine ⟨"tuple",_,PyProof.Rows.slot_tuple_getitem.lookup,ht.typeIs,?_⟩
 refine HT.getItem_tuple_cut ht hs pl pu (by rw [hlen];exact hw) ?_ (by rw [hlen];exact hz)
 rw [hlen]
 refine ⟨.ref s.heap.objs.size,_,I.laid (t':=s.toks) (o:=.tup (cutV xs lo hi)) (λb ob q=>Heap.get?_push_of_some _ q) (Nat.le_refl _) ?_,rfl,q _ (I.hok.fresh (Nat.le_refl _))⟩
 exact ⟨Nat.le_trans (cutV_length xs lo hi) hz,_,(r.drop (HT.sIx xs.length 0 lo)).take (HT.sIx xs.length xs.length hi-HT.sIx xs.length 0 lo),TupN.new _ _⟩
noncomputable def rCatT (K:PySem.W.Frag):R2:=λx y H Q=>∃ a b xs ys,x=.ref a/\y=.ref b/\SqT K H a xs/\SqT K H b ys/\xs≠[]/\xs.length+ys.length<=sizeLine /\
 (ys=[]->Q (.ref a) H)/\(ys≠[]->∀ p,H p=none->Q (.ref p) (upd H p (.tup (xs++ys))))
theorem Vals.nil_iff {xs:List V} {us:List Value} (r:Vals xs us):us=[]↔xs=[]:=by
 cases r with
 | nil=>simp
 | cons _ _=>simp
theorem op_catT:OpR X (binaryOp .Add) (rCatT X.K):=by
 intro pins s σ H x y v u Q I rx ry h
 obtain ⟨a,b,xs,ys,rfl,rfl,ha,hb,hx,hz,q1,q2⟩:=h
 cases rx
 cases ry
 obtain ⟨its,r1,p1,_⟩:=I.tuple ha
 obtain ⟨its2,r2,p2,_⟩:=I.tuple hb
 refine HT.cat_tup p1 p2 (λz=>hx (r1.nil_iff.mp z)) (λz=>⟨.ref a,H,I,rfl,q1 (r2.nil_iff.mp z)⟩) (λz=>?_) (by rw [<- r1.length,<- r2.length];exact hz)
 refine ⟨.ref s.heap.objs.size,_,I.laid (t':=s.toks) (o:=.tup (xs++ys)) (λb ob q=>Heap.get?_push_of_some _ q) (Nat.le_refl _) ?_,rfl,q2 (λw=>z (r2.nil_iff.mpr w)) _ (I.hok.fresh (Nat.le_refl _))⟩
 exact ⟨by rw [List.length_append];exact hz,_,r1.append r2,TupN.new _ _⟩
end
end L2
namespace L2
open PySem PySem.Spec PyProof.Rows
noncomputable def ixN (n:Nat) (i:Int):Option Nat:=if 0<=i then (if i<n then some i.toNat else none) else if -(n:Int)<=i then some (i+n).toNat else none
noncomputable def atI {α:Type} (xs:List α) (i:Int):Option α:=(ixN xs.length i).bind λj=>xs[j]?
theorem ixN_seq {n:Nat} {i:Int} {j:Nat} (h:ixN n i=some j):seqIndex? i n=some j/\j<n/\-(n:Int)<=i/\i<n:=by
 unfold ixN at h
 by_cases h0:0<=i
 ·rw [if_pos h0] at h
  by_cases h1:i<n
  ·rw [if_pos h1] at h
   have e:i.toNat=j:=Option.some.inj h
   exact ⟨by rw [seqIndex_of h0 h1,e],by omega,by omega,h1⟩
  ·rw [if_neg h1] at h;cases h
 ·rw [if_neg h0] at h
  by_cases h1:-(n:Int)<=i
  ·rw [if_pos h1] at h
   have e:(i+n).toNat=j:=Option.some.inj h
   exact ⟨by rw [seqIndex_neg (by omega) h1,e],by omega,h1,by omega⟩
  ·rw [if_neg h1] at h;cases h
theorem atI_get {α:Type} {xs:List α} {i:Int} {v:α} (h:atI xs i=some v):∃ j,seqIndex? i xs.length=some j/\xs[j]?=some v/\j<xs.length/\-(xs.length:Int)<=i/\i<xs.length:=by
 unfold atI at h
 cases e:ixN xs.length i with
 | none=>rw [e] at h;cases h
 | some j=>
  rw [e] at h
  obtain ⟨h1,h2,h3,h4⟩:=ixN_seq e
  exact ⟨j,h1,h,h2,h3,h4⟩
theorem atI_nat {α:Type} {xs:List α} {j:Nat} {v:α} (h:xs[j]?=some v):atI xs (j:Int)=some v:=by
 have hj:j<xs.length:=(List.getElem?_eq_some_iff.mp h).1
 have e:ixN xs.length (j:Int)=some j:=by
  unfold ixN
  rw [if_pos (by omega),if_pos (by omega)];simp
 unfold atI;rw [e];exact h
noncomputable def PlainIx (b:Expr):Prop:=∀ o i,subscripted b false o i=operate [o,i] (getItem o i)
noncomputable def IxR (X:Cx) (r:R2):Prop:=
 ∀ (value slice:Expr) (pins:List (Addr×Obj)) (s:Shared) (σ:St) (H:Hp) (x y:V) (v u:Value) (Q:VK),Inv X pins σ H s->RelV x v->RelV y u->r x y H Q ->
  subscripted slice false v u=operate [v,u] (getItem v u)->wpAny (model X.prog X.w) X.A (subscriptTail value slice v u) (EP X pins σ Q) X.xe s
noncomputable def MtR (X:Cx) (id:String) (r:V->List V->Hp->VK->Prop):Prop:=
 ∀ (pins:List (Addr×Obj)) (s:Shared) (σ:St) (H:Hp) (x:V) (xs:List V) (v:Value) (us:List Value) (Q:VK),Inv X pins σ H s->RelV x v->Vals xs us->r x xs H Q ->
  wpAny (model X.prog X.w) X.A (call (.builtin id) (v :: us)) (EP X pins σ Q) X.xe s
section
variable {X:Cx} {a b:Expr} {ta tb:TE} {pos:Pos}
theorem pe_ix {r:R2} (hr:IxR X r) (ha:PE X a ta) (hb:PE X b tb) (hs:PlainIx b):PE X (.Subscript a b pos) (tOp r ta tb):=by
 intro pins s σ H Q I h
 exact Subscript_ (binT ha hb I h λv u s2 x y H2 I2 rx ry q=>hr a b pins s2 σ H2 x y v u Q I2 rx ry q (hs _ _))
noncomputable def rIxL (K:PySem.W.Frag):R2:=λx y H Q=>∃ p xs i v,x=.ref p/\y=.int i/\SqL K H p xs/\atI xs i=some v/\Q v H
noncomputable def rIxT (K:PySem.W.Frag):R2:=λx y H Q=>∃ p xs i v,x=.ref p/\y=.int i/\SqT K H p xs/\atI xs i=some v/\Q v H
theorem ix_list:IxR X (rIxL X.K):=by
 intro value slice pins s σ H x y v u Q I rx ry h hs
 obtain ⟨p,xs,i,z,rfl,rfl,hq,he,q⟩:=h
 cases rx
 obtain ⟨t,rfl⟩:=ry
 obtain ⟨its,r,pl,hz⟩:=I.list hq
 obtain ⟨j,h1,h2,h3,h4,h5⟩:=atI_get he
 obtain ⟨w,ew,rw'⟩:=r.get h2
 have hl:=r.length
 have hn:=line63
 have fin:EP X pins σ Q w s:=⟨z,H,I,rw',q⟩
 by_cases h0:0<=i
 ·have hj:i.toNat=j:=by
   rw [seqIndex_of h0 h5] at h1
   exact Option.some.inj h1
  exact item_listR pl.isList h0 (by omega) (by rw [hj];simpa using ew) fin hs
 ·have hj:(i+(its.toArray.size:Int)).toNat=j:=by
   rw [seqIndex_neg (by omega) h4] at h1
   rw [List.size_toArray,<- hl]
   exact Option.some.inj h1
  exact subscriptTail_builtinR (x:=w) pl.isList.typeIs slot_list_getitem.lookup
   (wpAny_getItem_list_neg (Q:=λr s'=>r=w/\EP X pins σ Q r s') pl.isList (by omega) (by rw [List.size_toArray] <;> omega) (by omega) (by rw [hj];simpa using ew) ⟨rfl,fin⟩) hs
theorem ix_tup:IxR X (rIxT X.K):=by
 intro value slice pins s σ H x y v u Q I rx ry h hs
 obtain ⟨p,xs,i,z,rfl,rfl,hq,he,q⟩:=h
 cases rx
 obtain ⟨t,rfl⟩:=ry
 obtain ⟨its,r,pl,hz⟩:=I.tuple hq
 obtain ⟨j,h1,h2,h3,h4,h5⟩:=atI_get he
 obtain ⟨w,ew,rw'⟩:=r.get h2
 have hl:=r.length
 have hn:=line63
 have fin:EP X pins σ Q w s:=⟨z,H,I,rw',q⟩
 exact subscriptTail_builtinR (x:=w) pl.typeIs slot_tuple_getitem.lookup
  (getItem_tuple (j:=j) (Q:=λr s'=>r=w/\EP X pins σ Q r s') pl (by omega) (by omega) (by rw [List.size_toArray,<- hl];exact h1) (by simpa using ew) ⟨rfl,fin⟩) hs
theorem mapSeq_set (its:List Value) (n j:Nat) (u:Value):Obj.mapSeq (·.setIfInBounds j u) { cls:=.type "list",data:=.seq its.toArray n }={ cls:=.type "list",data:=.seq (its.set j u).toArray n }:=by
 simp [Obj.mapSeq]
theorem Inv.lst {pins:List (Addr×Obj)} {σ:St} {H:Hp} {s:Shared} {p:Addr} {xs:List V} (I:Inv X pins σ H s) (h:H p=some (.lst xs)) :
  ∃ (its:List Value) (n:Nat),Vals xs its/\s.heap.get? p=some { cls:=.type "list",data:=.seq its.toArray n }/\xs.length<=sizeLine:=by
 obtain ⟨z,its,n,r,e⟩:=I.hok p _ h
 exact ⟨its,n,r,e,z⟩
theorem Inv.lstUpd {pins:List (Addr×Obj)} {σ:St} {H:Hp} {s:Shared} {p:Addr} {xs ys:List V} {its its':List Value} {n n':Nat} {f:Obj->Obj} (I:Inv X pins σ H s) (h:H p=some (.lst xs))
  (ho:s.heap.get? p=some { cls:=.type "list",data:=.seq its.toArray n }) (hf:f { cls:=.type "list",data:=.seq its.toArray n }={ cls:=.type "list",data:=.seq its'.toArray n' }) (r:Vals ys its') (hz:ys.length<=sizeLine) (t:Nat) :
  Inv X pins σ (upd H p (.lst ys)) { s with heap:=s.heap.update p f,toks:=t }:=by
 have e:(s.heap.update p f).get? p=some { cls:=.type "list",data:=.seq its'.toArray n' }:=by
  rw [Heap.get?_update_self f ho (by rw [hf] <;> rfl),hf]
 refine I.write (x:=p) (e:=p) (by rw [h];trivial) (.inl rfl) (λb u hb q=>(Heap.get?_update_other _ _ (Ne.symm hb)).trans q) ⟨_,e⟩ ?_
 exact ⟨hz,its',n',r,e⟩
noncomputable def rSetL:V->V->V->Hp->(Hp->Prop)->Prop:=λo i v H Q=>∃ p xs k j,o=.ref p/\i=.int k/\H p=some (.lst xs)/\ixN xs.length k=some j/\Q (upd H p (.lst (xs.set j v)))
theorem set_list:PSet X rSetL:=by
 intro pins s σ H o i v ov iv u Q I ro ri rv h
 obtain ⟨p,xs,k,j,rfl,rfl,hp,hj,q⟩:=h
 cases ro
 obtain ⟨t,rfl⟩:=ri
 obtain ⟨its,n,r,ho,hz⟩:=I.lst hp
 obtain ⟨h1,h2,h3,h4⟩:=ixN_seq hj
 have hl:=r.length
 have hn:=line63
 have I':Inv X pins σ (upd H p (.lst (xs.set j v))) { s with heap:=s.heap.update p (Obj.mapSeq (·.setIfInBounds j u)) }:=
  I.lstUpd hp ho (mapSeq_set its n j u) (r.set rv j) (by rw [List.length_set];exact hz) s.toks
 by_cases h0:0<=k
 ·have hk:k.toNat=j:=by
   rw [seqIndex_of h0 h4] at h1
   exact Option.some.inj h1
  exact PySem.W.ki_setAt ho h0 (by omega) (by rw [List.size_toArray,<- hl];exact h4) (by rw [hk];exact ⟨_,I',q⟩)
 ·have hk:(k+(its.toArray.size:Int)).toNat=j:=by
   rw [seqIndex_neg (by omega) h3] at h1
   rw [List.size_toArray,<- hl]
   exact Option.some.inj h1
  exact PySem.W.ki_setBack ho (by omega) (by rw [List.size_toArray,<- hl];exact h3) (by omega) (by rw [hk];exact ⟨_,I',q⟩)
theorem slice_bounds (lo hi:Option Int) (n:Nat):(sliceBounds lo hi none n).1=((HT.sIx n 0 lo:Nat):Int)/\(sliceBounds lo hi none n).2.1=((HT.sIx n n hi:Nat):Int)/\(sliceBounds lo hi none n).2.2=1:=by
 refine ⟨?_,?_,rfl⟩
 ·cases lo with
  | none=>simp [sliceBounds,HT.sIx]
  | some i=>
   simp only [sliceBounds,HT.sIx,Option.getD_none,show (1:Int) > 0 by decide,if_true]
   by_cases h:i<0
   ·simp only [h,if_true] <;> omega
   ·simp only [h,if_false] <;> omega
 ·cases hi with
  | none=>simp [sliceBounds,HT.sIx]
  | some i=>
   simp only [sliceBounds,HT.sIx,Option.getD_none,show (1:Int) > 0 by decide,if_true]
   by_cases h:i<0
   ·simp only [h,if_true] <;> omega
   ·simp only [h,if_false] <;> omega
theorem slicePick_cut (its:List Value) (lo hi:Option Int):slicePick its.toArray lo hi none=((its.drop (HT.sIx its.length 0 lo)).take (HT.sIx its.length its.length hi-HT.sIx its.length 0 lo)).toArray:=by
 obtain ⟨h1,h2,h3⟩:=slice_bounds lo hi its.toArray.size
 unfold slicePick
 rw [h1,h2,h3]
 simp only [sliceRange_one,pick_run,List.size_toArray] <;> rfl
noncomputable def rSlL (K:PySem.W.Frag):V->Option Int->Option Int->Hp->VK->Prop:=λx lo hi H Q=>∃ a xs,x=.ref a/\SqL K H a xs/\∀ p,H p=none->Q (.ref p) (upd H p (.lst (cutV xs lo hi)))
theorem sl_list:SlR X (rSlL X.K):=by
 intro pins s σ H x v vl vu lo hi sl Q I rx hs pl pu h
 obtain ⟨a,xs,rfl,hx,q⟩:=h
 cases rx
 obtain ⟨its,r,ht,hz⟩:=I.list hx
 have hlen:=r.length
 refine ⟨"list",_,slot_list_getitem.lookup,ht.isList.typeIs,?_⟩
 refine wpAny_getItem_list_slice ht.isList hs pl pu .none (by simp) ?_ (by rw [List.size_toArray] <;> omega)
 rw [slicePick_cut,<- hlen]
 refine ⟨.ref s.heap.objs.size,_,I.laid (t':=s.toks) (o:=.lst (cutV xs lo hi)) (λb ob q=>Heap.get?_push_of_some _ q) (Nat.le_refl _) ?_,rfl,q _ (I.hok.fresh (Nat.le_refl _))⟩
 exact ⟨Nat.le_trans (cutV_length xs lo hi) hz,_,0,(r.drop (HT.sIx xs.length 0 lo)).take (HT.sIx xs.length xs.length hi-HT.sIx xs.length 0 lo),Heap.get?_push_size _ rfl⟩
theorem call_len_seq:CallR X (.builtin "len") (λxs H Q=>∃ p ys,xs=[.ref p]/\(SqL X.K H p ys\/SqT X.K H p ys)/\Q (.int ys.length) H):=by
 intro pins s σ H xs us Q I r h
 obtain ⟨p,ys,rfl,hq,q⟩:=h
 obtain ⟨u,rfl,rx⟩:=vals1 r
 cases rx
 have hn:=line63
 rcases hq with hq | hq
 ·obtain ⟨its,r',pl,hz⟩:=I.list hq
  have hlen:=r'.length
  exact Calls.call_len_list pl.isList (by simp only [List.size_toArray] <;> omega) ⟨.int ys.length,H,I.tok _,⟨s.toks+1,by rw [List.size_toArray,hlen]⟩,q⟩
 ·obtain ⟨its,r',pl,hz⟩:=I.tuple hq
  have hlen:=r'.length
  exact len_tuple pl (by simp only [List.size_toArray] <;> omega) ⟨.int ys.length,H,I.tok _,⟨s.toks+1,by rw [List.size_toArray,hlen]⟩,q⟩
theorem call_len_str:CallR X (.builtin "len") (λxs H Q=>∃ z,xs=[.str z]/\z.length<=sizeLine/\Q (.int z.length) H):=by
 intro pins s σ H xs us Q I r h
 obtain ⟨z,rfl,hz,q⟩:=h
 obtain ⟨u,rfl,t,rfl⟩:=vals1 r
 have hn:=line63
 exact len_str (by omega) ⟨.int z.length,H,I.tok _,⟨_,rfl⟩,q⟩
theorem call_list_of:CallR X (.type "list") (λxs H Q=>∃ p ys,xs=[.ref p]/\(SqL X.K H p ys\/SqT X.K H p ys)/\∀ l,H l=none->Q (.ref l) (upd H l (.lst ys))):=by
 intro pins s σ H xs us Q I r h
 obtain ⟨p,ys,rfl,hq,q⟩:=h
 obtain ⟨u,rfl,rx⟩:=vals1 r
 cases rx
 have fin:∀ (its:List Value),Vals ys its->ys.length<=sizeLine->∀ (h':Heap) (c':Nat),(∀ b o',s.heap.get? b=some o'->h'.get? b=some o') ->
   h'.get? s.heap.objs.size=some { cls:=.type "list",dict:=none,data:=.seq its.toArray c',slots:=#[] }->EP X pins σ Q (.ref s.heap.objs.size) { s with heap:=h' }:=λits r' hz h' c' kp e=>
  ⟨.ref s.heap.objs.size,_,I.laid (t':=s.toks) kp (Nat.le_refl _) (show ObjOk X.prog X.w _ h' _ (.lst ys) from ⟨hz,its,c',r',e⟩),rfl,q _ (I.hok.fresh (Nat.le_refl _))⟩
 rcases hq with hq | hq
 ·obtain ⟨its,r',pl,hz⟩:=I.list hq
  have hlen:=r'.length
  obtain ⟨o,ho,hc,n,hd⟩:=pl.isList
  exact call_list_seq p (.inl rfl) ho hc hd (λh' c' kp e=>fin its r' hz h' c' kp e) (by simp only [List.size_toArray] <;> omega)
 ·obtain ⟨its,r',pl,hz⟩:=I.tuple hq
  have hlen:=r'.length
  obtain ⟨o,ho,hc,n,hd⟩:=pl
  exact call_list_seq p (.inr rfl) ho hc hd (λh' c' kp e=>fin its r' hz h' c' kp e) (by simp only [List.size_toArray] <;> omega)
theorem call_tuple_of:CallR X (.type "tuple") (λxs H Q=>∃ p ys,xs=[.ref p]/\((SqL X.K H p ys/\∀ l,H l=none->Q (.ref l) (upd H l (.tup ys)))\/(SqT X.K H p ys/\Q (.ref p) H))):=by
 intro pins s σ H xs us Q I r h
 obtain ⟨p,ys,rfl,h⟩:=h
 obtain ⟨u,rfl,rx⟩:=vals1 r
 cases rx
 rcases h with ⟨hq,q⟩ | ⟨hq,q⟩
 ·obtain ⟨its,r',pl,hz⟩:=I.list hq
  have hlen:=r'.length
  refine call_tuple_list pl.isList (λh' kp=>?_) (by simp only [List.size_toArray] <;> omega)
  have I1:Inv X pins σ H { s with heap:=h' }:=I.kept (t':=s.toks) kp
  have I2:Inv X pins σ (upd H h'.objs.size (.tup ys)) { s with heap:=h'.push { cls:=.type "tuple",data:=.seq its.toArray } }:=
   I1.laid (t':=s.toks) (λb o e=>Heap.get?_push_of_some _ e) (Nat.le_refl _) (show ObjOk X.prog X.w _ _ _ (.tup ys) from ⟨hz,its,r',TupN.new _ _⟩)
  exact ⟨.ref h'.objs.size,_,I2,rfl,q _ (I1.hok.fresh (Nat.le_refl _))⟩
 ·obtain ⟨its,r',pl,hz⟩:=I.tuple hq
  exact call_tuple_same pl ⟨.ref p,H,I,rfl,q⟩
noncomputable def tyV (K:PySem.W.Frag) (T:String) (x:V) (H:Hp):Prop:=match x with
 | .str _=>T = "str"
 | .int _=>T = "int"
 | .ref p=>(T = "list"/\∃ xs,SqL K H p xs)\/(T = "tuple"/\∃ o,K.lookup p=some o/\o.cls=.type "tuple"/\o.dict=none) \/
   (T = "dict"/\((∃ kvs,H p=some (.dK kvs))\/∃ kvs,H p=some (.dT kvs)))\/(T = "set"/\∃ S n,H p=some (.set S n))\/(T = "tuple"/\∃ xs,Rd H p (.tup xs))
 | _=>False
theorem tyV_is {pins:List (Addr×Obj)} {σ:St} {H:Hp} {s:Shared} {T:String} {x:V} {v:Value} (I:Inv X pins σ H s) (r:RelV x v) (ty:tyV X.K T x H) :
  s.TypeIs v T/\∀ a,v=.ref a->∃ ob,s.heap.get? a=some ob/\ob.dict=none:=by
 cases x with
 | str z=>
  obtain ⟨t,rfl⟩:=r
  cases (show T = "str" from ty)
  exact ⟨typeIs_str s z t,λ_ e=>nomatch e⟩
 | int i=>
  obtain ⟨t,rfl⟩:=r
  cases (show T = "int" from ty)
  exact ⟨typeIs_int s i t,λ_ e=>nomatch e⟩
 | ref p=>
  cases r
  rcases ty with ⟨rfl,xs,hq⟩ | ⟨rfl,o,hk,hc,hd⟩ | ⟨rfl,hk⟩ | ⟨rfl,S,n,hk⟩ | ⟨rfl,xs,hk⟩
  ·obtain ⟨its,_,pl,_⟩:=I.list hq
   refine ⟨pl.isList.typeIs,λa e=>?_⟩
   cases e
   obtain ⟨o,n,e,c,hd,_⟩:=pl
   exact ⟨o,e,hd⟩
  ·refine ⟨⟨o,I.kIn p o hk,hc⟩,λa e=>?_⟩
   cases e
   exact ⟨o,I.kIn _ o hk,hd⟩
  ·have z:∃ o,s.heap.get? p=some o/\o.ExactDict:=by
    rcases hk with ⟨kvs,hk⟩ | ⟨kvs,hk⟩
    ·obtain ⟨_,_,_,_,o,_,_,e,ex,_⟩:=I.hok p _ hk
     exact ⟨o,e,ex⟩
    ·obtain ⟨_,_,_,_,o,_,_,e,ex,_⟩:=I.hok p _ hk
     exact ⟨o,e,ex⟩
   obtain ⟨o,e,ex⟩:=z
   refine ⟨⟨o,e,ex.1⟩,λa e2=>?_⟩
   cases e2
   exact ⟨o,e,ex.2.1⟩
  ·obtain ⟨o,_,_,_,e,ex,_⟩:=I.hok p _ hk
   refine ⟨⟨o,e,ex.1⟩,λa e2=>?_⟩
   cases e2
   exact ⟨o,e,ex.2.1⟩
  ·obtain ⟨_,its,_,o,e,c,n,_,hd⟩:=(show ObjOk X.prog X.w H s.heap p (.tup xs) from hk.ok I.hok)
   exact ⟨⟨o,e,c⟩,λa e2=>by cases e2;exact ⟨o,e,hd⟩⟩
 | _=>exact False.elim ty
noncomputable def tBM (K:PySem.W.Frag) (T:String) (r:V->List V->Hp->VK->Prop) (to:TE) (t:TA):TE:=λσ H Q=>to σ H λx H1=>tyV K T x H1/\t σ H1 λxs H2=>r x xs H2 Q
variable {o e:Expr} {es:List Expr} {to:TE} {t:TA} {name:Str} {apos cpos:Pos} {T id:String} {r:V->List V->Hp->VK->Prop}
theorem pe_bm (pa:PlainAttrs T) (slot:Slot T name id) (hty:typeOf (.builtin id)=pure (.type "method_descriptor")) (hm:MtR X id r) (ho:PE X o to) (ha:PA X (e :: es) t)
  (hbase:attributeBase o name X.env (eval o X.env)=eval o X.env:=by rfl)
  (hfew:((backTo cpos (starEach (e :: es) X.env)).all (λx=>!x.1)&&(backToKw cpos (keywordEach [] X.env)).all (λx=>x.1.isSome)
   && decide ((e :: es).length+([]:List Keyword).length+(if ([]:List Keyword).isEmpty then 0 else 1)<30))=true:=by rfl)
  (hline:(apos.endLine==cpos.line)=true:=by rfl) (hs:starEach (e :: es) X.env=(false,eval e X.env) :: starEach es X.env:=by rfl) (hplain:(backTo cpos (starEach es X.env)).any (·.1)=false:=by rfl) :
  PE X (.Call (.Attribute o name apos) (e :: es) [] cpos) (tBM X.K T r to t):=by
 intro pins s σ H Q I h
 refine wpAny_Call_method_late hbase hfew hline rfl (thn (ho pins s σ H _ I h) λv s1 ⟨x,H1,I1,r1,ty,q1⟩=>?_)
 obtain ⟨h1,h2⟩:=tyV_is I1 r1 ty
 refine ⟨T,id,pa,slot,hty,h1,h2,?_⟩
 have hA:=ha cpos pins s1 σ H1 _ I1 q1
 rw [hs] at hA ⊢
 refine Calls.callWith_builtin (by show (false||(backTo cpos (starEach es X.env)).any (·.1))=false;rw [hplain] <;> rfl) (Calls.evalArgs_plain ?_)
 exact thn hA λus s2 ⟨vs,H2,I2,r2,q2⟩=>hm pins s2 σ H2 x vs v us Q I2 r1 r2 q2
end
end L2
namespace L2
open PySem PySem.Spec PyProof.Rows
noncomputable def MtM (X:Cx) (id:String) (r:V->List V->Hp->VK->Prop):Prop:=
 ∀ (pins:List (Addr×Obj)) (s:Shared) (σ:St) (H:Hp) (x:V) (xs:List V) (v:Value) (us:List Value) (Q:VK),Inv X pins σ H s->RelV x v->Vals xs us->r x xs H Q ->
  wpAny (model X.prog X.w) X.A (call (.builtin id) (v :: us)) (EP X pins σ Q) X.xe s
theorem Vals.one:∀ {x:V} {us:List Value},Vals [x] us->∃ u,us=[u]/\RelV x u
 | _,_,.cons r .nil=>⟨_,rfl,r⟩
theorem Vals.eraseIdx:∀ {xs:List V} {us:List Value} (i:Nat),Vals xs us->Vals (xs.eraseIdx i) (us.eraseIdx i)
 | _,_,_,.nil=>.nil
 | _,_,0,.cons _ t=>t
 | _,_,i+1,.cons r t=>.cons r (Vals.eraseIdx i t)
theorem Vals.rep {xs:List V} {us:List Value} (h:Vals xs us):∀ k:Nat,Vals (List.replicate k xs).flatten (List.replicate k us).flatten
 | 0=>.nil
 | k+1=>by
  rw [List.replicate_succ,List.replicate_succ,List.flatten_cons,List.flatten_cons]
  exact Vals.append h (Vals.rep h k)
theorem len_erase {α:Type}:∀ (l:List α) (i:Nat),(l.eraseIdx i).length<=l.length
 | [],_=>Nat.le_refl _
 | _ :: _,0=>Nat.le_succ _
 | _ :: r,i+1=>Nat.succ_le_succ (len_erase r i)
theorem foldl_rep (its:List Value):∀ (k:Nat) (acc:List Value),
  List.foldl (λx1 x2=>x1++x2) acc.toArray (List.replicate k its.toArray)=(acc++(List.replicate k its).flatten).toArray
 | 0,acc=>by simp
 | k+1,acc=>by
  have e:acc.toArray++its.toArray=(acc++its).toArray:=by simp
  have e2:(acc++its)++(List.replicate k its).flatten=acc++(List.replicate (k+1) its).flatten:=by
   rw [List.replicate_succ,List.flatten_cons,List.append_assoc]
  rw [<- e2,<- foldl_rep its k (acc++its),<- e,List.replicate_succ,List.foldl_cons]
section
variable {X:Cx} {pins:List (Addr×Obj)} {σ:St} {H:Hp} {s:Shared} {l b:Addr} {xs ys zs:List V}
theorem Inv.lset {its its':List Value} {n:Nat} {f:Array Value->Array Value} {t':Nat} (I:Inv X pins σ H s) (hH:H l=some (.lst xs))
  (e:s.heap.get? l=some { cls:=.type "list",data:=.seq its.toArray n }) (hf:f its.toArray=its'.toArray) (hv:Vals ys its') (hz:ys.length<=sizeLine) :
  Inv X pins σ (upd H l (.lst ys)) { s with heap:=s.heap.update l (Obj.mapSeq f),toks:=t' }:=by
 have q:=PySem.IsL.update e f
 rw [hf] at q
 refine I.write (x:=l) (e:=l) (by rw [hH];exact trivial) (.inl rfl) (λb' u hb hu=>(Heap.get?_update_other s.heap (Obj.mapSeq f) (Ne.symm hb)).trans hu) ⟨_,q⟩ ?_
 exact ⟨hz,its',_,hv,q⟩
theorem Inv.lnew {its:List Value} {t':Nat} (I:Inv X pins σ H s) (hv:Vals ys its) (hz:ys.length<=sizeLine) :
  Inv X pins σ (upd H s.heap.objs.size (.lst ys)) { s with heap:=s.heap.push { cls:=.type "list",data:=.seq its.toArray },toks:=t' }:=
 I.laid (λ_ _ q=>Heap.get?_push_of_some _ q) (Nat.le_refl _) ⟨hz,its,0,hv,Heap.get?_push_size _ rfl⟩
theorem Inv.fresh (I:Inv X pins σ H s):H s.heap.objs.size=none:=I.hok.fresh (Nat.le_refl _)
theorem Inv.lstM (I:Inv X pins σ H s) (hH:H l=some (.lst xs)):xs.length<=sizeLine/\∃ (its:List Value) (n:Nat),Vals xs its/\xs.length=its.length/\s.heap.get? l=some { cls:=.type "list",data:=.seq its.toArray n }:=by
 obtain ⟨z,its,n,r,e⟩:=I.hok l _ hH
 exact ⟨z,its,n,r,r.length,e⟩
theorem notLongL {n:Nat} (h:n<=sizeLine):Builtin.List.listTooLong n=false:=by
 unfold Builtin.List.listTooLong
 exact decide_eq_false (by omega)
end
section
variable {X:Cx}
noncomputable def rAppend:V->List V->Hp->VK->Prop:=λx vs H Q=>∃ l xs y,x=.ref l/\vs=[y]/\H l=some (.lst xs)/\xs.length<sizeLine/\Q .non (upd H l (.lst (xs++[y])))
theorem mt_append:MtM X "list.append" rAppend:=by
 intro pins s σ H x vs v us Q I rx rv h
 obtain ⟨l,xs,y,rfl,rfl,hH,hz,q⟩:=h
 cases rx
 obtain ⟨u,rfl,ru⟩:=rv.one
 obtain ⟨z,its,n,r,hl,e⟩:=I.lstM hH
 refine call_meets F.slot_list_append ⟨_,e,rfl⟩ F.entry_list_append (F.args_list_append_2 _ _) (PySem.list_append l its.toArray n u (by rw [List.size_toArray];omega)) ⟨e,?_⟩
 refine ⟨.non,_,I.lset (its':=its++[u]) hH e (by simp) (r.append (.cons ru .nil)) ?_,rfl,q⟩
 rw [List.length_append,List.length_singleton]
 omega
noncomputable def rPopAt:V->List V->Hp->VK->Prop:=λx vs H Q=>∃ l xs i k y,x=.ref l/\vs=[.int i]/\H l=some (.lst xs)/\-(2 ^ 63)<=i/\i<2 ^ 63/\seqIndex? i xs.length=some k/\xs[k]?=some y/\Q y (upd H l (.lst (xs.eraseIdx k)))
theorem mt_popAt:MtM X "list.pop" rPopAt:=by
 intro pins s σ H x vs v us Q I rx rv h
 obtain ⟨l,xs,i,k,y,rfl,rfl,hH,h1,h2,hk,hy,q⟩:=h
 cases rx
 obtain ⟨u,rfl,ru⟩:=rv.one
 obtain ⟨t,rfl⟩:=ru
 obtain ⟨z,its,n,r,hl,e⟩:=I.lstM hH
 obtain ⟨w,hw,rw'⟩:=r.get hy
 refine call_meets F.slot_list_pop ⟨_,e,rfl⟩ F.entry_list_pop (F.args_list_pop_2 _ _)
  (MeetsSeq.list_pop_at l its.toArray n i t k w (fitsIndex_both h1 h2) (by rw [List.size_toArray,<- hl];exact hk) (by rw [<- Array.getElem?_toList];exact hw) (by rw [List.size_toArray];omega)) ⟨e,?_⟩
 refine ⟨y,_,I.lset (its':=its.eraseIdx k) hH e ?_ (r.eraseIdx k) ?_,rw',q⟩
 ·show its.toArray.eraseIdxIfInBounds k=(its.eraseIdx k).toArray
  rw [List.eraseIdxIfInBounds_toArray]
 ·have:=len_erase xs k
  omega
noncomputable def rCat:R2:=λx y H Q=>∃ l b xs zs,x=.ref l/\y=.ref b/\H l=some (.lst xs)/\H b=some (.lst zs)/\xs.length+zs.length<=sizeLine/\∀ p,H p=none->Q (.ref p) (upd H p (.lst (xs++zs)))
theorem op_cat:OpR X (binaryOp .Add) rCat:=by
 intro pins s σ H x y v u Q I rx ry h
 obtain ⟨l,b,xs,zs,rfl,rfl,hH,hB,hz,q⟩:=h
 cases rx
 cases ry
 obtain ⟨z,its,n,r,hl,e⟩:=I.lstM hH
 obtain ⟨z2,its2,n2,r2,hl2,e2⟩:=I.lstM hB
 refine PySem.P.add_list e e2 ?_ (by rw [List.size_toArray,List.size_toArray];omega)
 have ea:its.toArray++its2.toArray=(its++its2).toArray:=by simp
 rw [ea]
 exact ⟨.ref _,_,I.lnew (t':=s.toks) (r.append r2) (by rw [List.length_append];omega),rfl,q _ I.fresh⟩
noncomputable def rRep:R2:=λx y H Q=>∃ l k xs,x=.ref l/\y=.int k/\H l=some (.lst xs)/\-(2 ^ 63)<=k/\k<2 ^ 63/\xs.length * k.toNat<=sizeLine /\
 ∀ p,H p=none->Q (.ref p) (upd H p (.lst (List.replicate k.toNat xs).flatten))
theorem len_rep {α:Type} (xs:List α) (k:Nat):(List.replicate k xs).flatten.length=k * xs.length:=by
 induction k with
 | zero=>simp
 | succ k ih=>rw [List.replicate_succ,List.flatten_cons,List.length_append,ih,Nat.succ_mul,Nat.add_comm]
theorem op_rep:OpR X (binaryOp .Mult) rRep:=by
 intro pins s σ H x y v u Q I rx ry h
 obtain ⟨l,k,xs,rfl,rfl,hH,h1,h2,hz,q⟩:=h
 cases rx
 obtain ⟨t,rfl⟩:=ry
 obtain ⟨z,its,n,r,hl,e⟩:=I.lstM hH
 have hlen:its.toArray.size * k.toNat<=sizeLine:=by rw [List.size_toArray,<- hl];exact hz
 have hcap:¬ its.toArray.size * k.toNat > (2 ^ 63-1) / 8:=by
  have:(sizeLine:Nat)<=(2 ^ 63-1) / 8:=by decide
  omega
 have hfit:¬ (!Builtin.List.listFitsIndex k)=true:=by
  rw [fitsIndex_both h1 h2]
  exact Bool.false_ne_true
 have hlong:¬ Builtin.List.listTooLong (its.toArray.size * k.toNat)=true:=by
  rw [notLongL hlen]
  exact Bool.false_ne_true
 have hnew:List.foldl (λx1 x2=>x1++x2) #[] (List.replicate (if its.toArray.isEmpty=true then 0 else k.toNat) its.toArray)=(List.replicate k.toNat its).flatten.toArray:=by
  have f0:∀ m:Nat,List.foldl (λx1 x2=>x1++x2) #[] (List.replicate m its.toArray)=(List.replicate m its).flatten.toArray:=λm=>by
   have:=foldl_rep its m []
   rw [List.nil_append] at this
   exact this
  rw [f0]
  cases its with
  | nil=>simp
  | cons a r'=>rw [if_neg (by simp)]
 refine wpAny_binaryOp_repeat_ref (T:="list") (U:="int") (by decide) ⟨_,e,rfl⟩ (λs'=>typeIs_int s' k t) noFill_list_mul F.fills_int_mul F.slot_int_rmul repeat_list F.slot_int_index.lookup
  (call_meets F.slot_int_rmul (typeIs_int s k t) F.entry_int_rmul (F.args_int_rmul_2 _ _) (int___rmul___int_list k t l its.toArray n)
   ⟨e,rfl,⟨_,e,rfl⟩,call_meets F.slot_list_mul ⟨_,e,rfl⟩ F.entry_list_mul (F.args_list_mul_2 _ _) (AutoListH.list___mul___list_int_3 l its.toArray n k t hfit hcap hlong) ⟨e,?_⟩⟩)
 rw [hnew]
 exact ⟨.ref _,_,I.lnew (t':=s.toks) (r.rep k.toNat) (by rw [len_rep,Nat.mul_comm];exact hz),rfl,q _ I.fresh⟩
end
end L2
namespace L2
open PySem PySem.Spec PyProof.Rows
section
variable {κ:Type} [DecidableEq κ]
noncomputable def valV (kvs:List (κ×V)) (k:κ):Option V:=(kvs.find? λkv=>decide (kv.1=k)).map (·.2)
noncomputable def putK (kvs:List (κ×V)) (k:κ) (v:V):List (κ×V):=
 if (kvs.any λkv=>decide (kv.1=k))=true then kvs.map (λkv=>if kv.1=k then (kv.1,v) else kv) else kvs++[(k,v)]
theorem valV_pos {p:κ×V} {r:List (κ×V)} {k:κ} (e:p.1=k):valV (p :: r) k=some p.2:=by simp [valV,List.find?_cons,e]
theorem valV_neg {p:κ×V} {r:List (κ×V)} {k:κ} (e:¬ p.1=k):valV (p :: r) k=valV r k:=by simp [valV,List.find?_cons,e]
theorem valV_any (k:κ):∀ kvs:List (κ×V),(kvs.any λkv=>decide (kv.1=k))=(valV kvs k).isSome
 | []=>rfl
 | p :: r=>by
  rw [List.any_cons]
  by_cases e:p.1=k
  ·simp only [valV_pos e,decide_eq_true e,Bool.true_or,Option.isSome_some]
  ·rw [valV_neg e,decide_eq_false e,Bool.false_or];exact valV_any k r
theorem length_putK (kvs:List (κ×V)) (k:κ) (v:V):(putK kvs k v).length<=kvs.length+1:=by
 unfold putK
 split
 ·rw [List.length_map];omega
 ·rw [List.length_append,List.length_cons,List.length_nil];omega
theorem RelO.isSome_eq {o:Option V} {u:Option Value} (r:RelO o u):o.isSome=u.isSome:=by
 cases o with
 | none=>cases u with
  | none=>rfl
  | some _=>exact (show False from r).elim
 | some _=>cases u with
  | none=>exact (show False from r).elim
  | some _=>rfl
theorem RelO.getD {o:Option V} {u:Option Value} {d:V} {d':Value} (r:RelO o u) (rd:RelV d d'):RelV (o.getD d) (u.getD d'):=by
 cases o with
 | none=>cases u with
  | none=>exact rd
  | some _=>exact (show False from r).elim
 | some _=>cases u with
  | none=>exact (show False from r).elim
  | some _=>exact r
theorem KV.val {kvs:List (κ×V)} {vs:List (κ×Value)} (r:KV kvs vs) (k:κ):RelO (valV kvs k) (valueAt vs k):=by
 unfold KV at r
 induction r with
 | nil=>exact True.intro
 | @cons p q ps qs h t ih=>
  obtain ⟨h1,h2⟩:=h
  by_cases e:p.1=k
  ·have e':q.1=k:=h1.symm.trans e
   have b:valueAt (q :: qs) k=some q.2:=by simp [valueAt,List.find?_cons,e']
   rw [valV_pos e,b];exact h2
  ·have e':¬ q.1=k:=λz=>e (h1.trans z)
   have b:valueAt (q :: qs) k=valueAt qs k:=by simp [valueAt,List.find?_cons,e']
   rw [valV_neg e,b];exact ih
theorem KV.any {kvs:List (κ×V)} {vs:List (κ×Value)} (r:KV kvs vs) (k:κ):(kvs.any λkv=>decide (kv.1=k))=vs.any λkv=>decide (kv.1=k):=by
 unfold KV at r
 induction r with
 | nil=>rfl
 | cons h t ih=>rw [List.any_cons,List.any_cons,ih,h.1]
theorem KV.repl {kvs:List (κ×V)} {vs:List (κ×Value)} (r:KV kvs vs) (k:κ) {y:V} {u:Value} (ry:RelV y u) :
  KV (kvs.map λkv=>if kv.1=k then (kv.1,y) else kv) (vs.map λkv=>if kv.1=k then (kv.1,u) else kv):=by
 unfold KV at r ⊢
 induction r with
 | nil=>exact .nil
 | @cons p q ps qs h t ih=>
  rw [List.map_cons,List.map_cons]
  refine .cons ?_ ih
  obtain ⟨h1,h2⟩:=h
  by_cases e:p.1=k
  ·rw [if_pos e,if_pos (h1.symm.trans e)];exact ⟨h1,ry⟩
  ·rw [if_neg e,if_neg (λz=>e (h1.trans z))];exact ⟨h1,h2⟩
theorem KV.put {kvs:List (κ×V)} {vs:List (κ×Value)} (r:KV kvs vs) (k:κ) {y:V} {u:Value} (ry:RelV y u):KV (putK kvs k y) (stored vs k u):=by
 unfold putK stored
 rw [r.any k]
 by_cases e:(vs.any λkv=>decide (kv.1=k))=true
 ·rw [if_pos e,if_pos e];exact r.repl k ry
 ·rw [if_neg e,if_neg e];exact Paired.snoc r ⟨rfl,ry⟩
theorem KV.length {kvs:List (κ×V)} {vs:List (κ×Value)} (r:KV kvs vs):kvs.length=vs.length:=Paired.length r
end
theorem kV_is {P:Program} {w:World} {k:Key} {u:Value} (r:RelV (kV k) u):(mixKind P w).is k u=true:=by
 cases k with
 | inl i=>obtain ⟨t,e⟩:=(show ∃ t,u=Value.int i t from r);subst e;exact mixKind_int P w i t
 | inr x=>obtain ⟨t,e⟩:=(show ∃ t,u=Value.str x t from r);subst e;exact mixKind_str P w x t
theorem items_are {P:Program} {w:World}:∀ {ks:List Key} {us:List Value},Vals (ks.map kV) us->ItemsAre (mixKind P w) ks us
 | [],_,r=>by rw [List.map_nil] at r;cases r;exact .nil
 | k :: ks,_,r=>by
  rw [List.map_cons] at r
  cases r with
  | cons h t=>exact .cons (kV_is h) (items_are t)
noncomputable abbrev KT (H:Hp):List (List Key×V)->List (List Key×Addr×Value)->Prop:=Paired λp q=>p.1=q.1/\H q.2.1=some (.tup (p.1.map kV))/\RelV p.2 q.2.2
theorem KT.val {H:Hp} {kvs:List (List Key×V)} {xs:List (List Key×Addr×Value)} (r:KT H kvs xs) (k:List Key):RelO (valV kvs k) ((atKey xs k).map (·.2)):=by
 induction r with
 | nil=>exact True.intro
 | @cons p q ps qs h t ih=>
  obtain ⟨h1,_,h2⟩:=h
  by_cases e:p.1=k
  ·have e':q.1=k:=h1.symm.trans e
   have b:atKey (q :: qs) k=some q.2:=by simp [atKey,List.find?_cons,e']
   rw [valV_pos e,b];exact h2
  ·have e':¬ q.1=k:=λz=>e (h1.trans z)
   have b:atKey (q :: qs) k=atKey qs k:=by simp [atKey,List.find?_cons,e']
   rw [valV_neg e,b];exact ih
theorem KT.repl {H:Hp} {kvs:List (List Key×V)} {xs:List (List Key×Addr×Value)} (r:KT H kvs xs) (k:List Key) {y:V} {u:Value} (ry:RelV y u) :
  KT H (kvs.map λkv=>if kv.1=k then (kv.1,y) else kv) (xs.map (putAt k u)):=by
 induction r with
 | nil=>exact .nil
 | @cons p q ps qs h t ih=>
  rw [List.map_cons,List.map_cons]
  refine .cons ?_ ih
  obtain ⟨h1,h2,h3⟩:=h
  unfold putAt
  by_cases e:p.1=k
  ·rw [if_pos e,if_pos (h1.symm.trans e)];exact ⟨h1,h2,ry⟩
  ·rw [if_neg e,if_neg (λz=>e (h1.trans z))];exact ⟨h1,h2,h3⟩
theorem KT.put {H:Hp} {kvs:List (List Key×V)} {xs:List (List Key×Addr×Value)} (r:KT H kvs xs) (k:List Key) {b:Addr} {y:V} {u:Value} (hb:H b=some (.tup (k.map kV))) (ry:RelV y u) :
  KT H (putK kvs k y) (storedH xs k b u):=by
 have e:(kvs.any λkv=>decide (kv.1=k))=(atKey xs k).isSome:=by
  rw [valV_any,(r.val k).isSome_eq,Option.isSome_map]
 unfold putK storedH
 rw [e]
 by_cases q:(atKey xs k).isSome=true
 ·rw [if_pos q,if_pos q];exact r.repl k ry
 ·rw [if_neg q,if_neg q];exact Paired.snoc r ⟨rfl,hb,ry⟩
theorem KT.keeps {H H':Hp} {kvs:List (List Key×V)} {xs:List (List Key×Addr×Value)} (r:KT H kvs xs) (ht:∀ b ys,H b=some (.tup ys)->H' b=some (.tup ys)):KT H' kvs xs:=
 Paired.mapP r λ_ _ z=>⟨z.1,ht _ _ z.2.1,z.2.2⟩
section
variable {P:Program} {w:World} {H:Hp} {h:Heap} {a:Addr}
theorem rd_of {u:HO} (ok:HOk P w H h) (e:Rd H a u):ObjOk P w H h a u:=e.ok ok
theorem dk_rd {kvs:List (Key×V)} (ok:HOk P w H h) (e:Rd H a (.dK kvs)):kvs.length<=sizeLine/\(a==sysModules)=false/\∃ vs,KV kvs vs/\h.DictOf (mixKind P w) a vs:=
 show ObjOk P w H h a (.dK kvs) from rd_of ok e
theorem dk_of {kvs:List (Key×V)} (ok:HOk P w H h) (e:H a=some (.dK kvs)):kvs.length<=sizeLine/\(a==sysModules)=false/\∃ vs,KV kvs vs/\h.DictOf (mixKind P w) a vs:=dk_rd ok (.inl e)
theorem key_of {ks:List Key} (ok:HOk P w H h) (e:H a=some (.tup (ks.map kV))):(tupleKind (mixKind P w)).is h ks a:=by
 obtain ⟨_,its,r,o,h1,h2,n,h3⟩:=(show ObjOk P w H h a (.tup (ks.map kV)) from ok a _ e)
 exact ⟨o,its.toArray,n,h1,h2,h3.1,by simpa using items_are r⟩
theorem dt_rd {kvs:List (List Key×V)} (ok:HOk P w H h) (e:Rd H a (.dT kvs)):kvs.length<=sizeLine/\(a==sysModules)=false /\
  ∃ xs,KT H kvs xs/\h.DictOfH (tupleKind (mixKind P w)) a xs:=by
 obtain ⟨z,y,xs,r,o,es,ep,h1,h2,h3,h4,h5⟩:=(show ObjOk P w H h a (.dT kvs) from rd_of ok e)
 refine ⟨z,y,xs,r,o,es,ep,h1,h2,h3,h4,λx hx=>?_,h5⟩
 have all:∀ {l:List (List Key×V)} {m:List (List Key×Addr×Value)},KT H l m->∀ x∈m,(tupleKind (mixKind P w)).is h x.1 x.2.1:=by
  intro l m q
  induction q with
  | nil=>intro x hx;exact nomatch hx
  | @cons p q ps qs hq t ih=>
   intro x hx
   rcases List.mem_cons.mp hx with e | hx
   ·subst e
    exact key_of ok (by rw [<- hq.1];exact hq.2.1)
   ·exact ih x hx
 exact all r x hx
theorem dt_of {kvs:List (List Key×V)} (ok:HOk P w H h) (e:H a=some (.dT kvs)):kvs.length<=sizeLine/\(a==sysModules)=false /\
  ∃ xs,KT H kvs xs/\h.DictOfH (tupleKind (mixKind P w)) a xs:=dt_rd ok (.inl e)
end
noncomputable def DGet (H:Hp) (a:Addr) (y:V) (r:Option V):Prop:=
 (∃ kvs k,Rd H a (.dK kvs)/\y=kV k/\r=valV kvs k)\/∃ kvs k b,Rd H a (.dT kvs)/\y=.ref b/\H b=some (.tup (k.map kV))/\r=valV kvs k
noncomputable def DPut (H:Hp) (a:Addr) (y v:V) (H':Hp):Prop:=
 (∃ kvs k,H a=some (.dK kvs)/\y=kV k/\kvs.length<sizeLine/\H'=upd H a (.dK (putK kvs k v))) \/
 ∃ kvs k b,H a=some (.dT kvs)/\y=.ref b/\H b=some (.tup (k.map kV))/\kvs.length<sizeLine/\H'=upd H a (.dT (putK kvs k v))
theorem DGet.k {H:Hp} {a:Addr} {kvs:List (Key×V)} {k:Key} (e:H a=some (.dK kvs)):DGet H a (kV k) (valV kvs k):=.inl ⟨kvs,k,.inl e,rfl,rfl⟩
theorem DPut.k {H:Hp} {a:Addr} {kvs:List (Key×V)} {k:Key} {v:V} (e:H a=some (.dK kvs)) (hl:kvs.length<sizeLine):DPut H a (kV k) v (upd H a (.dK (putK kvs k v))):=.inl ⟨kvs,k,e,rfl,hl,rfl⟩
section
variable {X:Cx} {pins:List (Addr×Obj)} {σ:St} {H:Hp} {s:Shared} {a:Addr} {y v:V} {u r:Value} {o:Option V} {A:Around} {E:Value->Shared->Prop}
theorem Inv.big (I:Inv X pins σ H s):sysModules<s.heap.objs.size:=by
 have h:mainGlobals<s.heap.objs.size:=(I.mod.glob.keeps I.bk).lt
 exact Nat.lt_trans (by decide) h
theorem d_getItem {Q:Value->Shared->Prop} (hu:A.units+1<cLine) (I:Inv X pins σ H s) (g:DGet H a y (some v)) (ry:RelV y u) (h:∀ w' s',Inv X pins σ H s'->RelV v w'->Q w' s') :
  wpAny (model X.prog X.w) A (getItem (.ref a) u) Q E s:=by
 rcases g with ⟨kvs,k,e,ey,l⟩ | ⟨kvs,k,b,e,ey,eb,l⟩
 ·subst ey
  obtain ⟨z,hd,vs,rel,dd⟩:=dk_rd I.hok e
  obtain ⟨w',hw,rw'⟩:=RelO.some_of (v:=v) (o:=valueAt vs k) (by rw [l];exact rel.val k)
  exact wpAny_getItem_of (kV_is ry) dd.mapOf hw (h w' _ (I.tok _) rw')
 ·subst ey
  cases (show u=Value.ref b from ry)
  obtain ⟨z,hd,xs,rel,dd⟩:=dt_rd I.hok e
  obtain ⟨w',hw,rw'⟩:=RelO.some_of (v:=v) (o:=(atKey xs k).map (·.2)) (by rw [l];exact rel.val k)
  obtain ⟨p,hp,hp2⟩:=Option.map_eq_some_iff.mp hw
  refine wpAny_getItem_heap (tupleKind_room_in1 hu) (key_of I.hok eb) dd hp ?_
  rw [hp2]
  exact h w' _ (I.tok _) rw'
theorem d_write {h':Heap} {t':Nat} {ob:HO} (I:Inv X pins σ H s) (mu:Mut (H a)) (hs:Heap.SameBut a s.heap h') (he:∃ q,h'.get? a=some q) (new:ObjOk X.prog X.w (upd H a ob) h' a ob) :
  Inv X pins σ (upd H a ob) { s with heap:=h',toks:=t' }:=
 I.write (x:=a) (e:=a) mu (.inl rfl) (λb q hb z=>(hs.2 b hb).trans z) he new
theorem dk_new {P:Program} {w:World} {H':Hp} {h':Heap} {kvs:List (Key×V)} {vs:List (Key×Value)} (z:kvs.length<=sizeLine) (hd:(a==sysModules)=false) (rel:KV kvs vs) (dd:h'.DictOf (mixKind P w) a vs) :
  ObjOk P w H' h' a (.dK kvs):=⟨z,hd,vs,rel,dd⟩
theorem d_setItem {H':Hp} {Q:Unit->Shared->Prop} (hu:A.units+1<cLine) (I:Inv X pins σ H s) (g:DPut H a y v H') (ry:RelV y u) (rv:RelV v r) (h:∀ s',Inv X pins σ H' s'->Q () s') :
  wpAny (model X.prog X.w) A (setItem (.ref a) u r) Q E s:=by
 rcases g with ⟨kvs,k,e,ey,l,eH⟩ | ⟨kvs,k,b,e,ey,eb,l,eH⟩
 ·subst ey eH
  obtain ⟨z,hd,vs,rel,dd⟩:=dk_of I.hok e
  have hz:vs.length<=sizeLine:=by rw [<- rel.length];exact z
  have hl:(putK kvs k v).length<=sizeLine:=by have:=length_putK kvs k v;omega
  refine wpAny_setItem_pairs (hsz:=hz) (kV_is ry) dd λh' dd' hs=>h _ ?_
  have he:∃ q,h'.get? a=some q:=let ⟨q,_,_,hq,_⟩:=dd';⟨q,hq⟩
  exact d_write I (by rw [e];exact True.intro) hs he (dk_new hl hd (rel.put k rv) dd')
 ·subst ey eH
  cases (show u=Value.ref b from ry)
  obtain ⟨z,hd,xs,rel,dd⟩:=dt_of I.hok e
  have hz:xs.length<=sizeLine:=by rw [<- Paired.length rel];exact z
  have hl:(putK kvs k v).length<=sizeLine:=by have:=length_putK kvs k v;omega
  refine wpAny_setItem_heap (hsz:=hz) (tupleKind_room_in1 hu) (key_of I.hok eb) dd λh' dd' hs=>h _ ?_
  obtain ⟨q,es,ep,hq,h2,h3,h4,_,h5⟩:=dd'
  refine d_write I (by rw [e];exact True.intro) hs ⟨q,hq⟩ ⟨hl,hd,_,(rel.put k eb rv).keeps λc ys ec=>?_,q,es,ep,hq,h2,h3,h4,h5⟩
  rw [upd_ne (ne_of ec e (λz=>nomatch z))]
  exact ec
end
section
variable {X:Cx} {pins:List (Addr×Obj)} {σ:St} {H:Hp} {s:Shared} {a:Addr} {kvs:List (Key×V)} {k:Key} {u:Value} {A:Around} {E:Value->Shared->Prop}
theorem d_len {Q:Value->Shared->Prop} (I:Inv X pins σ H s) (e:Rd H a (.dK kvs)) (h:∀ t s',Inv X pins σ H s'->Q (.int kvs.length t) s'):wpAny (model X.prog X.w) A (call (.builtin "len") [.ref a]) Q E s:=by
 obtain ⟨z,hd,vs,rel,dd⟩:=dk_rd I.hok e
 refine call_len_dict hd dd (by rw [<- rel.length];rw [sizeLine_eq] at z;omega) ?_
 rw [<- rel.length]
 exact h _ _ (I.tok _)
end
theorem dict_typeIs {X:Cx} {pins:List (Addr×Obj)} {σ:St} {H:Hp} {s:Shared} {a:Addr} {y:V} {o:Option V} (I:Inv X pins σ H s) (g:DGet H a y o):s.TypeIs (.ref a) "dict":=by
 rcases g with ⟨kvs,k,e,_,_⟩ | ⟨kvs,k,b,e,_,_,_⟩
 ·obtain ⟨_,_,vs,_,dd⟩:=dk_rd I.hok e
  exact dd.typeIs
 ·obtain ⟨_,_,xs,_,dd⟩:=dt_rd I.hok e
  exact dd.typeIs
theorem dk_empty {P:Program} {w:World} {H:Hp} (h:Heap) (hb:sysModules<h.objs.size):ObjOk P w H (h.push { cls:=.type "dict",data:=.dict #[] }) h.objs.size (.dK []):=
 ⟨Nat.zero_le _,beq_eq_false_iff_ne.mpr (Ne.symm (Nat.ne_of_lt hb)),[],.nil,Heap.DictOf.new h⟩
noncomputable def tPairs:List (TE×TE)->St->Hp->(List (V×V)->Hp->Prop)->Prop
 | [],_,H,Q=>Q [] H
 | (tk,tv) :: r,σ,H,Q=>tk σ H λx H1=>tv σ H1 λy H2=>tPairs r σ H2 λps H3=>Q ((x,y) :: ps) H3
noncomputable abbrev VV:List (V×V)->List (Value×Value)->Prop:=Paired λp q=>RelV p.1 q.1/\RelV p.2 q.2
noncomputable def PPs (X:Cx) (pos:Pos) (keys:List (Option Expr)) (values:List Expr) (trs:List (TE×TE)):Prop:=
 ∀ (pins:List (Addr×Obj)) (s:Shared) (σ:St) (H:Hp) (Q:List (V×V)->Hp->Prop),Inv X pins σ H s->tPairs trs σ H Q ->
  wpAny (model X.prog X.w) X.A (evalPairs (pairTrees keys values X.env pos)) (λvs s'=>∃ ps H',Inv X pins σ H' s'/\VV ps vs/\Q ps H') X.xe s
theorem pps_nil {X:Cx} {pos:Pos}:PPs X pos [] [] []:=λpins s σ H Q I h=>pairTrees_nil_walk ⟨[],H,I,.nil,h⟩
theorem pps_cons {X:Cx} {pos:Pos} {k v:Expr} {ks:List (Option Expr)} {vs:List Expr} {tk tv:TE} {trs:List (TE×TE)} (hk:PE X k tk) (hv:PE X v tv) (hr:PPs X pos ks vs trs) :
  PPs X pos (some k :: ks) (v :: vs) ((tk,tv) :: trs):=λpins s σ H Q I h=>
 pairTrees_cons_walk (thn (hk pins s σ H _ I h) λu s1 ⟨x,H1,I1,rx,q1⟩=>thn (hv pins s1 σ H1 _ I1 q1) λw2 s2 ⟨y,H2,I2,ry,q2⟩=>
  thn (hr pins s2 σ H2 _ I2 q2) λws s3 ⟨ps,H3,I3,rel,q3⟩=>⟨(x,y) :: ps,H3,I3,.cons ⟨rx,ry⟩ rel,q3⟩)
noncomputable def mergeK (kvs more:List (Key×V)):List (Key×V):=more.foldl (λacc kv=>putK acc kv.1 kv.2) kvs
theorem KV.merge:∀ {more:List (Key×V)} {rs:List (Key×Value)} {kvs:List (Key×V)} {vs:List (Key×Value)},KV more rs->KV kvs vs->KV (mergeK kvs more) (merged vs rs):=by
 intro more rs kvs vs r
 unfold KV at r
 induction r generalizing kvs vs with
 | nil=>intro q;exact q
 | @cons p q ps qs h t ih=>
  intro r0
  have e:KV (putK kvs p.1 p.2) (stored vs q.1 q.2):=by
   have:=r0.put p.1 h.2
   rw [<- h.1];exact this
  exact ih e
theorem length_mergeK:∀ (more kvs:List (Key×V)),(mergeK kvs more).length<=kvs.length+more.length
 | [],kvs=>by show kvs.length<=kvs.length+0;omega
 | p :: r,kvs=>by
  have h1:=length_mergeK r (putK kvs p.1 p.2)
  have h2:=length_putK kvs p.1 p.2
  show (mergeK (putK kvs p.1 p.2) r).length<=_
  rw [List.length_cons];omega
theorem carries_of {P:Program} {w:World}:∀ {kvs:List (Key×V)} {ws:List (Value×Value)},VV (kvs.map λkv=>(kV kv.1,kv.2)) ws->∃ rs,Carries (mixKind P w) ws rs/\KV kvs rs
 | [],_,r=>by rw [List.map_nil] at r;cases r;exact ⟨[],True.intro,.nil⟩
 | p :: kvs,_,r=>by
  rw [List.map_cons] at r
  cases r with
  | @cons a b as bs h t=>
   obtain ⟨rs,c,q⟩:=carries_of (P:=P) (w:=w) t
   obtain ⟨b1,b2⟩:=b
   exact ⟨(p.1,b2) :: rs,⟨kV_is h.1,rfl,c⟩,.cons ⟨rfl,h.2⟩ q⟩
noncomputable def tDisp (trs:List (TE×TE)):TE:=λσ H Q=>∀ p,H p=none->tPairs trs σ (upd H p (.dK [])) λps H2=>H2 p=some (.dK [])/\∃ kvs:List (Key×V),ps=kvs.map (λkv=>(kV kv.1,kv.2))/\kvs.length<=15/\Q (.ref p) (upd H2 p (.dK (mergeK [] kvs)))
theorem pe_disp {X:Cx} {pos:Pos} {keys:List (Option Expr)} {values:List Expr} {trs:List (TE×TE)} (h:PPs X pos keys values trs) (hall:keys.all (·.isSome)=true) (hl:keys.length=values.length) (h0:keys≠[])
  (h15:keys.length<=15):PE X (.Dict keys values pos) (tDisp trs):=by
 intro pins s σ H Q I q
 have hn:=I.hok.fresh (Nat.le_refl s.heap.objs.size)
 have I1:=I.laid (a:=s.heap.objs.size) (o:=.dK []) (h':=s.heap.push { cls:=.type "dict",data:=.dict #[] }) (t':=s.toks) (λ_ _ q=>Heap.get?_push_of_some _ q) (Nat.le_refl _) (dk_empty s.heap I.big)
 refine wpAny_Dict_walk (knd:=mixKind X.prog X.w) hall hl h0 h15 (thn (h pins _ σ _ _ I1 (q _ hn)) λws s2 ⟨ps,H2,I2,rel,e,kvs,ep,lk,q2⟩=>?_)
 subst ep
 obtain ⟨rs,c,rk⟩:=carries_of (P:=X.prog) (w:=X.w) rel
 obtain ⟨z,hd,vs0,r0,dd⟩:=dk_of I2.hok e
 cases r0
 refine ⟨rs,c,dd,λh' dd' hs=>⟨.ref s.heap.objs.size,_,?_,rfl,q2⟩⟩
 have hz:(mergeK [] kvs).length<=sizeLine:=by
  have h1:=length_mergeK kvs []
  rw [List.length_nil] at h1
  rw [sizeLine_eq];omega
 have he:∃ q,h'.get? s.heap.objs.size=some q:=let ⟨q,_,_,hq,_⟩:=dd';⟨q,hq⟩
 exact d_write I2 (by rw [e];exact True.intro) hs he (dk_new hz hd (rk.merge .nil) dd')
section
variable {X:Cx} {pins:List (Addr×Obj)} {σ:St} {H:Hp} {s:Shared} {a:Addr} {y d:V} {u r:Value} {o:Option V} {A:Around} {E:Value->Shared->Prop}
theorem d_get1 {Q:Value->Shared->Prop} (hu:A.units+1<cLine) (I:Inv X pins σ H s) (g:DGet H a y o) (ry:RelV y u) (h:∀ w' s',Inv X pins σ H s'->RelV (o.getD .non) w'->Q w' s') :
  wpAny (model X.prog X.w) A (call (.builtin "dict.get") [.ref a,u]) Q E s:=by
 rcases g with ⟨kvs,k,e,ey,l⟩ | ⟨kvs,k,b,e,ey,eb,l⟩
 ·subst ey
  obtain ⟨z,hd,vs,rel,dd⟩:=dk_rd I.hok e
  refine call_meetsIn PySem.F.slot_dict_get dd.typeIs PySem.F.entry_dict_get (PySem.F.args_dict_get_2 _ _) (meets_dict_get (mixKind X.prog X.w) a (kV_is ry) hd) ⟨_,dd.mapOf,h _ _ (I.tok _) ?_⟩
  rw [l]
  exact (rel.val k).getD rfl
 ·subst ey
  cases (show u=Value.ref b from ry)
  obtain ⟨z,hd,xs,rel,dd⟩:=dt_rd I.hok e
  refine call_meetsIn PySem.F.slot_dict_get dd.typeIs PySem.F.entry_dict_get (PySem.F.args_dict_get_2 _ _) (meetsH_dict_get (tupleKind (mixKind X.prog X.w)) a b hd) ⟨tupleKind_room_in1 hu,k,xs,key_of I.hok eb,dd,h _ _ (I.tok _) ?_⟩
  rw [l]
  exact (rel.val k).getD rfl
theorem d_get2 {Q:Value->Shared->Prop} (hu:A.units+1<cLine) (I:Inv X pins σ H s) (g:DGet H a y o) (ry:RelV y u) (rd:RelV d r) (h:∀ w' s',Inv X pins σ H s'->RelV (o.getD d) w'->Q w' s') :
  wpAny (model X.prog X.w) A (call (.builtin "dict.get") [.ref a,u,r]) Q E s:=by
 rcases g with ⟨kvs,k,e,ey,l⟩ | ⟨kvs,k,b,e,ey,eb,l⟩
 ·subst ey
  obtain ⟨z,hd,vs,rel,dd⟩:=dk_rd I.hok e
  refine call_meetsIn PySem.F.slot_dict_get dd.typeIs PySem.F.entry_dict_get (PySem.F.args_dict_get_3 _ _ _) (meets_dict_get_default (mixKind X.prog X.w) a (kV_is ry) hd r) ⟨_,dd.mapOf,h _ _ (I.tok _) ?_⟩
  rw [l]
  exact (rel.val k).getD rd
 ·subst ey
  cases (show u=Value.ref b from ry)
  obtain ⟨z,hd,xs,rel,dd⟩:=dt_rd I.hok e
  refine call_meetsIn PySem.F.slot_dict_get dd.typeIs PySem.F.entry_dict_get (PySem.F.args_dict_get_3 _ _ _) (meetsH_dict_get_default (tupleKind (mixKind X.prog X.w)) a b hd r) ⟨tupleKind_room_in1 hu,k,xs,key_of I.hok eb,dd,h _ _ (I.tok _) ?_⟩
  rw [l]
  exact (rel.val k).getD rd
end
end L2
namespace Att
open PySem PySem.W PySem.Calls PyProof.Rows
theorem ints_of_wellAll {P:Params} {h:Heap}:∀ (ns:List Int) (vs:List Value),WellAll P h vs (ns.map WData.int)->IntsAre vs ns:=by
 intro ns
 induction ns with
 | nil=>
  intro vs w
  rw [List.map_nil] at w
  cases w
  exact .nil
 | cons n ns ih=>
  intro vs w
  rw [List.map_cons] at w
  cases w with
  | cons a b=>
   cases a
   exact .cons _ _ (ih _ b)
theorem script_of {l:OpenLaw} {n:Nat} (hn:l.most=some n) {P:Params} {h:Heap} {args:List WData} {vals:List Value}
  (hpre:l.row.toRowW.claim.pre args=true) (hwl:WellAll P h vals args) :
  ∃ a vs ns,vals=[Value.ref a]/\args=[WData.list (ns.map WData.int)]/\h.get? a=some { cls:=.type "list",data:=.seq vs.toArray }/\IntsAre vs ns/\ns.length<=n:=by
 have hsh:WShape.hasAll [] args [.list .int]=true:=(pre_splitW hpre).1
 have hc:l.pre.holds [] { args:=args }=true:=(pre_splitW hpre).2
 obtain ⟨d,r,rfl,h1,h2⟩:=hasAllW_cons hsh
 obtain rfl:=hasAllW_nil h2
 obtain ⟨xs,rfl,h3⟩:=hasW_list h1
 obtain ⟨ns,rfl⟩:=items_int h3
 have hlen:ns.length<=n:=by
  unfold OpenLaw.pre at hc
  have h4:(WTm.not (.lt (.lit (.int (n:Int))) (.len (.arg 0)))).holds [] { args:=[.list (ns.map .int)] }=true:=by
   have h4:=(holds_andW hc).1
   rw [hn] at h4
   exact h4
  have h5:=condW_of h4 (w_not (w_lt w_lit (w_len_list (w_arg rfl))))
  rw [List.length_map] at h5
  refine Nat.le_of_not_lt λq=>?_
  have q':(n:Int)<((ns.length:Nat):Int):=by omega
  first
   | (rw [decide_eq_true q'] at h5;exact absurd h5 (by decide))
   | (simp at h5;omega)
 cases hwl with
 | cons w1 w2=>
  cases w2
  cases w1 with
  | list ho hall=>exact ⟨_,_,ns,rfl,rfl,ho,ints_of_wellAll ns _ hall,hlen⟩
theorem post_true (l:OpenLaw) (args:List WData):l.row.toRowW.claim.post args (.bool true) args=true:=
 postW_of (r:=l.row.toRowW) (X:=(true==true))
  (show WShape.has [] (.bool true) .bool=true by first | rfl | decide | simp [WShape.has,WShape.arms,WShape.armsAll])
  (show (WTm.eq .res (.lit (.bool true))).value [] { args:=args,res:=some (.bool true),after:=args }=some (.bool (true==true)) from w_eq_bool (w_res rfl) w_lit) rfl
theorem attach_call {l:OpenLaw} {n:Nat} {q:Program} {loose:List Str} {XP:(Str->Option Value)->Heap->Prop} {YP:World->Heap->Prop} {d:DefRec}
  (hn:l.most=some n) (hdf:d.params.defaults=[])
  (call:∀ (w:World) (s₀ s₁:Shared) (mg mb:Str->Option Value) (fa:Addr) (o:Obj) (pm cd doc:Value) (a:Addr) (vs:List Value) (ns:List Int),
   Ground q loose [] XP w s₀ mg mb s₁.heap->YP w s₁.heap ->
   s₁.heap.get? fa=some o->o.data=.func (docDef d.name d.params d.body d.scope pm cd doc)->s₁.heap.CodeRec cd d.name->mg d.name=some (.ref fa) ->
   s₁.heap.get? a=some { cls:=.type "list",data:=.seq vs.toArray }->IntsAre vs ns->ns.length<=n->s₁.gens=#[] ->
   codeAny (model l.prog w) callerA (.call (.ref fa) ⟨[.ref a],[]⟩) (λr s'=>r=.ok (.ret (.bool true))/\OldK s₁.heap s'.heap/\s'.os=s₁.os/\AllBare s'.gens) s₁) :
  WalkO q loose XP YP l.row.toRowW d [] (λf vs=>PySem.call f vs):=by
 intro w s₀ s₁ mg mb G Y fa o pm cd doc dV kV ho hd hcd hD hmg hg args vals as hpre hlay hrd hwl hlo
 obtain rfl:dV=.none:=Dflts.none hD hdf
 obtain rfl:kV=.none:=Dflts.noKw hD
 obtain ⟨a,vs,ns,rfl,rfl,hobj,hints,hlen⟩:=script_of hn hpre hwl
 refine enter_call (codeAny_mono (call w s₀ s₁ mg mb fa o pm cd doc a vs ns G Y ho (fd_plain hd) hcd hmg hobj hints hlen hg) λr s' hq=>?_)
 obtain ⟨rfl,h2,h3,h4⟩:=hq
 exact ⟨.inl ⟨.bool true,.bool true,[],rfl,λ_=>rfl,.bool true,post_true l _,λ_=>⟨List.Pairwise.nil,λ_ hm=>(nomatch hm)⟩⟩,h2,h3,h4⟩
end Att
namespace L2
open PySem PySem.Spec PyProof.Rows
theorem vals_ints:∀ {vs:List Value} {ns:List Int},IntsAre vs ns->Vals (ns.map V.int) vs
 | _,_,.nil=>.nil
 | _,_,.cons n t h=>.cons ⟨t,rfl⟩ (vals_ints h)
noncomputable def Only (H:Hp):Prop:=∀ b,H b=none\/∃ o xs,H b=some (.frz o (.lst xs))
theorem law_call {P:Program} {w:World} {K:PySem.W.Frag} {mg mb:Str->Option Value} {CX:CXT} {k:Nat} {fa a:Addr} {fd:FuncData} {x:Str} {sp:Sp} {s₁:Shared} {vs:List Value} {ns:List Int}
  (KX:K.In s₁.heap) (hns:s₁.heap.Ns mainGlobals mg) (hb:s₁.heap.Ns builtinsNs mb) (hbb:∀ x:Str,x ≠ "__name__"->mb x=bootBuiltins x) (hlim:s₁.heap.NoLimit) (hg:s₁.gens=#[])
  (ha:s₁.heap.get? a=some { cls:=.type "list",data:=.seq vs.toArray }) (hi:IntsAre vs ns) (hl:ns.length<=sizeLine) (hr:Room false k callerA)
  (F:∀ base:Heap,K.In base->base.Ns mainGlobals mg->FnOk P w K mg base CX k fa fd [x] sp) (hbind:∀ (s:Shared) (u:Value),BindsTo s fd ⟨[u],[]⟩ [(x,u)])
  (hsp:∀ H:Hp,Only H->SqL K H a (ns.map V.int)->sp [.ref a] H (λv _=>v=.bl true) λ_ _ _=>False)
  (hCX:∀ H e s',CX [] H s₁ (λ_ _ _=>False) e s'->False) :
  codeAny (model P w) callerA (.call (.ref fa) ⟨[.ref a],[]⟩) (λr s'=>r=.ok (.ret (.bool true))/\OldK s₁.heap s'.heap/\s'.os=s₁.os/\AllBare s'.gens) s₁:=by
 have rv:=vals_ints hi
 have lenV:=hi.length
 have core:∀ H:Hp,Only H->SqL K H a (ns.map V.int)->HOk P w H s₁.heap->(∀ b,H b≠none->b=a)->(H a≠none->K.lookup a=none) ->
   codeAny (model P w) callerA (.call (.ref fa) ⟨[.ref a],[]⟩) (λr s'=>r=.ok (.ret (.bool true))/\OldK s₁.heap s'.heap/\s'.os=s₁.os/\AllBare s'.gens) s₁:=by
  intro H hO hS hok hA hK
  have base_of:∀ {b:Addr} {o:Obj},s₁.heap.get? b=some o->H b=none->(hidT s₁.heap H).get? b=some o:=λe n=>hidT_get e n
  have noA:∀ {b:Addr} {o:Obj} {es:Array DictEntry} {ep:Nat},s₁.heap.get? b=some o->o.data=.dict es ep->H b=none:=λ{b o es ep} e d=>by
   cases q:H b with
   | none=>rfl
   | some u=>
    have e':b=a:=hA b (by rw [q];simp)
    subst e'
    rw [ha] at e;cases e
    have d':Data.seq vs.toArray _=Data.dict es ep:=d
    cases d'
  have nsK:∀ {b:Addr} {m:Str->Option Value},s₁.heap.Ns b m->(hidT s₁.heap H).Ns b m:=λ{b m} ⟨o,es,ep,e,d,r⟩=>⟨o,es,ep,base_of e (noA e d),d,r⟩
  have hKb:K.In (hidT s₁.heap H):=λb o e=>base_of (KX b o e) (by
   cases q:H b with
   | none=>rfl
   | some u=>
    have e':b=a:=hA b (by rw [q];simp)
    subst e'
    rw [hK (by rw [q];simp)] at e;cases e)
  have hM:Mod K mg (hidT s₁.heap H):=⟨hKb,nsK hns,⟨mb,nsK hb,hbb⟩,let ⟨mc,h1,h2⟩:=hlim;⟨mc,nsK h1,h2⟩⟩
  have e0:Env0 P w K mg (hidT s₁.heap H) callerA [] s₁ H:=⟨rfl,hM,λb o e=>of_hidT e,Nat.le_of_eq (hidT_size _ _),trivial,λb hb=>absurd (show b∈([]:List Addr) from hb) (by simp),hok,.of_eq hg⟩
  refine codeAny_mono ((F _ hKb (nsK hns)).run callerA [] s₁ H ⟨[.ref a],[]⟩ [.ref a] [.ref a] _ _ hr.any e0 (hbind s₁ (.ref a)) (.cons rfl .nil) (hsp H hO hS)) λr s' h=>?_
  cases r with
  | error e=>exact (hCX H e s' h).elim
  | ok fl=>
   cases fl with
   | next=>exact False.elim h
   | brk=>exact False.elim h
   | cont=>exact False.elim h
   | ret u=>
    obtain ⟨v,H',os,bare,un,hok',r',q⟩:=h
    have q':v=.bl true:=q
    subst q'
    obtain rfl:u=Value.bool true:=r'
    refine ⟨rfl,OldK.of_keep λb o e=>?_,os,bare⟩
    cases q:H b with
    | none=>exact un.keep b o e q (by intro z;exact absurd (show b∈([]:List Addr) from z) (by simp)) (by simp)
    | some u=>
     rcases hO b with z | ⟨ob,xs,z⟩
     ·rw [q] at z;cases z
     ·have z2:=un.frzs b ob _ z
      obtain ⟨e1,_⟩:=hok b _ z
      obtain ⟨e2,_⟩:=hok' b _ z2
      rw [e] at e1;cases e1
      exact e2
 cases hk:K.lookup a with
 | some o=>
  have e:=KX a o hk
  rw [ha] at e
  cases e
  refine core (λ_=>none) (λ_=>.inl rfl) (.inr ⟨_,vs.toArray,_,hk,rfl,rfl,rfl,by rw [List.size_toArray,lenV];exact hl,by simpa using rv⟩) (λb u z=>by have z':(none:Option HO)=some u:=z;cases z') (λb z=>absurd rfl z) λz=>absurd rfl z
 | none=>
  refine core (λb=>if b=a then some (.frz { cls:=.type "list",data:=.seq vs.toArray } (.lst (ns.map V.int))) else none) (λb=>?_) (.inl (.inr ⟨{ cls:=.type "list",data:=.seq vs.toArray },if_pos rfl⟩)) (λb u z=>?_) (λb z=>?_) λ_=>hk
  ·by_cases hb:b=a
   ·exact .inr ⟨_,_,if_pos hb⟩
   ·exact .inl (if_neg hb)
  ·by_cases hb:b=a
   ·have z':=(if_pos hb).symm.trans z
    cases z'
    subst hb
    exact ⟨ha,by rw [List.length_map];exact hl,vs,_,rv,ha⟩
   ·have z':=(if_neg hb).symm.trans z
    cases z'
  ·by_cases hb:b=a
   ·exact hb
   ·exact absurd (if_neg hb) z
end L2
namespace L2
open PySem PySem.Spec PyProof.Rows
theorem walk_of {l:PySem.W.OpenLaw} {n k:Nat} {q:Program} {loose:List Str} {XP:(Str->Option Value)->Heap->Prop} {YP:World->Heap->Prop} {d:DefRec} {K:Params->PySem.W.Frag} {CX:World->CXT} {sp:World->Sp} {x:Str}
  (hn:l.most=some n) (hn2:n<=sizeLine) (hdf:d.params.defaults=[]) (hr:Room false k callerA)
  (hY:∀ (w:World) (h:Heap),YP w h->(K w.params).In h)
  (F:∀ (w:World) (mg:Str->Option Value) (fa:Addr) (h:Heap),(K w.params).In h->h.Ns mainGlobals mg->mg d.name=some (.ref fa) ->
   ∃ fd:FuncData,(∀ (s:Shared) (u:Value),BindsTo s fd ⟨[u],[]⟩ [(x,u)]) /\
    ∀ base:Heap,(K w.params).In base->base.Ns mainGlobals mg->FnOk l.prog w (K w.params) mg base (CX w) k fa fd [x] (sp w))
  (hsp:∀ (w:World) (H:Hp) (a:Addr) (ns:List Int),ns.length<=n->Only H->SqL (K w.params) H a (ns.map V.int)->sp w [.ref a] H (λv _=>v=.bl true) λ_ _ _=>False)
  (hCX:∀ (w:World) (H:Hp) (s:Shared) (e:Value) (s':Shared),CX w [] H s (λ_ _ _=>False) e s'->False) :
  PySem.W.WalkO q loose XP YP l.row.toRowW d [] (λf vs=>PySem.call f vs):=by
 refine Att.attach_call hn hdf λw s₀ s₁ mg mb fa o pm cd doc a vs ns G Y ho hd hcd hmg hobj hints hlen hg=>?_
 have KX:=hY w _ Y
 obtain ⟨fd,hb,hF⟩:=F w mg fa _ KX G.T.g hmg
 exact law_call KX G.T.g G.T.b G.T.builtins G.T.nolimit hg hobj hints (Nat.le_trans hlen hn2) hr hF hb (λH hO hS=>hsp w H a ns hlen hO hS) λH e s'=>hCX w H s₁ e s'
end L2
namespace L2
open PySem PySem.Spec PyProof.Rows
noncomputable def defArgs (s:Stmt):Arguments:=match s with
 | .FunctionDef _ a _ _ _ _ _ _ _ _=>a
 | _=>{ posonlyargs:=[],args:=[],vararg:=none,kwonlyargs:=[],kw_defaults:=[],kwarg:=none,defaults:=[] }
noncomputable def defBody (s:Stmt):List Stmt:=match s with
 | .FunctionDef _ _ b _ _ _ _ _ _ _=>b
 | _=>[]
noncomputable def defScope (s:Stmt):Scope:=match s with
 | .FunctionDef _ _ _ _ _ _ sc _ _ _=>sc
 | _=>{ kind:=.function,names:=[],isGenerator:=false,isCoroutine:=false }
noncomputable abbrev CX0:CXT:=⟨λ_ _ _ _ _ _=>False,false⟩
noncomputable abbrev E0:XK:=λ_ _ _=>False
structure Fun (K:PySem.W.Frag) (x qual:Str) (st:Stmt) (f:Addr) (fd:FuncData):Prop where
 ex:∃ (oc:Value) (od:Option Addr) (kV doc pm:Value) (an:Option Addr) (cdv ct:Value) (osl:Array (Option Value)),
  fd=PySem.W.fnOf x qual (defArgs st) (defBody st) (defScope st) .none kV doc pm an cdv ct/\K.lookup f=some ⟨oc,od,.func fd,osl⟩/\PySem.W.codeIn K cdv qual=true
 kp:PySem.W.keepIn K (.ref f)=true
section
variable {P:Program} {w:World} {K:PySem.W.Frag} {mg:Str->Option Value} {base:Heap}
theorem Fun.binds {x qual:Str} {st:Stmt} {f:Addr} {fd:FuncData} {ps:List Str} (F:Fun K x qual st f fd)
  (h:∀ (kV doc pm:Value) (an:Option Addr) (cdv ct:Value) (us:List Value),us.length=ps.length->bindArgs (PySem.W.fnOf x qual (defArgs st) (defBody st) (defScope st) .none kV doc pm an cdv ct) ⟨us,[]⟩=pure (ps.zip us)):Binds K fd ps []:=by
 obtain ⟨oc,od,kV,doc,pm,an,cdv,ct,osl,rfl,lk,hcd⟩:=F.ex
 exact .all (h kV doc pm an cdv ct)
theorem fun_mk {x qual:Str} {st:Stmt} {f:Addr} {oc:Value} {od an:Option Addr} {osl:Array (Option Value)} {kV doc pm cdv ct:Value} (l:K.lookup f=some ⟨oc,od,.func (PySem.W.fnOf x qual (defArgs st) (defBody st) (defScope st) .none kV doc pm an cdv ct),osl⟩)
  (c:PySem.W.codeIn K cdv qual=true) (k:PySem.W.keepIn K (.ref f)=true):Fun K x qual st f (PySem.W.fnOf x qual (defArgs st) (defBody st) (defScope st) .none kV doc pm an cdv ct):=⟨⟨oc,od,kV,doc,pm,an,cdv,ct,osl,rfl,l,c⟩,k⟩
end
theorem hu_of {q:Bool} {A:Around} {k:Nat} (hr:Room q k A):A.units+1<cLine:=Nat.lt_of_le_of_lt (Nat.add_le_add_left (by decide:1<=64) _) hr.units
section
variable {X:Cx}
theorem call_lenD:CallR X (.builtin "len") (λxs H Q=>∃ a kvs,xs=[V.ref a]/\H a=some (.dK kvs)/\Q (.int kvs.length) H):=by
 intro pins s σ H xs us Q I r h
 obtain ⟨a,kvs,rfl,ha,q⟩:=h
 obtain ⟨u,rfl,ru⟩:=vals1 r
 cases ru
 exact d_len I (.inl ha) λt s' I'=>⟨.int kvs.length,H,I',⟨t,rfl⟩,q⟩
end
theorem iteT {A B:Prop} (h:A):if true=true then A else B:=by
 rw [if_pos rfl]
 exact h
end L2
end

section
set_option maxHeartbeats 4000000
namespace L2
open PySem PySem.Spec PyProof.Rows
theorem forIn_fold {α β:Type} (g:β->α->β) {f:α->β->Sem (ForInStep β)}:∀ (l:List α) (c:β),(∀ x∈l,∀ c,f x c=pure (.yield (g c x)))->forIn l c f=pure (l.foldl g c)
 | [],_,_=>rfl
 | x :: l,c,h=>by
  rw [List.forIn_cons,h x List.mem_cons_self,pure_bind]
  exact forIn_fold g l (g c x) λy hy=>h y (List.mem_cons_of_mem _ hy)
noncomputable def closStep (cells:List (Str×Addr)) (acc:List (Str×Addr)) (x:Str×NameKind):List (Str×Addr):=if x.2=NameKind.free then (x.1,(cells.lookup x.1).getD 0) :: acc else acc
noncomputable def closOf (cells:List (Str×Addr)) (names:List (Str×NameKind)):List (Str×Addr):=names.foldl (closStep cells) []
theorem closureFor_eq {scope:Scope} {env:Env} (h:∀ x∈scope.names,x.2=NameKind.free->∃ c,env.cells.lookup x.1=some c):closureFor scope env=pure (closOf env.cells scope.names):=by
 simp only [closureFor]
 rw [forIn_fold (closStep env.cells) scope.names [] (λx hx c=>by
  obtain ⟨n,k⟩:=x
  by_cases hk:k=NameKind.free
  ·subst hk
   obtain ⟨a,ha⟩:=h _ hx rfl
   simp [cellOf,closStep,ha]
  ·have:(k==NameKind.free)=false:=by simpa using hk
   simp [closStep,hk,this])]
 rfl
theorem clos_sound {cells:List (Str×Addr)}:∀ (names:List (Str×NameKind)) (acc:List (Str×Addr)),(∀ x∈names,x.2=NameKind.free->∃ c,cells.lookup x.1=some c)->(∀ x c,acc.lookup x=some c->cells.lookup x=some c) ->
  ∀ x c,(names.foldl (closStep cells) acc).lookup x=some c->cells.lookup x=some c
 | [],_,_,ha,x,c,e=>ha x c e
 | y :: r,acc,hn,ha,x,c,e=>by
  refine clos_sound r (closStep cells acc y) (λz hz=>hn z (List.mem_cons_of_mem _ hz)) (λz d q=>?_) x c e
  unfold closStep at q
  split at q
  ·rename_i hk
   obtain ⟨a,hy⟩:=hn y List.mem_cons_self hk
   rw [List.lookup_cons] at q
   split at q
   ·rename_i hz
    have hz':z=y.1:=by simpa using hz
    rw [hy] at q
    rw [hz',hy];exact q
   ·exact ha z d q
  ·exact ha z d q
theorem clos_keeps {cells:List (Str×Addr)}:∀ (names:List (Str×NameKind)) (acc:List (Str×Addr)) (x:Str),(acc.lookup x).isSome=true->((names.foldl (closStep cells) acc).lookup x).isSome=true
 | [],_,_,h=>h
 | y :: r,acc,x,h=>by
  refine clos_keeps r (closStep cells acc y) x ?_
  unfold closStep
  split
  ·rw [List.lookup_cons];split
   ·rfl
   ·exact h
  ·exact h
theorem clos_has {cells:List (Str×Addr)}:∀ (names:List (Str×NameKind)) (acc:List (Str×Addr)) (x:Str),(x,NameKind.free)∈names->((names.foldl (closStep cells) acc).lookup x).isSome=true
 | [],_,_,h=>nomatch h
 | y :: r,acc,x,h=>by
  rcases List.mem_cons.mp h with h | h
  ·subst h
   refine clos_keeps r _ x ?_
   simp [closStep]
  ·exact clos_has r _ x h
theorem mem_of_lookup {α β:Type} [BEq α] [LawfulBEq α]:∀ {l:List (α×β)} {x:α} {y:β},l.lookup x=some y->(x,y)∈l
 | [],_,_,h=>by simp at h
 | (a,b) :: r,x,y,h=>by
  rw [List.lookup_cons] at h
  split at h
  ·rename_i hx
   have:x=a:=by simpa using hx
   cases h;subst this;exact List.mem_cons_self
  ·exact List.mem_cons_of_mem _ (mem_of_lookup h)
theorem lookup_mapF {f:Str×NameKind->Str×NameKind} (hf:∀ y,(f y).1=y.1):∀ (l:List (Str×NameKind)) (x:Str),(l.map f).lookup x=(l.lookup x).map λk=>(f (x,k)).2
 | [],_=>rfl
 | (n,k) :: r,x=>by
  rw [List.map_cons,show f (n,k) :: r.map f=((f (n,k)).1,(f (n,k)).2) :: r.map f from rfl,List.lookup_cons,List.lookup_cons,hf]
  cases hx:x==n with
  | true=>
   have e:x=n:=by simpa using hx
   subst e;rfl
  | false=>exact lookup_mapF hf r x
noncomputable def rlF (env:Env) (y:Str×NameKind):Str×NameKind:=if (y.2==.free&&env.scope.kind==.function&&env.kindOf y.1==some .cell) then (y.1,.cell) else (y.1,y.2)
theorem rlF_fst (env:Env) (y:Str×NameKind):(rlF env y).1=y.1:=by unfold rlF;split <;> rfl
theorem relabel_lookup (scope:Scope) (env:Env) (x:Str):(relabel scope env).names.lookup x=(scope.names.lookup x).map λk=>(rlF env (x,k)).2:=lookup_mapF (f:=rlF env) (rlF_fst env) scope.names x
theorem relabel_names {scope:Scope} {env:Env} {x:Str} (h:scope.names.lookup x=some .free):(relabel scope env).names.lookup x=some .cell\/(relabel scope env).names.lookup x=some .free:=by
 rw [relabel_lookup,h]
 show some (rlF env (x,.free)).2=_\/some (rlF env (x,.free)).2=_
 unfold rlF
 split
 ·exact .inl rfl
 ·exact .inr rfl
theorem relabel_back {scope:Scope} {env:Env} {x:Str} {k:NameKind} (h:(relabel scope env).names.lookup x=some k) (hk:k=.cell\/k=.free) (hc:∀ y∈scope.names,y.2≠NameKind.cell):scope.names.lookup x=some .free:=by
 rw [relabel_lookup] at h
 cases e:scope.names.lookup x with
 | none=>rw [e] at h;cases h
 | some k'=>
  rw [e] at h
  have h':(rlF env (x,k')).2=k:=Option.some.inj h
  have hn:=hc (x,k') (mem_of_lookup e)
  unfold rlF at h'
  split at h'
  ·rename_i hb
   simp only [Bool.and_eq_true,beq_iff_eq] at hb
   exact congrArg some hb.1.1
  ·have h'':k'=k:=h'
   subst h''
   rcases hk with rfl | rfl
   ·exact absurd rfl hn
   ·rfl
theorem HOk.sameBut {P:Program} {w:World} {H:Hp} {h h':Heap} {a:Addr} (ok:HOk P w H h) (hf:H a=none) (hs:Heap.SameBut a h h'):HOk P w H h':=λb ob e=>by
 refine (ok b ob e).stay (λc w' hc q=>(hs.2 c ?_).trans q) (λ_ q=>q) λ_ _ q=>q
 rintro rfl
 rcases hc with rfl | hc
 ·rw [hf] at e;cases e
 ·rw [hf] at hc;cases hc
theorem Un.sameBut {fs ex:List Addr} {H H':Hp} {h h1 h':Heap} {C:Addr} (u:Un fs ex H H' h h1) (hs:Heap.SameBut C h1 h') (hC:h.objs.size<=C):Un fs ex H H' h h':=by
 have ne:∀ b o,h.get? b=some o->b≠C:=λb o e=>Nat.ne_of_lt (Nat.lt_of_lt_of_le (Heap.lt_size e) hC)
 exact ⟨λb o e n hb hx=>(hs.2 b (ne b o e)).trans (u.keep b o e n hb hx),λb o e n hb hx=>let ⟨sl,q⟩:=u.slot b o e n hb hx;⟨sl,(hs.2 b (ne b o e)).trans q⟩,u.free,
  λb o e hx=>let ⟨o',q⟩:=u.there b o e hx;⟨o',(hs.2 b (ne b o e)).trans q⟩,u.tups,u.frzs,u.tbls⟩
noncomputable def cxComp (X:Cx) (pins:List (Addr×Obj)) (N':List Str) (scope:Scope) (C:Addr) (fp:List Addr) (s:Shared) (H:Hp):Cx where
 prog:=X.prog
 w:=X.w
 K:=X.K
 mg:=X.mg
 base:=X.base
 A:=X.A
 N:=N'
 s₀:=s
 H₀:=H
 env:=compEnvC scope (closOf X.env.cells scope.names) C X.env
 outer:=X.stack
 stack:=X.stack
 ex:=fp
 fn:=λ_=>false
 calm:=X.calm
 pn:=X.pn++pins
 xe:=λ_ _=>False
structure CompText (N:List Str) (env:Env) (N':List Str) (k:Nat) (caps:List Nat) (scope:Scope):Prop where
 kind:scope.kind=.function
 cell:∀ y∈scope.names,y.2≠NameKind.cell
 loc:∀ y∈scope.names,y.2=NameKind.local->scope.names.lookup y.1=some .local
 free:∀ y∈scope.names,y.2=NameKind.free->scope.names.lookup y.1=some .free/\(env.scope.names.lookup y.1=some .cell\/env.scope.names.lookup y.1=some .free)
 cps:∀ (j i:Nat),caps[j]?=some i->∃ x,N[i]?=some x/\N'[k+j]?=some x/\scope.names.lookup x=some .free
 len:N'.length=k+caps.length
noncomputable def capd (caps:List Nat) (σ:St):St:=caps.map λi=>(σ[i]?).join
theorem capd_get {caps:List Nat} {σ:St} {j:Nat} {v:V} (h:(capd caps σ)[j]?=some (some v)):∃ i,caps[j]?=some i/\σ[i]?=some (some v):=by
 unfold capd at h
 rw [List.getElem?_map] at h
 cases e:caps[j]? with
 | none=>rw [e] at h;cases h
 | some i=>
  rw [e] at h
  refine ⟨i,rfl,?_⟩
  have h':(σ[i]?).join=some v:=Option.some.inj h
  cases q:σ[i]? with
  | none=>rw [q] at h';cases h'
  | some o=>rw [q] at h';exact congrArg some h'
section
variable {X:Cx} {pins:List (Addr×Obj)} {σ:St} {H:Hp} {s:Shared} {N':List Str} {k:Nat} {caps:List Nat} {scope:Scope} {fp:List Addr}
theorem comp_ok (T:CompText X.N X.env N' k caps scope) (I:Inv X pins σ H s) (hf:∀ b∈fp,FpOk X pins H b) {C:Addr} (hC:s.heap.objs.size<=C) (hlt:∀ b∈fp,b<s.heap.objs.size):(cxComp X pins N' scope C fp s H).Ok:=by
 have fr:∀ x∈scope.names,x.2=NameKind.free->∃ c,X.env.cells.lookup x.1=some c:=λx hx hk=>I.ok.has x.1 (T.free x hx hk).2
 have snd:∀ x c,(closOf X.env.cells scope.names).lookup x=some c->X.env.cells.lookup x=some c:=clos_sound scope.names [] fr λx c e=>by simp at e
 refine ⟨I.mod,?_,I.ok.glob,I.ok.blt,hC,λx y c a b=>I.ok.inj x y c (snd x c a) (snd y c b),λx hx=>?_,λx c hfn=>(by cases hfn),I.ok.hd,I.ok.frames,.inl rfl,λb hb=>⟨?_,λx c e=>(hf b hb).2.2.2.2.1 x c (snd x c e)⟩,I.bs,?_,λb o e hb=>?_,λb hb hfs=>?_,I.stack,I.stkFree⟩
 ·exact T.kind
 ·have h:scope.names.lookup x=some .free:=by
   rcases hx with hx | hx
   ·exact relabel_back hx (.inl rfl) T.cell
   ·exact relabel_back hx (.inr rfl) T.cell
  exact Option.isSome_iff_exists.mp (clos_has scope.names [] x (mem_of_lookup h))
 ·exact Nat.ne_of_lt (Nat.lt_of_lt_of_le (hlt b hb) hC)
 ·exact Nat.le_trans I.ok.bsz I.sz
 ·rcases (hf b hb).2.2.2.1 with z | z
  ·exact I.ok.noex b o e z
  ·exact absurd (Nat.lt_of_lt_of_le (Heap.lt_size (I.ok.bs b o e).1) z) (Nat.lt_irrefl _)
 ·rcases List.mem_cons.mp (I.stkSub b hfs) with z | z
  ·exact (hf b hb).2.1 z
  ·exact (hf b hb).2.2.1 z
theorem comp_start (T:CompText X.N X.env N' k caps scope) (I:Inv X pins σ H s) (hf:∀ b∈fp,FpOk X pins H b) (hlt:∀ b∈fp,b<s.heap.objs.size) {h':Heap} {m:Str->Option Value} {t:Nat}
  (hn:h'.Ns (s.heap.objs.size+1) m) (hk:∀ b o,s.heap.get? b=some o->h'.get? b=some o) (ha:h'.get? s.heap.objs.size=some { cls:=.type "list",data:=.seq #[] }) :
  Inv (cxComp X pins N' scope (s.heap.objs.size+1) fp s H) [] (List.replicate k none++capd caps σ) (upd H s.heap.objs.size (.lst [])) { s with heap:=h',toks:=t }:=by
 have ok:=comp_ok T I hf (C:=s.heap.objs.size+1) (Nat.le_succ _) hlt
 have fr:∀ x∈scope.names,x.2=NameKind.free->∃ c,X.env.cells.lookup x.1=some c:=λx hx hk=>I.ok.has x.1 (T.free x hx hk).2
 have snd:∀ x c,(closOf X.env.cells scope.names).lookup x=some c->X.env.cells.lookup x=some c:=clos_sound scope.names [] fr λx c e=>by simp at e
 have nacc:H s.heap.objs.size=none:=I.hok.fresh (Nat.le_refl _)
 have lt:∀ b u,H b=some u->b<s.heap.objs.size:=λb u e=>I.hok.lt e
 refine ⟨ok,rfl,I.bare,Un.laid hk (Nat.le_refl _) nacc,⟨m,hn,λi x v e1 e2 e3=>?_⟩,λx c e=>?_,?_,λx c e=>?_,λp hp=>?_,I.hok.laid hk (Nat.le_refl _) ⟨Nat.zero_le _,[],_,.nil,ha⟩,?_⟩
 ·by_cases hi:i<k
  ·rw [List.getElem?_append_left (by simpa using hi)] at e2
   simp [hi] at e2
  ·rw [List.getElem?_append_right (by simpa using Nat.le_of_not_lt hi)] at e2
   rw [List.length_replicate] at e2
   obtain ⟨j,hj,hv⟩:=capd_get e2
   obtain ⟨y,h1,h2,h3⟩:=T.cps _ _ hj
   have hik:k+(i-k)=i:=by omega
   rw [hik] at h2
   have hxy:y=x:=Option.some.inj (h2.symm.trans e1)
   subst hxy
   have hvis:=(T.free (y,.free) (mem_of_lookup h3) rfl).2
   obtain ⟨mX,hnX,hlX⟩:=I.loc
   obtain ⟨u,r,l⟩:=hlX j y v h1 hv (by rcases hvis with z | z;exact .inr (.inl z);exact .inr (.inr z))
   refine ⟨u,r,?_⟩
   rcases l with ⟨hk',_⟩ | ⟨_,c,hc,hcell⟩
   ·have hk'':X.env.scope.names.lookup y=some .local:=hk'
    rcases hvis with z | z
    ·rw [hk''] at z;cases z
    ·rw [hk''] at z;cases z
   ·obtain ⟨c',hc'⟩:=Option.isSome_iff_exists.mp (clos_has (cells:=X.env.cells) scope.names [] y (mem_of_lookup h3))
    have:c'=c:=Option.some.inj ((snd y c' hc').symm.trans hc)
    subst this
    obtain ⟨oc,ho,hd⟩:=hcell
    exact .inr ⟨relabel_names h3,c',hc',oc,hk _ _ ho,hd⟩
 ·obtain ⟨v,oc,ho,hd⟩:=I.cell x c (snd x c e)
  exact ⟨v,oc,hk _ _ ho,hd⟩
 ·show upd H s.heap.objs.size (.lst []) (s.heap.objs.size+1)=none
  rw [upd_ne (Nat.succ_ne_self _)]
  exact I.hok.fresh (Nat.le_succ _)
 ·obtain ⟨v,oc,ho,hd⟩:=I.cell x c (snd x c e)
  rw [upd_ne (Nat.ne_of_lt (Heap.lt_size ho))]
  exact I.freeC x c (snd x c e)
 ·have hp':p∈X.pn++pins:=by
   have:p∈(X.pn++pins)++[]:=hp
   rwa [List.append_nil] at this
  obtain ⟨e,n,ne,nf,d⟩:=I.pin p hp'
  refine ⟨hk _ _ e,?_,Nat.ne_of_lt (Nat.lt_succ_of_lt (Heap.lt_size e)),λhb=>?_,d⟩
  ·rw [upd_ne (Nat.ne_of_lt (Heap.lt_size e))];exact n
  ·rcases List.mem_cons.mp (I.stkSub p.1 hb) with z | z
   ·exact ne z
   ·exact nf z
 ·show _=N'.length
  rw [T.len,List.length_append,List.length_replicate]
  unfold capd
  rw [List.length_map]
end
noncomputable def PTL (X:Cx) (ifs:List Expr) (t:TT):Prop:=
 ∀ (pins:List (Addr×Obj)) (s:Shared) (σ:St) (H:Hp) (Q:Bool->Hp->Prop),Inv X pins σ H s->t σ H Q ->
  wpAny (model X.prog X.w) X.A (forIn ifs true λc r=>if r=true then do let ok <- isTrue c X.env (eval c X.env);pure (ForInStep.yield ok) else pure (ForInStep.yield r)) (TP X pins σ Q) X.xe s
noncomputable def tTrue:TT:=λ_ H Q=>Q true H
theorem ptl_nil {X:Cx}:PTL X [] tTrue:=λ_ _ _ H _ I h=>by
 rw [List.forIn_nil]
 exact wpAny_pure ⟨H,I,h⟩
theorem ptl_one {X:Cx} {c:Expr} {t:TT} (h:PT X c t):PTL X [c] t:=λpins s σ H Q I q=>by
 rw [List.forIn_cons]
 refine wpAny_bind ?_
 rw [if_pos rfl]
 refine wpAny_bind (thn (h pins s σ H Q I q) λb s' ⟨H',I',q'⟩=>wpAny_pure ?_)
 dsimp only
 rw [List.forIn_nil]
 exact wpAny_pure ⟨H',I',q'⟩
noncomputable def tComp (caps:List Nat) (wi:TI) (tc:TT) (te:TE):TE:=λσ H Q=>wi σ H λJ H1=>∀ acc,H1 acc=none->∃ W:Nat->Nat->List V->Hp->Prop,(∃ m,W 0 m [] (upd H1 acc (.lst []))) /\
 ∀ i m ys H2,W i m ys H2->H2 acc=some (.lst ys)/\((J.stop i H2/\Q (.ref acc) H2)\/(J.go i H2/\∀ x H3,J.yld i H2 x H3->tc (some x :: capd caps σ) H3 λb H5=>
  if b=true then te (some x :: capd caps σ) H5 λy H6=>H6 acc=some (.lst ys)/\ys.length<sizeLine/\∃ m',m'<m/\W (i+1) m' (ys++[y]) (upd H6 acc (.lst (ys++[y])))
  else ∃ m',m'<m/\W (i+1) m' ys H5))
theorem wpAny_unpure {M:Model} {A:Around} {E:Value->Shared->Prop} {s:Shared} {α:Type} {t:Sem α} {Q:α->Shared->Prop} {u:Sem Unit} (hu:u=pure ()) (h:wpAny M A u (λ_ s1=>wpAny M A t Q E s1) E s):wpAny M A t Q E s:=by
 have h1:=wpAny_bind (f:=λ_=>t) h
 rw [hu,pure_bind] at h1
 exact h1
theorem wpAny_nox {M:Model} {A:Around} {E:Value->Shared->Prop} {s:Shared} {α:Type} {t:Sem α} {Q:α->Shared->Prop} (h:wpAny M A t Q (λ_ _=>False) s):wpAny M A t Q E s:=wpAny_mono h (λ_ _ q=>q) λ_ _ q=>q.elim
theorem pe_comp {X:Cx} {elt iter:Expr} {x:Str} {px:Pos} {ifs:List Expr} {scope:Scope} {pos:Pos} {N':List Str} {caps:List Nat} {wi:TI} {tc:TT} {te:TE}
  (T:CompText X.N X.env N' 1 caps scope) (hc:X.calm=true) (hN:N'.Nodup) (hx0:N'[0]?=some x) (hxl:scope.names.lookup x=some .local) (hi:PI X (.Name x px) iter wi)
  (ht:∀ pins C fp s H,PTL (cxComp X pins N' scope C fp s H) ifs tc) (he:∀ pins C fp s H,PE (cxComp X pins N' scope C fp s H) elt te)
  (hs:∀ x,foldedSetIterable iter X.env x=pure x:=by intro _;rfl):PE X (.ListComp elt [⟨.Name x px,iter,ifs,0⟩] scope pos) (tComp caps wi tc te):=by
 intro pins s σ H Q I h
 have fr:∀ x∈scope.names,x.2=NameKind.free->∃ c,X.env.cells.lookup x.1=some c:=λx hx hk=>I.ok.has x.1 (T.free x hx hk).2
 rw [eval_ListComp]
 refine wpAny_comprehension_free (use:=none) rfl hs (closureFor_eq fr) T.kind T.loc ?_
 refine thn (hi pins s σ H _ I h) λv s1 h1=>thn h1 λitv s2 h2=>?_
 obtain ⟨it,fp,tn,J,H2,rfl,I2,Tn,st2,f2,h2⟩:=h2
 obtain ⟨W,⟨m0,w0⟩,turn⟩:=h2 s2.heap.objs.size (I2.hok.fresh (Nat.le_refl _))
 have hlt:∀ b∈fp,b<s2.heap.objs.size:=λb hb=>let ⟨o,e,_⟩:=Tn.obj _ _ st2 b hb;Heap.lt_size e
 refine wpAny_newObj_type (wpAny_newFunctionEnv T.cell (by intro y hy;simp at hy) (λh₁ hns₁ hsb₁=>?_) T.kind)
 dsimp only at hns₁ hsb₁ ⊢
 have hC:(s2.heap.push { cls:=.type "list",dict:=none,data:=.seq ([]:List Value).toArray }).objs.size=s2.heap.objs.size+1:=Heap.size_push ..
 rw [hC] at hns₁ hsb₁
 have old:∀ b o,s2.heap.get? b=some o->h₁.get? b=some o:=λb o e=>hsb₁.extBut b o (Nat.ne_of_lt (Nat.lt_succ_of_lt (Heap.lt_size e))) (Heap.get?_push_of_some _ (Heap.get?_push_of_some _ e))
 have hacc:h₁.get? s2.heap.objs.size=some { cls:=.type "list",data:=.seq #[] }:=hsb₁.extBut _ _ (Nat.ne_of_lt (Nat.lt_succ_self _)) (Heap.get?_push_of_some _ (Heap.get?_push_size _ rfl))
 have hst₁:tn 0 h₁:=Tn.keep _ _ _ st2 λb _ o e=>old b o e
 have I3:=comp_start (t:=s2.toks+([]:List (Str×Value)).length) T I2 f2 hlt hns₁ old hacc
 have stat:∀ {H':Hp},(∀ b∈fp,H' b=none)->∀ b∈fp,FpOk (cxComp X pins N' scope (s2.heap.objs.size+1) fp s2 H2) [] H' b:=λhn b hb=>by
  refine ⟨hn b hb,(I3.ok.exf b hb).1,I3.ok.exfs b hb,.inl hb,(I3.ok.exf b hb).2,λp hp=>?_⟩
  have hp':p∈X.pn++pins:=by
   have:p∈(X.pn++pins)++[]:=hp
   rwa [List.append_nil] at this
  exact (f2 b hb).2.2.2.2.2 p hp'
 have loop:∀ s3:Shared,s3={ s2 with heap:=h₁,toks:=s2.toks+([]:List (Str×Value)).length } ->
   codeAny (model X.prog X.w) X.A (.compLoop (.ListComp elt [⟨.Name x px,iter,ifs,0⟩] scope pos) 0 (.ref it) (.ref s2.heap.objs.size) (compEnvC scope (closOf X.env.cells scope.names) (s2.heap.objs.size+1) X.env))
    (compPost (model X.prog X.w) X.A X.xe none (EP X pins σ Q) (.ref s2.heap.objs.size) (s2.heap.objs.size+1)) s3:=by
  rintro s3 rfl
  refine codeAny_compLoop_tests (λn s'=>∃ i ys H',Inv (cxComp X pins N' scope (s2.heap.objs.size+1) fp s2 H2) [] (none :: capd caps σ) H' s'/\tn i s'.heap/\(∀ b∈fp,H' b=none)/\W i n ys H') ?_ m0
   ⟨0,[],_,I3,hst₁,λb hb=>by rw [upd_ne (Nat.ne_of_lt (hlt b hb))];exact (f2 b hb).1,w0⟩ (λ_=>rfl)
  rintro n s4 ⟨i,ys,H4,I4,st4,fr4,w4⟩
  obtain ⟨hacc4,turn4⟩:=turn i n ys H4 w4
  refine wpAny_nox ?_
  rcases turn4 with ⟨stop,q⟩ | ⟨go,step⟩
  ·refine thn (Tn.done (cxComp X pins N' scope (s2.heap.objs.size+1) fp s2 H2) rfl rfl rfl hc i [] s4 _ H4 (λ_ _=>False) I4 (stat fr4) st4 stop) λr s5 ⟨hr,I5⟩=>?_
   subst hr
   obtain ⟨m5,hn5,_⟩:=id I5.loc
   refine ⟨m5,hn5,λh' hs'=>?_⟩
   refine ⟨.ref s2.heap.objs.size,H4,?_,rfl,q⟩
   refine I2.call' (ch:=fp) (s':={ s5 with heap:=h' }) I5.os (Un.sameBut I5.base hs' (Nat.le_succ _)) (I5.hok.sameBut I5.free hs') I5.bare λb hb=>?_
   have:=f2 b hb
   exact ⟨this.2.2.2.1,this.2.1,this.2.2.2.2.1,this.2.2.2.2.2⟩
  ·refine thn (Tn.item (cxComp X pins N' scope (s2.heap.objs.size+1) fp s2 H2) rfl rfl rfl hc i [] s4 _ H4 (λ_ _=>False) I4 (stat fr4) st4 go) λr s5 ⟨u,hr,h5⟩=>?_
   subst hr
   dsimp only
   refine wpAny_nox (wpAny_unpure (u:=letOwnedTupleGo (.Name x px) (.ref it) u) rfl (thn h5 λ_ s6 ⟨xv,H6,I6,r6,y6,st6,fr6⟩=>?_))
   have I6':=I6.pinned (stat fr6) (Tn.obj _ _ st6)
   refine thn (pg_name (X:=cxComp X pins N' scope (s2.heap.objs.size+1) fp s2 H2) (i:=0) hN hx0 (.inl (lookup_relabel_local hxl)) (.inr (lookup_relabel_local hxl)) _ s6 _ H6 xv u (λσ2 H4=>σ2=some xv :: capd caps σ/\H4=H6) I6' r6 ⟨rfl,rfl⟩) λ_ s7 ⟨σ7,H7,I7,e7,e7'⟩=>?_
   subst e7 e7'
   have back:∀ {σ8:St} {H8:Hp} {s8:Shared},Inv (cxComp X pins N' scope (s2.heap.objs.size+1) fp s2 H2) ([]++pinsAt fp s6.heap) σ8 H8 s8->tn (i+1) s8.heap/\∀ b∈fp,H8 b=none:=λ{σ8 H8 s8} I8=>by
    refine ⟨Tn.keep _ _ _ st6 λb hb o e=>(I8.pin (b,o) (List.mem_append_right _ (List.mem_append_right _ (mem_pinsAt hb e)))).1,λb hb=>?_⟩
    obtain ⟨o,e,d⟩:=Tn.obj _ _ st6 b hb
    exact (I8.pin (b,o) (List.mem_append_right _ (List.mem_append_right _ (mem_pinsAt hb e)))).2.1
   refine wpAny_nox (thn (ht pins _ fp s2 H2 _ s7 _ _ _ I7 (step xv _ y6)) λb s8 ⟨H8,I8,q8⟩=>?_)
   have wk:∀ {H9:Hp} {s9:Shared},Inv (cxComp X pins N' scope (s2.heap.objs.size+1) fp s2 H2) ([]++pinsAt fp s6.heap) (some xv :: capd caps σ) H9 s9->Inv (cxComp X pins N' scope (s2.heap.objs.size+1) fp s2 H2) [] (none :: capd caps σ) H9 s9:=λ{H9 s9} I9=>
    I9.unpinned.weak rfl λj v e=>by
     cases j with
     | zero=>simp at e
     | succ j=>simpa using e
   cases b with
   | false=>
    obtain ⟨m',hm,w'⟩:=q8
    exact ⟨m',hm,i+1,ys,H8,wk I8,(back I8).1,(back I8).2,w'⟩
   | true=>
    refine wpAny_nox (thn (he pins _ fp s2 H2 _ s8 _ H8 _ I8 q8) λz s9 ⟨y,H9,I9,r9,hacc9,hl9,m',hm,w'⟩=>?_)
    refine wpAny_nox (thn (mt_append (X:=cxComp X pins N' scope (s2.heap.objs.size+1) fp s2 H2) _ s9 _ H9 (.ref s2.heap.objs.size) [y] (.ref s2.heap.objs.size) [z] (λ_ H'=>H'=upd H9 s2.heap.objs.size (.lst (ys++[y]))) I9 rfl (.cons r9 .nil) ⟨_,ys,y,rfl,rfl,hacc9,hl9,rfl⟩) λ_ s10 ⟨_,H10,I10,_,e10⟩=>?_)
    subst e10
    exact ⟨m',hm,i+1,ys++[y],_,wk I10,(back I10).1,(back I10).2,w'⟩
 have fin:=codeAny_compStart_list (loop _ rfl) (Tn.self _ 0 _ _ _ hst₁ (loop _ rfl))
 rw [<- hC] at fin
 exact fin
set_option maxHeartbeats 1000000
set_option maxHeartbeats 2000000
end L2
end
section
set_option maxHeartbeats 1000000
namespace L2
open PySem PySem.Spec PyProof.Rows
mutual
inductive DAt (K:PySem.W.Frag) (H:Hp):V->PyData->Prop where
 | non:DAt K H .non .none
 | bl (b:Bool):DAt K H (.bl b) (.bool b)
 | int (i:Int):DAt K H (.int i) (.int i)
 | str (x:Str):DAt K H (.str x) (.str x)
 | lst {a:Addr} {xs:List V} {ds:List PyData}:SqL K H a xs->DAll K H xs ds->DAt K H (.ref a) (.list ds)
 | tup {a:Addr} {xs:List V} {ds:List PyData}:SqT K H a xs->DAll K H xs ds->DAt K H (.ref a) (.tuple ds)
inductive DAll (K:PySem.W.Frag) (H:Hp):List V->List PyData->Prop where
 | nil:DAll K H [] []
 | cons {x:V} {d:PyData} {xs:List V} {ds:List PyData}:DAt K H x d->DAll K H xs ds->DAll K H (x :: xs) (d :: ds)
end
section
variable {X:Cx} {pins:List (Addr×Obj)} {σ:St} {H:Hp} {s:Shared}
mutual
theorem DAt.reads (I:Inv X pins σ H s):∀ {v:V} {d:PyData},DAt X.K H v d->∀ {u:Value},RelV v u->∃ as,Reads s.heap u d as
 | _,_,.non,u,r=>by cases (show u=Value.none from r);exact ⟨_,.none⟩
 | _,_,.bl b,u,r=>by cases (show u=Value.bool b from r);exact ⟨_,.bool b⟩
 | _,_,.int i,u,r=>by obtain ⟨t,e⟩:=(show ∃ t,u=Value.int i t from r);subst e;exact ⟨_,.int i t⟩
 | _,_,.str x,u,r=>by obtain ⟨t,e⟩:=(show ∃ t,u=Value.str x t from r);subst e;exact ⟨_,.str x t⟩
 | _,_,.lst (a:=a) h q,u,r=>by
  cases (show u=Value.ref a from r)
  obtain ⟨its,rv,⟨o,n,e1,e2,e3,e4⟩,_⟩:=I.list h
  obtain ⟨as,ra⟩:=DAll.reads I q rv
  exact ⟨_,.list e1 e2 e4 ra⟩
 | _,_,.tup (a:=a) h q,u,r=>by
  cases (show u=Value.ref a from r)
  obtain ⟨its,rv,⟨o,e1,e2,n,e4⟩,_⟩:=I.tuple h
  obtain ⟨as,ra⟩:=DAll.reads I q rv
  exact ⟨_,.tuple e1 e2 e4 ra⟩
theorem DAll.reads (I:Inv X pins σ H s):∀ {vs:List V} {ds:List PyData},DAll X.K H vs ds->∀ {us:List Value},Vals vs us->∃ as,ReadsAll s.heap us ds as
 | _,_,.nil,us,r=>by cases r;exact ⟨_,.nil⟩
 | _,_,.cons h q,us,r=>by
  cases r with
  | cons r1 r2=>
   obtain ⟨as,h1⟩:=DAt.reads I h r1
   obtain ⟨bs,h2⟩:=DAll.reads I q r2
   exact ⟨_,.cons h1 h2⟩
end
structure Shows (d:PyData):Prop where
 sh:d.showable=true
 nd:d.hasDict=false
 dp:d.depth<=60
 sz:d.shown.length<=sizeLine
theorem call_repr (hg:X.A.guards=some []) (hu:X.A.units+64<cLine):CallR X (.builtin "repr") (λxs H Q=>∃ v d,xs=[v]/\DAt X.K H v d/\Shows d/\Q (.str d.shown) H):=by
 intro pins s σ H xs us Q I r h
 obtain ⟨v,d,rfl,hd,S,q⟩:=h
 obtain ⟨u,rfl,ru⟩:=vals1 r
 have sh:=S.sh
 have sz:=S.sz
 cases hd with
 | non=>cases (show u=Value.none from ru);exact PySem.P.repr_of_none ⟨.str (PyData.shown .none),H,I.tok _,⟨_,rfl⟩,q⟩
 | bl b=>cases (show u=Value.bool b from ru);exact PySem.P.repr_of_bool ⟨.str (PyData.shown (.bool b)),H,I.tok _,⟨_,rfl⟩,q⟩
 | int i=>obtain ⟨t,e⟩:=(show ∃ t,u=Value.int i t from ru);subst e;exact PySem.P.repr_of_int (by simpa [PyData.showable] using sh) ⟨.str (PyData.shown (.int i)),H,I.tok _,⟨_,rfl⟩,q⟩
 | str x=>obtain ⟨t,e⟩:=(show ∃ t,u=Value.str x t from ru);subst e;exact PySem.P.repr_of_str ⟨.str (PyData.shown (.str x)),H,I.tok _,⟨_,rfl⟩,q⟩ sz
 | lst h1 h2=>
  obtain ⟨as,rr⟩:=DAt.reads I (.lst h1 h2) ru
  obtain ⟨a,rfl⟩:=isRef_of_reads rr rfl
  exact repr_of_reads' rr sh (PyData.noDict_hsm S.nd) hg (by have:=S.dp;omega) (λ_ _ e=>e) (λh' u tk hk=>⟨.str (PyData.shown _),H,I.kept hk,⟨_,rfl⟩,q⟩) sz
 | tup h1 h2=>
  obtain ⟨as,rr⟩:=DAt.reads I (.tup h1 h2) ru
  obtain ⟨a,rfl⟩:=isRef_of_reads rr rfl
  exact repr_of_reads' rr sh (PyData.noDict_hsm S.nd) hg (by have:=S.dp;omega) (λ_ _ e=>e) (λh' u tk hk=>⟨.str (PyData.shown _),H,I.kept hk,⟨_,rfl⟩,q⟩) sz
end
end L2
end

section
set_option maxHeartbeats 1000000
namespace L2
open PySem PySem.Spec PyProof.Rows
noncomputable def rEqD (K:PySem.W.Frag) (neg:Bool):R2:=λx y H Q=>∃ d e,DAt K H x d/\DAt K H y e/\d.canLay0=true/\e.canLay0=true/\min d.depth e.depth<=60/\Q (.bl (if neg then !PyData.eqv d e else PyData.eqv d e)) H
section
variable {X:Cx}
theorem op_eqD (hu:X.A.units+64<cLine):OpR X (compareOp .Eq) (rEqD X.K false):=by
 intro pins s σ H x y v u Q I rx ry h
 obtain ⟨d,e,hd,he,c1,c2,dp,q⟩:=h
 obtain ⟨as,r1⟩:=hd.reads I rx
 obtain ⟨bs,r2⟩:=he.reads I ry
 exact SeqAt.compareEq_reads r1 r2 c1 c2 (by omega) ⟨.bl (PyData.eqv d e),H,I,rfl,q⟩
theorem op_neD (hu:X.A.units+64<cLine):OpR X (compareOp .NotEq) (rEqD X.K true):=by
 intro pins s σ H x y v u Q I rx ry h
 obtain ⟨d,e,hd,he,c1,c2,dp,q⟩:=h
 obtain ⟨as,r1⟩:=hd.reads I rx
 obtain ⟨bs,r2⟩:=he.reads I ry
 exact SeqAt.compareNe_reads r1 r2 c1 c2 (by omega) ⟨.bl (!PyData.eqv d e),H,I,rfl,q⟩
end
end L2
end
section
set_option maxHeartbeats 4000000
namespace L2
open PySem PySem.W PySem.Calls PyProof.Rows
noncomputable def excIn (K:Frag) (C:Addr):Bool:=match K.lookup C with
 | some ⟨oc,_,.cls cd,sl⟩=>oc==.type "type" && !cd.hasDel&&cd.hasDict&&(sl.toList[4]?).join==some (.builtin "ValueError.__new__")&&!cd.mro.isEmpty&&cd.mro.contains (.ref C)&&cd.mro.contains (.type "ValueError")&&cd.mro.contains (.type "BaseException") &&
   !cd.mro.contains (.type "AttributeError")&&!cd.mro.contains (.type "NameError")&&specialIn K (.ref C) "__call__" == some (some (.builtin "type.__call__"))&&instIn K (.ref C) (.type "type")==some true
 | _=>false
end L2
end
section
set_option maxHeartbeats 400000
namespace L2
open PySem PySem.W PySem.Calls PyProof.Rows Builtin Builtin.ObjectAttr
section
variable {prog:Program} {w:World} {A:Around} {E:Value->Shared->Prop} {s:Shared} {K:Frag} {x C:Addr} {ox:Obj} {od:Option Obj} {name:Str} {expr:Bool} {Q:Value->Shared->Prop}
structure XCls (K:Frag) (C:Addr):Prop where
 ga:findIn K (.ref C) "__getattribute__" = some (some (.builtin "BaseException.__getattribute__"))
 gg:findIn K (.ref C) "__getattr__" = some none
 be:mroIn K C (.type "BaseException")=some true
 ob:mroIn K C (.type "object")=some true
 hd:hasDictIn K C=true
 cl:findIn K (.ref C) "__class__" = some (some (.builtin "object.__class__"))
 cg:specialIn K (.builtin "object.__class__") "__get__" = some (some (.builtin "getset_descriptor.__get__"))
 ct:takesIn K (.builtin "object.__class__")=some true
end
set_option maxHeartbeats 1000000
noncomputable def valueMro:List Value->Bool
 | .ref _ :: r=>valueMro r
 | l=>l==[.type "ValueError",.type "Exception",.type "BaseException",.type "object"]
section
variable {prog:Program} {w:World} {A:Around} {E:Value->Shared->Prop} {s:Shared} {K:Frag} {x C:Addr} {ox:Obj} {od:Option Obj} {name:Str} {R:Result->Shared->Prop} {v:Value}
noncomputable def tbV:Option Addr->Value
 | none=>.none
 | some T=>.ref T
noncomputable def IsX (fr:Option Addr) (h:Heap) (x C:Addr) (d:Option Addr):Prop:=∃ vs,h.get? x=some { cls:=.ref C,dict:=d,data:=.fields vs }/\vs.size=6/\vs[1]?=some (tbV fr)
end
end L2
end
section
set_option maxHeartbeats 1000000
namespace L2
open PySem PySem.Spec PyProof.Rows
noncomputable def ExcB (fr:Option Addr) (x C:Addr) (d:Option Addr):HO:=.ext λh=>IsX fr h x C d
noncomputable abbrev ExcO (x C:Addr) (d:Option Addr):HO:=ExcB none x C d
noncomputable def DictO (d:Addr) (fs:List (Str×V)):HO:=.ext λh=>∃ mA,h.Ns1 d mA/\(∀ f,RelO (fs.lookup f) (mA f))/\PySem.Within mA (fs.map (·.1))/\fs.length<=900
theorem okX {fr:Option Addr} {P:Program} {w:World} {H:Hp} {h:Heap} {x C:Addr} {d:Option Addr} (i:IsX fr h x C d):ObjOk P w H h x (ExcB fr x C d):=by
 obtain ⟨vs,e,z⟩:=id i
 refine ⟨i,⟨_,e⟩,λh1 h2 ⟨vs1,e1,z1⟩ k=>⟨vs1,k _ e1,z1⟩⟩
structure XC (K:PySem.W.Frag) (C:Addr):Prop where
 xc:XCls K C
 ex:excIn K C=true
 vm:(PySem.W.clsIn K C).any (λcd=>valueMro cd.mro)=true
 sa:PySem.W.findIn K (.ref C) "__setattr__" = some (some (.builtin "object.__setattr__"))
 kp:PySem.W.keepIn K (.ref C)=true
section
variable {X:Cx} {pins:List (Addr×Obj)} {σ:St} {H:Hp} {s:Shared} {x C:Addr}
theorem Inv.isX {fr:Option Addr} {d:Option Addr} (I:Inv X pins σ H s) (e:H x=some (ExcB fr x C d)):IsX fr s.heap x C d:=(I.hok x _ e).1
end
theorem upd_id {H:Hp} {x:Addr} {o:HO} (h:H x=some o):upd H x o=H:=funext λb=>by
 by_cases e:b=x
 ·subst e;rw [upd_same,h]
 ·rw [upd_ne e]
noncomputable def TbO (T:Addr):HO:=.ext λh=>∃ o ts,h.get? T=some o/\o.data=.fields ts/\3<ts.size
theorem okT {P:Program} {w:World} {H:Hp} {h:Heap} {T:Addr} {o:Obj} {ts:Array Value} (e:h.get? T=some o) (d:o.data=.fields ts) (z:3<ts.size):ObjOk P w H h T (TbO T):=
 ⟨⟨o,ts,e,d,z⟩,⟨o,e⟩,λh1 h2 ⟨o,ts,e,d,z⟩ k=>⟨o,ts,k _ e,d,z⟩⟩
structure Fx (K:PySem.W.Frag) (H:Hp) (a C:Addr) (d tb:Option Addr):Prop where
 xc:XC K C
 at_:H a=some (ExcB tb a C d)
 dc:∀ d',d=some d'->d'≠a/\∃ fs,H d'=some (DictO d' fs)
 tb_:∀ T,tb=some T->T≠a/\H T=some (TbO T)
noncomputable def Mv (H:Hp) (a C:Addr) (d:Option Addr) (H':Hp):Prop:=(∀ b o,b≠a->H b=some o->H' b=some o)/\∃ tb,H' a=some (ExcB tb a C d)
section
variable {X:Cx} {pins:List (Addr×Obj)} {σ:St} {H:Hp} {s:Shared} {a C T:Addr} {d tb:Option Addr} {A:Around} {E:Value->Shared->Prop} {Q:Unit->Shared->Prop}
theorem Inv.slots {h':Heap} (I:Inv X pins σ H s) (hs:Heap.SlotsOnly (frs X.stack) s.heap h'):Inv X pins σ H { s with heap:=h' }:=by
 have k:∀ b u,H b≠none->s.heap.get? b=some u->h'.get? b=some u:=λb u n e=>(hs.2.1 b λz=>n (I.stkFree b z)).trans e
 have un:Un (frs X.stack) [] H H s.heap h':=⟨λb o e _ nf _=>(hs.2.1 b nf).trans e,λb o e _ _ _=>hs.2.2 b o e,λ_ _ _ n _=>n,λb o e _=>let ⟨sl,q⟩:=hs.2.2 b o e;⟨_,q⟩,λ_ _ e=>e,λ_ _ _ e=>e,λb ps e=>⟨#[],by rw [e];simp⟩⟩
 have hk:HOk X.prog X.w H h':=λb u e=>(I.hok b u e).stay (λc v hc q=>k c v (by
  rcases hc with hc | hc
  ·rw [hc,e];simp
  ·rw [hc];simp) q) (λ_ q=>q) λ_ _ q=>q
 exact I.call (g':=s.gens) (d':=s.drawn) (t':=s.toks) (ch:=[]) un hk I.bare λb z=>absurd z (by simp)
theorem Fx.isX (fx:Fx X.K H a C d tb) (I:Inv X pins σ H s):IsX tb s.heap a C d:=I.isX fx.at_
theorem Inv.setTb {v:Value} (I:Inv X pins σ H s) (e:H T=some (TbO T)) (k:Inv X pins σ H { s with heap:=s.heap.update T (Obj.mapFields (·.setIfInBounds 3 v)) }->Q () { s with heap:=s.heap.update T (Obj.mapFields (·.setIfInBounds 3 v)) }) :
  wpAny (model X.prog X.w) A (setField (.ref T) 3 v) Q E s:=by
 obtain ⟨o,ts,e1,e2,z⟩:=(I.hok T _ e).1
 refine wpAny_setField e1 e2 z (k ?_)
 have hd:=Obj.data_mapFields e2 (·.setIfInBounds 3 v)
 have hu:=Heap.get?_update_self (Obj.mapFields (·.setIfInBounds 3 v)) e1 (Obj.isFreed_of_fields hd)
 have I2:=I.write (h':=s.heap.update T (Obj.mapFields (·.setIfInBounds 3 v))) (t':=s.toks) (x:=T) (e:=T) (o:=TbO T) (by rw [e];exact True.intro) (.inl rfl) (λb u n q=>(Heap.get?_update_other _ _ (Ne.symm n)).trans q) ⟨_,hu⟩ (okT hu hd (by simpa using z))
 rw [upd_id e] at I2
 exact I2
theorem wp_entry {hadNext:Bool} {head:Value} (I:Inv X pins σ H s) (hA:A.frames=some X.stack) (hst:X.stack=X.env :: X.outer) (hf:X.env.frame=some X.env.locals) (fx:Fx X.K H a C d tb)
  (h:∀ H' s' T,Inv X pins σ H' s'->Fx X.K H' a C d (some T)->Mv H a C d H'->Q () s') :
  wpAny (model X.prog X.w) A (do let fr <- frameOf X.env;let pl <- entryPlaceOf X.env.locals hadNext;let b <- EntryCells.newEntry head fr .none (rawInt X.env.locals) .none pl;setField (.ref a) 1 b) Q E s:=by
 have hl:=I.stack
 rw [hst] at hl hA
 refine wpAny_bind (wpAny_frameOf_fun hA hl hf λh₁ hs₁=>?_)
 have I1:Inv X pins σ H { s with heap:=h₁ }:=I.slots (by rw [hst];exact hs₁)
 refine wpAny_bind (wpAny_entryPlaceOf λpl hpl=>?_)
 unfold EntryCells.newEntry newFields
 refine wpAny_bind (wpAny_newObj_type ?_ (hpl.sizeOk5 _ _ _ _ _))
 have e0:=Heap.get?_push_size h₁ (o:={ cls:=.type "traceback",dict:=none,data:=.fields ([head,.ref X.env.locals,.none,rawInt X.env.locals,.none]++(if pl.isEmpty then List.replicate 6 Value.none else pl)).toArray }) rfl
 have I2:=I1.laid (h':=h₁.push { cls:=.type "traceback",dict:=none,data:=.fields ([head,.ref X.env.locals,.none,rawInt X.env.locals,.none]++(if pl.isEmpty then List.replicate 6 Value.none else pl)).toArray }) (a:=h₁.objs.size) (t':=s.toks) (o:=TbO h₁.objs.size) (λb u q=>Heap.get?_push_of_some _ q) (Nat.le_refl _)
  (okT e0 rfl (by simp only [List.size_toArray,List.length_append,List.length_cons,List.length_nil] <;> omega))
 have nT:H h₁.objs.size=none:=I1.hok.fresh (Nat.le_refl _)
 have hTa:h₁.objs.size≠a:=λz=>by rw [z,fx.at_] at nT;cases nT
 have e2:upd H h₁.objs.size (TbO h₁.objs.size) a=some (ExcB tb a C d):=by rw [upd_ne hTa.symm];exact fx.at_
 generalize (h₁.push { cls:=.type "traceback",dict:=none,data:=.fields ([head,.ref X.env.locals,.none,rawInt X.env.locals,.none]++(if pl.isEmpty then List.replicate 6 Value.none else pl)).toArray })=h₂ at I2 ⊢
 obtain ⟨vs,hxo,hsz,hv⟩:=I2.isX e2
 refine wpAny_setField hxo rfl (by omega) ?_
 have hu:=Heap.get?_update_self (Obj.mapFields (·.setIfInBounds 1 (Value.ref h₁.objs.size))) hxo rfl
 have I3:=I2.write (h':=h₂.update a (Obj.mapFields (·.setIfInBounds 1 (Value.ref h₁.objs.size)))) (t':=s.toks) (x:=a) (e:=a) (o:=ExcB (some h₁.objs.size) a C d) (by rw [e2];exact True.intro) (.inl rfl)
  (λb u n q=>(Heap.get?_update_other _ _ (Ne.symm n)).trans q) ⟨_,hu⟩ (okX ⟨_,hu,by simpa using hsz,by simp [tbV,hsz]⟩)
 refine h _ _ h₁.objs.size I3 ⟨fx.xc,upd_same,λd' z=>?_,λT z=>?_⟩ ⟨λb o n q=>?_,_,upd_same⟩
 ·obtain ⟨n,fs,q⟩:=fx.dc d' z
  exact ⟨n,fs,by rw [upd_ne n,upd_ne (ne_of_none q nT)];exact q⟩
 ·cases z
  exact ⟨hTa,by rw [upd_ne hTa];exact upd_same⟩
 ·rw [upd_ne n,upd_ne (ne_of_none q nT)];exact q
theorem wp_note (I:Inv X pins σ H s) (hA:A.frames=some X.stack) (hst:X.stack=X.env :: X.outer) (hf:X.env.frame=some X.env.locals) (fx:Fx X.K H a C d tb)
  (h:∀ H' s' T,Inv X pins σ H' s'->Fx X.K H' a C d (some T)->Mv H a C d H'->Q () s'):wpAny (model X.prog X.w) A (noteFrame (.ref a) X.env) Q E s:=by
 obtain ⟨vs,hxo,hsz,hv⟩:=fx.isX I
 unfold noteFrame
 simp only [hf]
 cases tb with
 | none=>
  refine wpAny_bind (wpAny_field hxo rfl (x:=.none) hv ?_)
  rw [if_neg (by decide)]
  exact wp_entry I hA hst hf fx h
 | some T=>
  refine wpAny_bind (wpAny_field hxo rfl (x:=.ref T) hv ?_)
  rw [if_pos (show (Value.ref T != Value.none)=true from by simp)]
  obtain ⟨nT,eT⟩:=fx.tb_ T rfl
  obtain ⟨o,ts,e1,e2,z⟩:=(I.hok T _ eT).1
  refine wpAny_bind (wpAny_field e1 e2 (x:=ts[3]) (Array.getElem?_eq_getElem z) ?_)
  by_cases hq:(ts[3]==rawInt X.env.locals)=true
  ·rw [if_pos hq]
   exact wpAny_pure (h H s T I fx ⟨λb o _ q=>q,_,fx.at_⟩)
  ·rw [if_neg hq]
   exact wpAny_bind (I.setTb eT λI2=>wp_entry I2 hA hst hf fx h)
theorem wp_flight {fl:Option Addr} (I:Inv X pins σ H s) (fx:Fx X.K H a C d (some T)) (h:∀ s',Inv X pins σ H s'->Q () s'):wpAny (model X.prog X.w) A (setFlight (.ref a) fl) Q E s:=by
 obtain ⟨vs,hxo,hsz,hv⟩:=fx.isX I
 unfold setFlight
 refine wpAny_bind (wpAny_field hxo rfl (x:=.ref T) hv ?_)
 rw [if_pos (show (Value.ref T != Value.none)=true from by simp)]
 exact I.setTb (fx.tb_ T rfl).2 λI2=>h _ I2
theorem wp_leaving (I:Inv X pins σ H s) (hA:A.frames=some X.stack) (hst:X.stack=X.env :: X.outer) (hf:X.env.frame=some X.env.locals) (fx:Fx X.K H a C d tb)
  (h:∀ H' s' T,Inv X pins σ H' s'->Fx X.K H' a C d (some T)->Mv H a C d H'->Q () s'):wpAny (model X.prog X.w) A (leaving X.env (.ref a)) Q E s:=by
 unfold leaving
 exact wpAny_bind (wp_note I hA hst hf fx λH1 s1 T I1 fx1 m1=>wp_flight I1 fx1 λs2 I2=>h H1 s2 T I2 fx1 m1)
end
end L2
end
section
set_option maxHeartbeats 1000000
namespace L2
open PySem PySem.W PySem.Calls PySem.Spec PyProof.Rows
end L2
end
section
set_option maxHeartbeats 1000000
namespace L2
open PySem PySem.Spec PyProof.Rows
end L2
end
section
set_option maxHeartbeats 1000000
namespace Hn
open PySem L2
noncomputable def spHE (K:PySem.W.Frag):Sp:=λvs H Q _=>∃ (x:Addr) (y:V) (C:Addr) (d:Option Addr),vs=[.ref x,y]/\XC K C/\H x=some (ExcO x C d)/\Q .non H
structure Fmt (K:PySem.W.Frag) (H:Hp) (v:V) (d:PyData):Prop where
 at_:DAt K H v d
 sh:Shows d
 l1:d.shown.length<=4000
 l2:∀ x,v=.str x->x.length<=4000
noncomputable def Got (H:Hp) (x C:Addr) (fs:List (Str×V)) (H':Hp):Prop:=∃ d,H d=none/\d≠x/\H' x=some (ExcO x C (some d))/\H' d=some (DictO d fs)/\∀ b,b≠x->b≠d->H' b=H b
noncomputable def sp1 (K:PySem.W.Frag) (f:Str):Sp:=λvs H Q _=>∃ (x:Addr) (v:V) (C:Addr) (dv:PyData),vs=[.ref x,v]/\XC K C/\NoAttr K C f/\H x=some (ExcO x C none)/\Fmt K H v dv/\∀ H',Got H x C [(f,v)] H'->Q .non H'
noncomputable def sp2 (K:PySem.W.Frag) (f g:Str):Sp:=λvs H Q _=>∃ (x:Addr) (v u:V) (C:Addr) (dv du:PyData),vs=[.ref x,v,u]/\XC K C/\NoAttr K C f/\NoAttr K C g/\H x=some (ExcO x C none)/\Fmt K H v dv/\Fmt K H u du /\
 ∀ H',Got H x C [(f,v),(g,u)] H'->Q .non H'
end Hn
end
section
set_option maxHeartbeats 1000000
namespace L3
open PySem PySem.Spec PyProof.Rows L2
inductive D where
 | non | bl (b:Bool) | int (i:Int) | str (x:Str) | tup (ds:List D) | lst (ds:List D) | scr (ds:List D) | ref (n:Nat)
inductive O where
 | lst (ds:List D) | dct (kvs:List (Key×D)) | exc (c:Nat) (fs:List (Str×D))
noncomputable abbrev Sto:=List O
inductive R (α:Type) where
 | ok (a:α) (S:Sto) | exn (n:Nat) (S:Sto) | bad
noncomputable abbrev M (α:Type):=Sto->R α
noncomputable def ret {α:Type} (a:α):M α:=λS=>.ok a S
noncomputable def bad {α:Type}:M α:=λ_=>.bad
noncomputable def bind {α β:Type} (m:M α) (k:α->M β):M β:=λS=>match m S with
 | .ok a S'=>k a S'
 | .exn n S'=>.exn n S'
 | .bad=>.bad
noncomputable abbrev Env:=List (Option D)
structure Mp where
 pl:List Addr
 rs:List Addr
noncomputable def Mp.push (μ:Mp) (p:Addr):Mp:=⟨μ.pl++[p],μ.rs⟩
noncomputable def TupAt (K:PySem.W.Frag) (μ:Mp) (H:Hp) (a:Addr) (xs:List V):Prop:=
 (Rd H a (.tup xs)/\a∉μ.pl/\a∉μ.rs)\/∃ (o:Obj) (its:Array Value) (n:Nat),K.lookup a=some o/\o.cls=.type "tuple"/\o.data=.seq its n/\its.size<=sizeLine/\Vals xs its.toList/\o.dict=none
noncomputable def ScrAt (K:PySem.W.Frag) (μ:Mp) (H:Hp) (a:Addr) (xs:List V):Prop:=
 (Rd H a (.lst xs)/\a∉μ.pl/\a∉μ.rs)\/∃ (o:Obj) (its:Array Value) (n:Nat),K.lookup a=some o/\o.cls=.type "list"/\o.dict=none/\o.data=.seq its n/\its.size<=sizeLine/\Vals xs its.toList
noncomputable def LstAt (μ:Mp) (H:Hp) (a:Addr) (xs:List V):Prop:=H a=some (.lst xs)/\a∉μ.pl/\a∉μ.rs
theorem TupAt.sq {K:PySem.W.Frag} {μ:Mp} {H:Hp} {a:Addr} {xs:List V} (h:TupAt K μ H a xs):SqT K H a xs:=h.imp (λz=>z.1) λ⟨o,its,n,a,b,c,d,e,_⟩=>⟨o,its,n,a,b,c,d,e⟩
theorem ScrAt.sq {K:PySem.W.Frag} {μ:Mp} {H:Hp} {a:Addr} {xs:List V} (h:ScrAt K μ H a xs):SqL K H a xs:=h.imp (λz=>z.1) id
theorem LstAt.sq {K:PySem.W.Frag} {μ:Mp} {H:Hp} {a:Addr} {xs:List V} (h:LstAt μ H a xs):SqL K H a xs:=.inl (.inl h.1)
mutual
inductive RD (K:PySem.W.Frag) (μ:Mp) (H:Hp):D->V->Prop where
 | non:RD K μ H .non .non
 | bl (b:Bool):RD K μ H (.bl b) (.bl b)
 | int (i:Int):RD K μ H (.int i) (.int i)
 | str (x:Str):RD K μ H (.str x) (.str x)
 | tup {a:Addr} {xs:List V} {ds:List D}:TupAt K μ H a xs->RDs K μ H ds xs->RD K μ H (.tup ds) (.ref a)
 | lst {a:Addr} {xs:List V} {ds:List D}:LstAt μ H a xs->RDs K μ H ds xs->RD K μ H (.lst ds) (.ref a)
 | scr {a:Addr} {xs:List V} {ds:List D}:ScrAt K μ H a xs->RDs K μ H ds xs->RD K μ H (.scr ds) (.ref a)
 | ref {n:Nat} {a:Addr}:μ.pl[n]?=some a->RD K μ H (.ref n) (.ref a)
inductive RDs (K:PySem.W.Frag) (μ:Mp) (H:Hp):List D->List V->Prop where
 | nil:RDs K μ H [] []
 | cons {d:D} {v:V} {ds:List D} {vs:List V}:RD K μ H d v->RDs K μ H ds vs->RDs K μ H (d :: ds) (v :: vs)
end
structure Lat (μ:Mp) (H:Hp) (μ':Mp) (H':Hp):Prop where
 pre:∀ (n:Nat) (a:Addr),μ.pl[n]?=some a->μ'.pl[n]?=some a
 oth:∀ a o,H a=some o->a∉μ.pl->H' a=some o
 new:∀ a,a∈μ'.pl->a∈μ.pl\/H a=none
 rsv:μ'.rs=μ.rs
theorem Lat.refl (μ:Mp) (H:Hp):Lat μ H μ H:=⟨λ_ _ h=>h,λ_ _ h _=>h,λ_ h=>.inl h,rfl⟩
theorem Lat.out {μ μ':Mp} {H H':Hp} (l:Lat μ H μ' H') {a:Addr} {o:HO} (h:H a=some o) (n:a∉μ.pl):a∉μ'.pl:=λz=>by
 rcases l.new a z with q | q
 ·exact n q
 ·rw [h] at q;cases q
theorem Lat.trans {μ μ1 μ2:Mp} {H H1 H2:Hp} (l:Lat μ H μ1 H1) (k:Lat μ1 H1 μ2 H2):Lat μ H μ2 H2:=by
 refine ⟨λn a h=>k.pre n a (l.pre n a h),λa o h n=>k.oth a o (l.oth a o h n) (l.out h n),λa h=>?_,k.rsv.trans l.rsv⟩
 rcases k.new a h with q | q
 ·exact l.new a q
 ·by_cases m:a∈μ.pl
  ·exact .inl m
  ·right
   cases e:H a with
   | none=>rfl
   | some o=>rw [l.oth a o e m] at q;cases q
theorem Rd.later {μ μ':Mp} {H H':Hp} (l:Lat μ H μ' H') {a:Addr} {u:HO} (h:Rd H a u) (n:a∉μ.pl):Rd H' a u/\a∉μ'.pl:=by
 rcases h with h | ⟨o,h⟩
 ·exact ⟨.inl (l.oth _ _ h n),l.out h n⟩
 ·exact ⟨.inr ⟨o,l.oth _ _ h n⟩,l.out h n⟩
theorem TupAt.later {K:PySem.W.Frag} {μ μ':Mp} {H H':Hp} (l:Lat μ H μ' H') {a:Addr} {xs:List V} (h:TupAt K μ H a xs):TupAt K μ' H' a xs:=h.imp (λz=>⟨(Rd.later l z.1 z.2.1).1,(Rd.later l z.1 z.2.1).2,by rw [l.rsv];exact z.2.2⟩) id
theorem ScrAt.later {K:PySem.W.Frag} {μ μ':Mp} {H H':Hp} (l:Lat μ H μ' H') {a:Addr} {xs:List V} (h:ScrAt K μ H a xs):ScrAt K μ' H' a xs:=h.imp (λz=>⟨(Rd.later l z.1 z.2.1).1,(Rd.later l z.1 z.2.1).2,by rw [l.rsv];exact z.2.2⟩) id
theorem LstAt.later {μ μ':Mp} {H H':Hp} (l:Lat μ H μ' H') {a:Addr} {xs:List V} (h:LstAt μ H a xs):LstAt μ' H' a xs:=⟨l.oth _ _ h.1 h.2.1,l.out h.1 h.2.1,by rw [l.rsv];exact h.2.2⟩
mutual
theorem RD.later {K:PySem.W.Frag} {μ μ':Mp} {H H':Hp} (l:Lat μ H μ' H'):∀ {d:D} {v:V},RD K μ H d v->RD K μ' H' d v
 | _,_,.non=>.non
 | _,_,.bl b=>.bl b
 | _,_,.int i=>.int i
 | _,_,.str x=>.str x
 | _,_,.tup h r=>.tup (h.later l) (RDs.later l r)
 | _,_,.lst h r=>.lst (h.later l) (RDs.later l r)
 | _,_,.scr h r=>.scr (h.later l) (RDs.later l r)
 | _,_,.ref h=>.ref (l.pre _ _ h)
theorem RDs.later {K:PySem.W.Frag} {μ μ':Mp} {H H':Hp} (l:Lat μ H μ' H'):∀ {ds:List D} {vs:List V},RDs K μ H ds vs->RDs K μ' H' ds vs
 | _,_,.nil=>.nil
 | _,_,.cons h r=>.cons (RD.later l h) (RDs.later l r)
end
section
variable {K:PySem.W.Frag} {μ:Mp} {H:Hp}
theorem RDs.length:∀ {ds:List D} {vs:List V},RDs K μ H ds vs->ds.length=vs.length
 | _,_,.nil=>rfl
 | _,_,.cons _ r=>by simp [RDs.length r]
theorem RDs.get:∀ {ds:List D} {vs:List V} {i:Nat} {d:D},RDs K μ H ds vs->ds[i]?=some d->∃ v,vs[i]?=some v/\RD K μ H d v
 | _,_,_,_,.nil,e=>by simp at e
 | _,_,0,_,.cons h _,e=>by simp at e;subst e;exact ⟨_,rfl,h⟩
 | _,_,i+1,d,.cons _ r,e=>by
  obtain ⟨v,h1,h2⟩:=RDs.get (i:=i) (d:=d) r (by simpa using e)
  exact ⟨v,by simpa using h1,h2⟩
theorem RDs.append:∀ {ds es:List D} {vs us:List V},RDs K μ H ds vs->RDs K μ H es us->RDs K μ H (ds++es) (vs++us)
 | _,_,_,_,.nil,s=>s
 | _,_,_,_,.cons h r,s=>.cons h (RDs.append r s)
theorem RDs.take:∀ {ds:List D} {vs:List V} (n:Nat),RDs K μ H ds vs->RDs K μ H (ds.take n) (vs.take n)
 | _,_,0,_=>by simpa using RDs.nil
 | _,_,_+1,.nil=>by simpa using RDs.nil
 | _,_,n+1,.cons h r=>by simpa using RDs.cons h (RDs.take n r)
theorem RDs.drop:∀ {ds:List D} {vs:List V} (n:Nat),RDs K μ H ds vs->RDs K μ H (ds.drop n) (vs.drop n)
 | _,_,0,h=>by simpa using h
 | _,_,_+1,.nil=>by simpa using RDs.nil
 | _,_,n+1,.cons _ r=>by simpa using RDs.drop n r
theorem RDs.set {d:D} {v:V} (q:RD K μ H d v):∀ {ds:List D} {vs:List V} (n:Nat),RDs K μ H ds vs->RDs K μ H (ds.set n d) (vs.set n v)
 | _,_,_,.nil=>by simpa using RDs.nil
 | _,_,0,.cons h r=>by simpa using RDs.cons q r
 | _,_,n+1,.cons h r=>by simpa using RDs.cons h (RDs.set q n r)
theorem RDs.rep {ds:List D} {vs:List V} (r:RDs K μ H ds vs):∀ k:Nat,RDs K μ H (List.replicate k ds).flatten (List.replicate k vs).flatten
 | 0=>.nil
 | k+1=>by
  rw [List.replicate_succ,List.replicate_succ,List.flatten_cons,List.flatten_cons]
  exact r.append (RDs.rep r k)
theorem RDs.ints:∀ ns:List Int,RDs K μ H (ns.map D.int) (ns.map V.int)
 | []=>.nil
 | n :: ns=>.cons (.int n) (RDs.ints ns)
end
noncomputable def FldsAt (K:PySem.W.Frag) (μ:Mp) (H:Hp):List (Str×D)->List (Str×V)->Prop:=Paired λp q=>p.1=q.1/\RD K μ H p.2 q.2
noncomputable def KvsAt (K:PySem.W.Frag) (μ:Mp) (H:Hp):List (Key×D)->List (Key×V)->Prop:=Paired λp q=>p.1=q.1/\RD K μ H p.2 q.2
noncomputable def OAt (K:PySem.W.Frag) (cl:Nat->Addr) (μ:Mp) (H:Hp) (a:Addr):O->Prop
 | .lst ds=>∃ xs,H a=some (.lst xs)/\RDs K μ H ds xs
 | .dct kvs=>∃ ks,H a=some (.dK ks)/\KvsAt K μ H kvs ks
 | .exc c fs=>XC K (cl c)/\∃ gs,FldsAt K μ H fs gs/\∃ fr,((gs=[]/\H a=some (ExcB fr a (cl c) none))\/∃ d,d≠a/\d∉μ.pl/\H a=some (ExcB fr a (cl c) (some d))/\H d=some (DictO d gs))
structure Rep (K:PySem.W.Frag) (cl:Nat->Addr) (μ:Mp) (S:Sto) (H:Hp):Prop where
 len:μ.pl.length=S.length
 nd:μ.pl.Nodup
 ats:∀ (n:Nat) (o:O) (a:Addr),S[n]?=some o->μ.pl[n]?=some a->OAt K cl μ H a o
 res:∀ a,a∈μ.rs->a∉μ.pl/\∃ u,H a=some u
theorem Paired.mono {α β:Type} {P Q:α->β->Prop} (h:∀ a b,P a b->Q a b):∀ {xs:List α} {ys:List β},Paired P xs ys->Paired Q xs ys
 | _,_,.nil=>.nil
 | _,_,.cons r t=>.cons (h _ _ r) (Paired.mono h t)
section
variable {K:PySem.W.Frag} {cl:Nat->Addr} {μ:Mp} {S:Sto} {H:Hp}
theorem OAt.some {a:Addr} {o:O} (h:OAt K cl μ H a o):∃ u,H a=some u:=by
 cases o with
 | lst ds=>obtain ⟨xs,e,_⟩:=h;exact ⟨_,e⟩
 | dct kvs=>obtain ⟨xs,e,_⟩:=h;exact ⟨_,e⟩
 | exc c fs=>
  obtain ⟨_,gs,_,fr,⟨_,e⟩ | ⟨d,_,_,e,_⟩⟩:=h
  ·exact ⟨_,e⟩
  ·exact ⟨_,e⟩
theorem Rep.tracked (r:Rep K cl μ S H) {a:Addr} (h:a∈μ.pl):∃ u,H a=some u:=by
 obtain ⟨n,hn,e⟩:=List.getElem_of_mem h
 have hs:n<S.length:=by rw [<- r.len];exact hn
 exact (r.ats n S[n] a (List.getElem?_eq_getElem hs) (by rw [List.getElem?_eq_getElem hn,e])).some
theorem Rep.notrs (r:Rep K cl μ S H) {p:Addr} (h:H p=none):p∉μ.rs:=λz=>by
 obtain ⟨_,u,e⟩:=r.res p z
 rw [h] at e;cases e
theorem Rep.notin (r:Rep K cl μ S H) {p:Addr} (h:H p=none):p∉μ.pl:=λz=>by
 obtain ⟨u,e⟩:=r.tracked z
 rw [h] at e;cases e
theorem Lat.laid {p:Addr} {o:HO} (h:H p=none):Lat μ H μ (upd H p o):=⟨λ_ _ h=>h,λa u e _=>by rw [upd_ne (ne_of_none e h)];exact e,λ_ h=>.inl h,rfl⟩
theorem Rep.keep {H':Hp} (r:Rep K cl μ S H) (l:Lat μ H μ H') (k:∀ a,a∈μ.pl->H' a=H a):Rep K cl μ S H':=by
 refine ⟨r.len,r.nd,λn o a e1 e2=>?_,λa m=>let ⟨h1,u,h2⟩:=r.res a m;⟨h1,u,l.oth _ _ h2 h1⟩⟩
 have ka:=k a (List.mem_of_getElem? e2)
 have h:=r.ats n o a e1 e2
 cases o with
 | lst ds=>obtain ⟨xs,e,q⟩:=h;exact ⟨xs,by rw [ka];exact e,q.later l⟩
 | dct kvs=>obtain ⟨xs,e,q⟩:=h;exact ⟨xs,by rw [ka];exact e,Paired.mono (λ_ _ ⟨z,w⟩=>⟨z,w.later l⟩) q⟩
 | exc c fs=>
  obtain ⟨xc,gs,q,fr,h⟩:=h
  refine ⟨xc,gs,Paired.mono (λ_ _ ⟨z,w⟩=>⟨z,w.later l⟩) q,fr,?_⟩
  rcases h with ⟨z,e⟩ | ⟨d,h1,h2,e,e2⟩
  ·exact .inl ⟨z,by rw [ka];exact e⟩
  ·exact .inr ⟨d,h1,h2,by rw [ka];exact e,l.oth _ _ e2 h2⟩
theorem Rep.laid {p:Addr} {o:HO} (r:Rep K cl μ S H) (h:H p=none):Rep K cl μ S (upd H p o):=r.keep (Lat.laid h) λa m=>upd_ne λz=>r.notin h (z▸m)
theorem Lat.pushed {p:Addr} {H':Hp} (h:H p=none) (k:∀ a u,H a=some u->H' a=some u):Lat μ H (μ.push p) H':=
 ⟨λn a e=>by show (μ.pl++[p])[n]?=_;rw [List.getElem?_append_left (List.getElem?_eq_some_iff.mp e).1];exact e,λa u e _=>k a u e,λa m=>by
  rcases List.mem_append.mp m with z | z
  ·exact .inl z
  ·exact .inr (by rw [List.mem_singleton.mp z];exact h),rfl⟩
theorem OAt.later {μ':Mp} {H':Hp} {a:Addr} {o:O} (h:OAt K cl μ H a o) (l:Lat μ H μ' H') (ka:H' a=H a):OAt K cl μ' H' a o:=by
 cases o with
 | lst ds=>obtain ⟨xs,e,q⟩:=h;exact ⟨xs,by rw [ka];exact e,q.later l⟩
 | dct kvs=>obtain ⟨xs,e,q⟩:=h;exact ⟨xs,by rw [ka];exact e,Paired.mono (λ_ _ ⟨z,w⟩=>⟨z,w.later l⟩) q⟩
 | exc c fs=>
  obtain ⟨xc,gs,q,fr,h⟩:=h
  refine ⟨xc,gs,Paired.mono (λ_ _ ⟨z,w⟩=>⟨z,w.later l⟩) q,fr,?_⟩
  rcases h with ⟨z,e⟩ | ⟨d,h1,h2,e,e2⟩
  ·exact .inl ⟨z,by rw [ka];exact e⟩
  ·exact .inr ⟨d,h1,l.out e2 h2,by rw [ka];exact e,l.oth _ _ e2 h2⟩
theorem Rep.pushed {p:Addr} {H':Hp} {o:O} (r:Rep K cl μ S H) (h:H p=none) (k:∀ a u,H a=some u->H' a=some u) (ho:OAt K cl (μ.push p) H' p o):Rep K cl (μ.push p) (S++[o]) H':=by
 have l:=Lat.pushed (μ:=μ) h k
 refine ⟨by simp [Mp.push,r.len],?_,λn u a e1 e2=>?_,λa m=>?_⟩
 ·show (μ.pl++[p]).Nodup
  rw [List.nodup_append]
  exact ⟨r.nd,by simp,λa m b m2=>by rw [List.mem_singleton.mp m2];rintro rfl;exact r.notin h m⟩
 ·have e2:(μ.pl++[p])[n]?=some a:=e2
  by_cases hn:n<S.length
  ·rw [List.getElem?_append_left hn] at e1
   rw [List.getElem?_append_left (by rw [r.len];exact hn)] at e2
   have q:=r.ats n u a e1 e2
   obtain ⟨z,ez⟩:=q.some
   exact q.later l ((k a z ez).trans ez.symm)
  ·have hn2:n=S.length:=by
    have:=(List.getElem?_eq_some_iff.mp e1).1
    simp at this;omega
   subst hn2
   rw [<- r.len] at e2
   simp at e1 e2
   subst e1;subst e2
   exact ho
 ·obtain ⟨h1,u,h2⟩:=r.res a m
  refine ⟨λz=>?_,u,k a u h2⟩
  rcases List.mem_append.mp (show a∈μ.pl++[p] from z) with z | z
  ·exact h1 z
  ·rw [List.mem_singleton.mp z,h] at h2;cases h2
theorem Lat.wrote {a:Addr} {o:HO} (h:a∈μ.pl):Lat μ H μ (upd H a o):=⟨λ_ _ h=>h,λb u e n=>by rw [upd_ne (λz=>n (by rw [z];exact h))];exact e,λ_ h=>.inl h,rfl⟩
theorem Rep.wrote {n:Nat} {a:Addr} {u:HO} {o:O} (r:Rep K cl μ S H) (e:μ.pl[n]?=some a) (ho:OAt K cl μ (upd H a u) a o):Rep K cl μ (S.set n o) (upd H a u):=by
 have m:a∈μ.pl:=List.mem_of_getElem? e
 refine ⟨by simp [r.len],r.nd,λk w b e1 e2=>?_,λb mb=>let ⟨h1,u',h2⟩:=r.res b mb;⟨h1,u',by rw [upd_ne (λz=>h1 (by rw [z];exact m))];exact h2⟩⟩
 by_cases hk:n=k
 ·subst hk
  rw [e] at e2;cases e2
  rw [List.getElem?_set_self (by have:=(List.getElem?_eq_some_iff.mp e).1;rw [r.len] at this;exact this)] at e1
  cases e1;exact ho
 ·rw [List.getElem?_set_ne hk] at e1
  have hb:b≠a:=λz=>by
   subst z
   obtain ⟨h1,q1⟩:=List.getElem?_eq_some_iff.mp e
   obtain ⟨h2,q2⟩:=List.getElem?_eq_some_iff.mp e2
   exact hk ((List.getElem_inj r.nd).mp (q1.trans q2.symm))
  exact (r.ats k w b e1 e2).later (Lat.wrote m) (upd_ne hb)
end
noncomputable def Mp.hold (μ:Mp) (p:Addr):Mp:=⟨μ.pl,p :: μ.rs⟩
mutual
theorem RD.move {K:PySem.W.Frag} {μ μ':Mp} {H H':Hp} (hp:∀ (n:Nat) (a:Addr),μ.pl[n]?=some a->μ'.pl[n]?=some a) (ho:∀ a u,H a=some u->a∉μ.pl->a∉μ.rs->H' a=some u/\a∉μ'.pl/\a∉μ'.rs):∀ {d:D} {v:V},RD K μ H d v->RD K μ' H' d v
 | _,_,.non=>.non
 | _,_,.bl b=>.bl b
 | _,_,.int i=>.int i
 | _,_,.str x=>.str x
 | _,_,.tup h r=>.tup (h.imp (λ⟨q,n1,n2⟩=>by
   rcases q with q | ⟨o,q⟩
   ·exact ⟨.inl (ho _ _ q n1 n2).1,(ho _ _ q n1 n2).2⟩
   ·exact ⟨.inr ⟨o,(ho _ _ q n1 n2).1⟩,(ho _ _ q n1 n2).2⟩) id) (RDs.move hp ho r)
 | _,_,.lst h r=>.lst (ho _ _ h.1 h.2.1 h.2.2) (RDs.move hp ho r)
 | _,_,.scr h r=>.scr (h.imp (λ⟨q,n1,n2⟩=>by
   rcases q with q | ⟨o,q⟩
   ·exact ⟨.inl (ho _ _ q n1 n2).1,(ho _ _ q n1 n2).2⟩
   ·exact ⟨.inr ⟨o,(ho _ _ q n1 n2).1⟩,(ho _ _ q n1 n2).2⟩) id) (RDs.move hp ho r)
 | _,_,.ref h=>.ref (hp _ _ h)
theorem RDs.move {K:PySem.W.Frag} {μ μ':Mp} {H H':Hp} (hp:∀ (n:Nat) (a:Addr),μ.pl[n]?=some a->μ'.pl[n]?=some a) (ho:∀ a u,H a=some u->a∉μ.pl->a∉μ.rs->H' a=some u/\a∉μ'.pl/\a∉μ'.rs):∀ {ds:List D} {vs:List V},RDs K μ H ds vs->RDs K μ' H' ds vs
 | _,_,.nil=>.nil
 | _,_,.cons h r=>.cons (RD.move hp ho h) (RDs.move hp ho r)
end
section
variable {K:PySem.W.Frag} {cl:Nat->Addr} {μ:Mp} {S:Sto} {H:Hp}
theorem Rep.move {μ':Mp} {H':Hp} (r:Rep K cl μ S H) (hr:∀ a,a∈μ'.rs->a∉μ'.pl/\∃ u,H' a=some u) (hp:μ'.pl=μ.pl) (hk:∀ a,a∈μ.pl->H' a=H a) (hx:∀ a u,H a=some (.ext u)->H' a=some (.ext u)) (ho:∀ a u,H a=some u->a∉μ.pl->a∉μ.rs->H' a=some u/\a∉μ'.pl/\a∉μ'.rs):Rep K cl μ' S H':=by
 have hp':∀ (n:Nat) (a:Addr),μ.pl[n]?=some a->μ'.pl[n]?=some a:=λn a e=>by rw [hp];exact e
 refine ⟨by rw [hp];exact r.len,by rw [hp];exact r.nd,λn o a e1 e2=>?_,hr⟩
 rw [hp] at e2
 have ka:=hk a (List.mem_of_getElem? e2)
 have h:=r.ats n o a e1 e2
 cases o with
 | lst ds=>obtain ⟨xs,e,q⟩:=h;exact ⟨xs,by rw [ka];exact e,q.move hp' ho⟩
 | dct kvs=>obtain ⟨xs,e,q⟩:=h;exact ⟨xs,by rw [ka];exact e,Paired.mono (λ_ _ ⟨z,w⟩=>⟨z,w.move hp' ho⟩) q⟩
 | exc c fs=>
  obtain ⟨xc,gs,q,fr,h⟩:=h
  refine ⟨xc,gs,Paired.mono (λ_ _ ⟨z,w⟩=>⟨z,w.move hp' ho⟩) q,fr,?_⟩
  rcases h with ⟨z,e⟩ | ⟨d,h1,h2,e,e2⟩
  ·exact .inl ⟨z,by rw [ka];exact e⟩
  ·exact .inr ⟨d,h1,by rw [hp];exact h2,by rw [ka];exact e,hx _ _ e2⟩
end
end L3
end

section
set_option maxHeartbeats 1000000
namespace L3
open PySem PySem.Spec PyProof.Rows L2
section
variable (K:PySem.W.Frag) (cl:Nat->Addr) (xe:Addr->Hp->Prop)
noncomputable def Post {α:Type} (μ:Mp) (H:Hp) (r:R α) (G:α->Sto->Mp->Hp->Prop):Prop:=match r with
 | .ok a S=>∀ μ' H',Lat μ H μ' H'->Rep K cl μ' S H'->G a S μ' H'
 | .exn n S=>∀ μ' H' a,Lat μ H μ' H'->Rep K cl μ' S H'->μ'.pl[n]?=some a->xe a H'
 | .bad=>False
end
section
variable {K:PySem.W.Frag} {cl:Nat->Addr} {xe:Addr->Hp->Prop} {α β:Type} {μ μ1:Mp} {H H1:Hp}
theorem Post.later {r:R α} {G:α->Sto->Mp->Hp->Prop} (h:Post K cl xe μ H r G) (l:Lat μ H μ1 H1):Post K cl xe μ1 H1 r G:=by
 cases r with
 | ok a S=>exact λμ' H' k r=>h μ' H' (l.trans k) r
 | exn n S=>exact λμ' H' a k r e=>h μ' H' a (l.trans k) r e
 | bad=>exact h
theorem Post.imp {r:R α} {G G':α->Sto->Mp->Hp->Prop} (h:Post K cl xe μ H r G) (k:∀ a S μ' H',Lat μ H μ' H'->Rep K cl μ' S H'->G a S μ' H'->G' a S μ' H'):Post K cl xe μ H r G':=by
 cases r with
 | ok a S=>exact λμ' H' l r=>k a S μ' H' l r (h μ' H' l r)
 | exn n S=>exact h
 | bad=>exact h
theorem Post.bind {m:M α} {k:α->M β} {S:Sto} {G:β->Sto->Mp->Hp->Prop} (h:Post K cl xe μ H (bind m k S) G):Post K cl xe μ H (m S) (λa S1 μ1 H1=>Post K cl xe μ1 H1 (k a S1) G):=by
 unfold L3.bind at h
 cases e:m S with
 | ok a S1=>
  rw [e] at h
  exact λμ' H' l r=>Post.later h l
 | exn n S1=>rw [e] at h;exact h
 | bad=>rw [e] at h;exact h
theorem Post.ret {a:α} {S:Sto} {G:α->Sto->Mp->Hp->Prop} (h:Post K cl xe μ H (ret a S) G):∀ μ' H',Lat μ H μ' H'->Rep K cl μ' S H'->G a S μ' H':=h
end
noncomputable def EnvOk (K:PySem.W.Frag) (μ:Mp) (H:Hp) (ρ:Env) (σ:L2.St):Prop:=ρ.length=σ.length/\∀ (i:Nat) (d:D),ρ[i]?=some (some d)->∃ v,σ[i]?=some (some v)/\RD K μ H d v
theorem EnvOk.later {K:PySem.W.Frag} {μ μ1:Mp} {H H1:Hp} {ρ:Env} {σ:L2.St} (h:EnvOk K μ H ρ σ) (l:Lat μ H μ1 H1):EnvOk K μ1 H1 ρ σ:=⟨h.1,λi d e=>let ⟨v,q,r⟩:=h.2 i d e;⟨v,q,r.later l⟩⟩
theorem EnvOk.set {K:PySem.W.Frag} {μ:Mp} {H:Hp} {ρ:Env} {σ:L2.St} {d:D} {v:V} (h:EnvOk K μ H ρ σ) (r:RD K μ H d v) (i:Nat):EnvOk K μ H (ρ.set i (some d)) (σ.set i (some v)):=by
 refine ⟨by simp [h.1],λj e he=>?_⟩
 by_cases hij:i=j
 ·subst hij
  have hi:i<ρ.length:=by
   have:=(List.getElem?_eq_some_iff.mp he).1
   simpa using this
  rw [List.getElem?_set_self hi] at he
  cases he
  exact ⟨v,List.getElem?_set_self (by rw [<- h.1];exact hi),r⟩
 ·rw [List.getElem?_set_ne hij] at he
  obtain ⟨u,q,r2⟩:=h.2 j e he
  exact ⟨u,by rw [List.getElem?_set_ne hij];exact q,r2⟩
section
variable (K:PySem.W.Frag) (cl:Nat->Addr) (xe:Addr->Hp->Prop)
noncomputable def tD (f:Env->M D):TE:=λσ H Q=>∃ μ S ρ,EnvOk K μ H ρ σ/\Rep K cl μ S H/\Post K cl xe μ H (f ρ S) λd _ μ' H'=>∀ v,RD K μ' H' d v->Q v H'
noncomputable def tDs (f:Env->M (List D)):TA:=λσ H Q=>∃ μ S ρ,EnvOk K μ H ρ σ/\Rep K cl μ S H/\Post K cl xe μ H (f ρ S) λds _ μ' H'=>∀ vs,RDs K μ' H' ds vs->Q vs H'
noncomputable def tBo (f:Env->M Bool):TT:=λσ H Q=>∃ μ S ρ,EnvOk K μ H ρ σ/\Rep K cl μ S H/\Post K cl xe μ H (f ρ S) λb _ _ H'=>Q b H'
noncomputable def rP2 (g:D->D->M D):R2:=λx y H Q=>∃ μ S d e,RD K μ H d x/\RD K μ H e y/\Rep K cl μ S H/\Post K cl xe μ H (g d e S) λr _ μ' H'=>∀ v,RD K μ' H' r v->Q v H'
noncomputable def rPs (g:List D->M D):List V->Hp->VK->Prop:=λxs H Q=>∃ μ S ds,RDs K μ H ds xs/\Rep K cl μ S H/\Post K cl xe μ H (g ds S) λr _ μ' H'=>∀ v,RD K μ' H' r v->Q v H'
end
theorem PE.imp {X:Cx} {e:Expr} {t t':TE} (h:PE X e t) (k:∀ σ H Q,t' σ H Q->t σ H Q):PE X e t':=λpins s σ H Q I q=>h pins s σ H Q I (k σ H Q q)
theorem PT.imp {X:Cx} {e:Expr} {t t':TT} (h:PT X e t) (k:∀ σ H Q,t' σ H Q->t σ H Q):PT X e t':=λpins s σ H Q I q=>h pins s σ H Q I (k σ H Q q)
theorem PW.imp {X:Cx} {e:Expr} {t t':TT} (h:PW X e t) (k:∀ σ H Q,t' σ H Q->t σ H Q):PW X e t':=λw pins s σ H Q I q=>h w pins s σ H Q I (k σ H Q q)
theorem PA.imp {X:Cx} {es:List Expr} {t t':TA} (h:PA X es t) (k:∀ σ H Q,t' σ H Q->t σ H Q):PA X es t':=λp pins s σ H Q I q=>h p pins s σ H Q I (k σ H Q q)
theorem PS.imp {X:Cx} {st:Stmt} {t t':TS} (h:PS X st t) (k:∀ D σ H,t' D σ H->t D σ H):PS X st t':=λpins s σ H D I q=>h pins s σ H D I (k D σ H q)
theorem PSs.imp {X:Cx} {st:List Stmt} {t t':TS} (h:PSs X st t) (k:∀ D σ H,t' D σ H->t D σ H):PSs X st t':=λpins s σ H D I q=>h pins s σ H D I (k D σ H q)
section
variable {X:Cx} {cl:Nat->Addr} {xe:Addr->Hp->Prop} {a b c:Expr} {es:List Expr} {pos:Pos} {f g:Env->M D}
theorem pd_bad {e:Expr}:PE X e (tD X.K cl xe λ_=>bad):=λ_ _ _ _ _ _ ⟨_,_,_,_,_,p⟩=>p.elim
theorem pb_bad {e:Expr}:PT X e (tBo X.K cl xe λ_=>bad):=λ_ _ _ _ _ _ ⟨_,_,_,_,_,p⟩=>p.elim
theorem pw_bad {e:Expr}:PW X e (tBo X.K cl xe λ_=>bad):=λ_ _ _ _ _ _ _ ⟨_,_,_,_,_,p⟩=>p.elim
theorem pd_const {e:Expr} {v:V} {d:D} (h:PE X e (tC v)) (r:∀ μ H,RD X.K μ H d v):PE X e (tD X.K cl xe λ_=>ret d):=PE.imp h λσ H Q ⟨μ,S,ρ,eo,rp,p⟩=>p.ret μ H (Lat.refl _ _) rp v (r μ H)
noncomputable def getD (i:Nat) (ρ:Env):M D:=match ρ[i]? with
 | some (some d)=>ret d
 | _=>bad
theorem pd_var {i:Nat} {e:Expr} (h:PE X e (tVar i)):PE X e (tD X.K cl xe λρ=>getD i ρ):=PE.imp h λσ H Q ⟨μ,S,ρ,eo,rp,p⟩=>by
 cases e:ρ[i]? with
 | none=>simp only [getD,e] at p;exact p.elim
 | some o=>
  cases o with
  | none=>simp only [getD,e] at p;exact p.elim
  | some d=>
   simp only [getD,e] at p
   obtain ⟨v,q,r⟩:=eo.2 i d e
   exact ⟨v,q,p.ret μ H (Lat.refl _ _) rp v r⟩
theorem pd_bin {op:Operator} {h:D->D->M D} (ha:PE X a (tD X.K cl xe f)) (hb:PE X b (tD X.K cl xe g)) (ho:OpR X (binaryOp op) (rP2 X.K cl xe h)) :
  PE X (.BinOp a op b pos) (tD X.K cl xe λρ=>bind (f ρ) λx=>bind (g ρ) λy=>h x y):=PE.imp (pe_op ho ha hb) λσ H Q ⟨μ,S,ρ,eo,rp,p⟩=>
 ⟨μ,S,ρ,eo,rp,p.bind.imp λx S1 μ1 H1 l1 r1 p1 v rv=>⟨μ1,S1,ρ,eo.later l1,r1,p1.bind.imp λy S2 μ2 H2 l2 r2 p2 u ru=>⟨μ2,S2,x,y,rv.later l2,ru,r2,p2⟩⟩⟩
theorem pd_cmp {op:CmpOp} {h:D->D->M D} (ha:PE X a (tD X.K cl xe f)) (hb:PE X b (tD X.K cl xe g)) (ho:OpR X (compareOp op) (rP2 X.K cl xe h)) (hm:behindInMarks op b=false) :
  PE X (.Compare a [op] [b] pos) (tD X.K cl xe λρ=>bind (f ρ) λx=>bind (g ρ) λy=>h x y):=PE.imp (pe_cmpR ho ha hb hm) λσ H Q ⟨μ,S,ρ,eo,rp,p⟩=>
 ⟨μ,S,ρ,eo,rp,p.bind.imp λx S1 μ1 H1 l1 r1 p1 v rv=>⟨μ1,S1,ρ,eo.later l1,r1,p1.bind.imp λy S2 μ2 H2 l2 r2 p2 u ru=>⟨μ2,S2,x,y,rv.later l2,ru,r2,p2⟩⟩⟩
theorem pd_ix {h:D->D->M D} (ha:PE X a (tD X.K cl xe f)) (hb:PE X b (tD X.K cl xe g)) (ho:IxR X (rP2 X.K cl xe h)) (hs:PlainIx b) :
  PE X (.Subscript a b pos) (tD X.K cl xe λρ=>bind (f ρ) λx=>bind (g ρ) λy=>h x y):=PE.imp (pe_ix ho ha hb hs) λσ H Q ⟨μ,S,ρ,eo,rp,p⟩=>
 ⟨μ,S,ρ,eo,rp,p.bind.imp λx S1 μ1 H1 l1 r1 p1 v rv=>⟨μ1,S1,ρ,eo.later l1,r1,p1.bind.imp λy S2 μ2 H2 l2 r2 p2 u ru=>⟨μ2,S2,x,y,rv.later l2,ru,r2,p2⟩⟩⟩
theorem pd_if {t:Env->M Bool} (hc:PT X c (tBo X.K cl xe t)) (ha:PE X a (tD X.K cl xe f)) (hb:PE X b (tD X.K cl xe g)):PE X (.IfExp c a b pos) (tD X.K cl xe λρ=>bind (t ρ) λq=>if q=true then f ρ else g ρ):=PE.imp (pe_ifExp hc ha hb) λσ H Q ⟨μ,S,ρ,eo,rp,p⟩=>
 ⟨μ,S,ρ,eo,rp,p.bind.imp λq S1 μ1 H1 l1 r1 p1=>by
  cases q with
  | true=>exact ⟨μ1,S1,ρ,eo.later l1,r1,p1⟩
  | false=>exact ⟨μ1,S1,ρ,eo.later l1,r1,p1⟩⟩
theorem pb_and1 {t:Env->M Bool} (h:PT X a (tBo X.K cl xe t)):PW X (.BoolOp .And [a] pos) (tBo X.K cl xe t):=pw_and1 h
theorem pb_or1 {t:Env->M Bool} (h:PT X a (tBo X.K cl xe t)):PW X (.BoolOp .Or [a] pos) (tBo X.K cl xe t):=pw_or1 h
theorem pb_and {t u:Env->M Bool} {rest:List Expr} (h:PT X a (tBo X.K cl xe t)) (k:PW X (.BoolOp .And (b :: rest) pos) (tBo X.K cl xe u)):PW X (.BoolOp .And (a :: b :: rest) pos) (tBo X.K cl xe λρ=>bind (t ρ) λq=>if q=true then u ρ else ret false):=PW.imp (pw_and h k) λσ H Q ⟨μ,S,ρ,eo,rp,p⟩=>
 ⟨μ,S,ρ,eo,rp,p.bind.imp λq S1 μ1 H1 l1 r1 p1=>by
  cases q with
  | true=>exact ⟨μ1,S1,ρ,eo.later l1,r1,p1⟩
  | false=>exact p1.ret μ1 H1 (Lat.refl _ _) r1⟩
theorem pb_or {t u:Env->M Bool} {rest:List Expr} (h:PT X a (tBo X.K cl xe t)) (k:PW X (.BoolOp .Or (b :: rest) pos) (tBo X.K cl xe u)):PW X (.BoolOp .Or (a :: b :: rest) pos) (tBo X.K cl xe λρ=>bind (t ρ) λq=>if q=true then ret true else u ρ):=PW.imp (pw_or h k) λσ H Q ⟨μ,S,ρ,eo,rp,p⟩=>
 ⟨μ,S,ρ,eo,rp,p.bind.imp λq S1 μ1 H1 l1 r1 p1=>by
  cases q with
  | true=>exact p1.ret μ1 H1 (Lat.refl _ _) r1
  | false=>exact ⟨μ1,S1,ρ,eo.later l1,r1,p1⟩⟩
noncomputable def asB (d:D):M Bool:=match d with
 | .bl b=>ret b
 | _=>bad
theorem asB_of {K:PySem.W.Frag} {μ1:Mp} {H1:Hp} {S:Sto} {d:D} {v:V} {Q:Bool->Hp->Prop} (rv:RD K μ1 H1 d v) (rp:Rep K cl μ1 S H1) (p:Post K cl xe μ1 H1 (asB d S) λb _ _ H'=>Q b H'):∃ k,v=.bl k/\Q k H1:=by
 cases rv with
 | bl b=>exact ⟨b,rfl,p.ret μ1 H1 (Lat.refl _ _) rp⟩
 | _=>exact p.elim
theorem pb_cmp {op:CmpOp} {h:D->D->M D} (ha:PE X a (tD X.K cl xe f)) (hb:PE X b (tD X.K cl xe g)) (ho:OpR X (compareOp op) (rP2 X.K cl xe h)) (hm:behindInMarks op b=false) :
  PT X (.Compare a [op] [b] pos) (tBo X.K cl xe λρ=>bind (f ρ) λx=>bind (g ρ) λy=>bind (h x y) asB):=PT.imp (pt_cmpR ho ha hb hm) λσ H Q ⟨μ,S,ρ,eo,rp,p⟩=>
 ⟨μ,S,ρ,eo,rp,p.bind.imp λx S1 μ1 H1 l1 r1 p1 v rv=>⟨μ1,S1,ρ,eo.later l1,r1,p1.bind.imp λy S2 μ2 H2 l2 r2 p2 u ru=>⟨μ2,S2,x,y,rv.later l2,ru,r2,p2.bind.imp λz S3 μ3 H3 l3 r3 p3 w rw=>asB_of rw r3 p3⟩⟩⟩
end
end L3
end
section
set_option maxHeartbeats 1000000
namespace HT
open PySem PySem.Spec PyProof.Rows
theorem noFill_tuple_mul:fillsNumberSlot (.type "tuple") "mul" = pure false:=
 PySem.fillsNumberSlot_seq (id:="tuple.__mul__") (r:=some (.builtin "tuple.__rmul__")) F.slot_tuple_mul.lookup (by decide +kernel) F.slot_tuple_rmul.lookup (by decide +kernel)
theorem repeat_tuple:seqRepeat? (.type "tuple")=pure (some (.builtin "tuple.__mul__")):=by
 unfold seqRepeat?
 rw [PySem.seqSlot_of (T:="tuple") (name:="__mul__") (id:="tuple.__mul__") F.slot_tuple_mul.lookup (by decide +kernel),PySem.seqSlot_of (T:="tuple") (name:="__rmul__") (id:="tuple.__rmul__") F.slot_tuple_rmul.lookup (by decide +kernel)]
 rfl
theorem int_rmul_tuple (a:Int) (t:Tok) (l:Addr) (items:Array Value) (n:Nat) (dd:Option Addr) (sl:Array (Option Value)) :
  Meets (Builtin.«int.__rmul__» ⟨[.int a t,.ref l],[]⟩) (λ_ R s=>s.heap.get? l=some { cls:=.type "tuple",dict:=dd,data:=.seq items n,slots:=sl }/\R (.ok (.ret Value.notImplemented)) s):=
 .of_wp λprog w A R s h=>by obtain ⟨hp,g,d,tk,os⟩:=s;obtain ⟨hl,h⟩:=h;wp_walk;exact ⟨_,rfl,h⟩
theorem tuple_mul1 (l:Addr) (items:Array Value) (n:Nat) (dd:Option Addr) (sl:Array (Option Value)) (u:Tok) :
  Meets (Builtin.«tuple.__mul__» ⟨[.ref l,.int 1 u],[]⟩) (λ_ R s=>s.heap.get? l=some { cls:=.type "tuple",dict:=dd,data:=.seq items n,slots:=sl }/\R (.ok (.ret (.ref l))) s):=
 .of_wp λprog w A R s h=>by obtain ⟨hp,g,d,tk,os⟩:=s;obtain ⟨hl,h⟩:=h;wp_walk;exact ⟨_,rfl,h⟩
theorem fits_index {k:Int} (h1:1<=k) (h2:k<2 ^ 63):¬ ((decide (k < -(2 ^ 63))||decide (k≥2 ^ 63))=true):=by
 simp only [Bool.or_eq_true,decide_eq_true_eq]
 omega
theorem tuple_mul2 (l:Addr) (items:Array Value) (n:Nat) (dd:Option Addr) (sl:Array (Option Value)) (k:Int) (u:Tok) (h0:¬ (items.isEmpty||k==1)=true) (h1:2<=k) (h2:k<2 ^ 63) (hsz:items.size * k.toNat<=sizeLine) :
  Meets (Builtin.«tuple.__mul__» ⟨[.ref l,.int k u],[]⟩) (λ_ R s=>s.heap.get? l=some { cls:=.type "tuple",dict:=dd,data:=.seq items n,slots:=sl }/\R (.ok (.ret (.ref s.heap.objs.size))) { s with heap:=s.heap.push { cls:=.type "tuple",data:=.seq ((List.replicate k.toNat items).foldl (·++·) #[]) } }):=
 .of_wp λprog w A R s h=>by
  obtain ⟨hp,g,d,tk,os⟩:=s;obtain ⟨hl,h⟩:=h
  have c1:=fits_index (k:=k) (by omega) h2
  have hsl:(sizeLine:Nat)=2 ^ 24:=sizeLine_eq
  have ek:((k.toNat:Nat):Int)=k:=Int.toNat_of_nonneg (by omega)
  have em:(items.size:Int) * k=((items.size * k.toNat:Nat):Int):=by rw [Int.natCast_mul,ek]
  have c2:¬ (decide (k<=0)||items.isEmpty)=true:=by
   simp only [Bool.or_eq_true,decide_eq_true_eq] at h0 ⊢
   intro z
   rcases z with z | z
   ·omega
   ·exact h0 (.inl z)
  have c3:¬ ((items.size:Int) * k > (2 ^ 63-1) / 8):=by rw [em];omega
  have c4:¬ Builtin.Tuple.tupleTooMany ((items.size:Int) * k)=true:=by
   rw [em]
   simp only [Builtin.Tuple.tupleTooMany,decide_eq_true_eq]
   omega
  have hz:((List.replicate k.toNat items).foldl (·++·) #[]).size<=sizeLine:=by
   rw [AutoListH.size_joined,Nat.mul_comm];simpa using hsz
  wp_walk
  rw [if_neg c1]
  have ht:IsTup hp l items:=⟨_,hl,rfl,n,rfl⟩
  show wpAny _ _ (Builtin.Tuple.tupleItemsOf (.ref l) >>= _) _ _ _
  refine wpAny_bind (tupleItemsOf_ ht ?_)
  show wpAny _ _ (if (items.isEmpty||k==1)=true then _ else _) _ _ _
  rw [if_neg h0]
  show wpAny _ _ (if (decide (k<=0)||items.isEmpty)=true then _ else _) _ _ _
  rw [if_neg c2]
  show wpAny _ _ (if (items.size:Int) * k > (2 ^ 63-1) / 8 then _ else _) _ _ _
  rw [if_neg c3]
  show wpAny _ _ (if Builtin.Tuple.tupleTooMany ((items.size:Int) * k)=true then _ else _) _ _ _
  rw [if_neg c4]
  refine wpAny_bind (m:=Builtin.Tuple.tupleExact _) (wpAny_newObj_type ?_ hz)
  exact wpAny_pure ⟨_,rfl,h⟩
end HT
namespace L2
open PySem PySem.Spec PyProof.Rows
section
variable {X:Cx}
theorem op_repT:OpR X (binaryOp .Mult) (λx y H Q=>∃ a k xs,x=.ref a/\y=.int k/\SqT X.K H a xs/\xs≠[]/\1<=k/\k<2 ^ 63/\xs.length * k.toNat<=sizeLine/\(k=1->Q (.ref a) H)/\(k≠1->∀ p,H p=none->Q (.ref p) (upd H p (.tup (List.replicate k.toNat xs).flatten)))):=by
 intro pins s σ H x y v u Q I rx ry h
 obtain ⟨a,k,xs,rfl,rfl,ha,hx,k1,k2,hz,q1,q2⟩:=h
 cases rx
 obtain ⟨t,rfl⟩:=ry
 obtain ⟨its,r1,p1,_⟩:=I.tuple ha
 obtain ⟨⟨cls,dd,data,sl⟩,ho,hc,n,hd⟩:=id p1
 simp only at hc hd
 subst hc hd
 have hl:=r1.length
 by_cases he:k=1
 ·subst he
  exact wpAny_binaryOp_repeat_ref (T:="tuple") (U:="int") (by decide) ⟨_,ho,rfl⟩ (λs'=>typeIs_int s' 1 t) HT.noFill_tuple_mul F.fills_int_mul F.slot_int_rmul HT.repeat_tuple F.slot_int_index.lookup
   (call_meets F.slot_int_rmul (typeIs_int s 1 t) F.entry_int_rmul (F.args_int_rmul_2 _ _) (HT.int_rmul_tuple 1 t a its.toArray n dd sl)
    ⟨ho,rfl,⟨_,ho,rfl⟩,call_meets F.slot_tuple_mul ⟨_,ho,rfl⟩ F.entry_tuple_mul (F.args_tuple_mul_2 _ _) (HT.tuple_mul1 a its.toArray n dd sl t) ⟨ho,.ref a,H,I,rfl,q1 rfl⟩⟩)
 ·have hne:its≠[]:=λz=>hx (r1.nil_iff.mp z)
  have h0:¬ (its.toArray.isEmpty||k==1)=true:=by
   simp only [Bool.or_eq_true,beq_iff_eq]
   rintro (z | z)
   ·exact hne (by simpa using z)
   ·exact he z
  refine wpAny_binaryOp_repeat_ref (T:="tuple") (U:="int") (by decide) ⟨_,ho,rfl⟩ (λs'=>typeIs_int s' k t) HT.noFill_tuple_mul F.fills_int_mul F.slot_int_rmul HT.repeat_tuple F.slot_int_index.lookup
   (call_meets F.slot_int_rmul (typeIs_int s k t) F.entry_int_rmul (F.args_int_rmul_2 _ _) (HT.int_rmul_tuple k t a its.toArray n dd sl)
    ⟨ho,rfl,⟨_,ho,rfl⟩,call_meets F.slot_tuple_mul ⟨_,ho,rfl⟩ F.entry_tuple_mul (F.args_tuple_mul_2 _ _) (HT.tuple_mul2 a its.toArray n dd sl k t h0 (by omega) k2 (by rw [List.size_toArray,<- hl];exact hz)) ⟨ho,?_⟩⟩)
  have f0:List.foldl (λx1 x2=>x1++x2) #[] (List.replicate k.toNat its.toArray)=(List.replicate k.toNat its).flatten.toArray:=by
   have:=foldl_rep its k.toNat []
   rw [List.nil_append] at this
   exact this
  rw [f0]
  refine ⟨.ref s.heap.objs.size,_,I.laid (t':=s.toks) (o:=.tup (List.replicate k.toNat xs).flatten) (λb ob q=>Heap.get?_push_of_some _ q) (Nat.le_refl _) ?_,rfl,q2 he _ (I.hok.fresh (Nat.le_refl _))⟩
  exact ⟨by rw [len_rep,Nat.mul_comm];exact hz,_,r1.rep k.toNat,TupN.new _ _⟩
end
end L2
end

section
set_option maxHeartbeats 1000000
namespace L3
open PySem PySem.Spec PyProof.Rows L2
noncomputable def lstOf (d:D):M (List D):=match d with
 | .lst ds=>ret ds
 | .ref n=>λS=>match S[n]? with
  | some (.lst ds)=>.ok ds S
  | _=>.bad
 | _=>bad
noncomputable def seqOf (d:D):M (List D):=match d with
 | .tup ds=>ret ds
 | .scr ds=>ret ds
 | d=>lstOf d
section
variable {K:PySem.W.Frag} {cl:Nat->Addr} {xe:Addr->Hp->Prop} {μ:Mp} {H:Hp} {S:Sto} {α:Type}
theorem lstOf_at {d:D} {v:V} {G:List D->Sto->Mp->Hp->Prop} (rd:RD K μ H d v) (rp:Rep K cl μ S H) (p:Post K cl xe μ H (lstOf d S) G):∃ a xs ds,v=.ref a/\H a=some (.lst xs)/\RDs K μ H ds xs/\lstOf d S=.ok ds S:=by
 cases rd with
 | lst h r=>exact ⟨_,_,_,rfl,h.1,r,rfl⟩
 | ref e=>
  rename_i n a
  simp only [lstOf] at p
  cases q:S[n]? with
  | none=>rw [q] at p;exact p.elim
  | some o=>
   cases o with
   | lst ds=>
    obtain ⟨xs,h1,h2⟩:=rp.ats n _ a q e
    exact ⟨a,xs,ds,rfl,h1,h2,by simp only [lstOf,q]⟩
   | dct _=>rw [q] at p;exact p.elim
   | exc _ _=>rw [q] at p;exact p.elim
 | _=>exact p.elim
theorem seqOf_at {d:D} {v:V} {G:List D->Sto->Mp->Hp->Prop} (rd:RD K μ H d v) (rp:Rep K cl μ S H) (p:Post K cl xe μ H (seqOf d S) G):∃ a xs ds,v=.ref a/\(SqL K H a xs\/SqT K H a xs)/\RDs K μ H ds xs/\seqOf d S=.ok ds S:=by
 cases rd with
 | tup h r=>exact ⟨_,_,_,rfl,.inr h.sq,r,rfl⟩
 | scr h r=>exact ⟨_,_,_,rfl,.inl h.sq,r,rfl⟩
 | lst h r=>exact ⟨_,_,_,rfl,.inl h.sq,r,rfl⟩
 | ref e=>
  obtain ⟨a,xs,ds,h1,h2,h3,h4⟩:=lstOf_at (.ref e) rp p
  exact ⟨a,xs,ds,h1,.inl (.inl (.inl h2)),h3,h4⟩
 | _=>exact p.elim
theorem Post.ok_bind {β:Type} {m:M α} {k:α->M β} {a:α} {G:β->Sto->Mp->Hp->Prop} (e:m S=.ok a S) (p:Post K cl xe μ H (L3.bind m k S) G):Post K cl xe μ H (k a S) G:=by
 unfold L3.bind at p;rw [e] at p;exact p
theorem new_tup {ds:List D} {xs:List V} {p:Addr} (rp:Rep K cl μ S H) (r:RDs K μ H ds xs) (hp:H p=none):Lat μ H μ (upd H p (.tup xs))/\Rep K cl μ S (upd H p (.tup xs))/\RD K μ (upd H p (.tup xs)) (.tup ds) (.ref p):=
 ⟨Lat.laid hp,rp.laid hp,.tup (.inl ⟨.inl upd_same,rp.notin hp,rp.notrs hp⟩) (r.later (Lat.laid hp))⟩
theorem new_lst {ds:List D} {xs:List V} {p:Addr} (rp:Rep K cl μ S H) (r:RDs K μ H ds xs) (hp:H p=none):Lat μ H μ (upd H p (.lst xs))/\Rep K cl μ S (upd H p (.lst xs))/\RD K μ (upd H p (.lst xs)) (.lst ds) (.ref p):=
 ⟨Lat.laid hp,rp.laid hp,.lst ⟨upd_same,rp.notin hp,rp.notrs hp⟩ (r.later (Lat.laid hp))⟩
theorem new_place {ds:List D} {xs:List V} {p:Addr} (rp:Rep K cl μ S H) (r:RDs K μ H ds xs) (hp:H p=none):Lat μ H (μ.push p) (upd H p (.lst xs))/\Rep K cl (μ.push p) (S++[.lst ds]) (upd H p (.lst xs))/\RD K (μ.push p) (upd H p (.lst xs)) (.ref S.length) (.ref p):=by
 have k:∀ a u,H a=some u->upd H p (.lst xs) a=some u:=λa u e=>by rw [upd_ne (ne_of_none e hp)];exact e
 have l:=Lat.pushed (μ:=μ) hp k
 refine ⟨l,rp.pushed hp k ⟨xs,upd_same,r.later l⟩,.ref ?_⟩
 show (μ.pl++[p])[S.length]?=some p
 rw [<- rp.len];simp
theorem Post.guard {c:Prop} [Decidable c] {a:α} {G:α->Sto->Mp->Hp->Prop} (p:Post K cl xe μ H ((if c then L3.ret a else L3.bad) S) G):c/\∀ μ' H',Lat μ H μ' H'->Rep K cl μ' S H'->G a S μ' H':=by
 by_cases hc:c
 ·rw [if_pos hc] at p;exact ⟨hc,p⟩
 ·rw [if_neg hc] at p;exact p.elim
end
noncomputable def mapO {α β:Type} (f:α->Option β):List α->Option (List β)
 | []=>some []
 | x :: xs=>match f x,mapO f xs with
  | some y,some ys=>some (y :: ys)
  | _,_=>none
noncomputable def toPy:Nat->Sto->D->Option PyData
 | 0,_,_=>none
 | n+1,S,d=>match d with
  | .non=>some .none
  | .bl b=>some (.bool b)
  | .int i=>some (.int i)
  | .str x=>some (.str x)
  | .tup ds=>(mapO (toPy n S) ds).map .tuple
  | .lst ds=>(mapO (toPy n S) ds).map .list
  | .scr ds=>(mapO (toPy n S) ds).map .list
  | .ref k=>match S[k]? with
   | some (.lst ds)=>(mapO (toPy n S) ds).map .list
   | _=>none
theorem toPy_all {K:PySem.W.Frag} {μ:Mp} {H:Hp} {S:Sto} {n:Nat} (ih:∀ {d:D} {v:V} {q:PyData},toPy n S d=some q->RD K μ H d v->DAt K H v q):∀ {ds:List D} {vs:List V} {qs:List PyData},mapO (toPy n S) ds=some qs->RDs K μ H ds vs->DAll K H vs qs
 | [],_,qs,e,r=>by cases r;cases e;exact .nil
 | d :: ds,_,qs,e,r=>by
  cases r with
  | cons h t=>
   simp only [mapO] at e
   cases e1:toPy n S d with
   | none=>rw [e1] at e;cases e
   | some q=>
    cases e2:mapO (toPy n S) ds with
    | none=>rw [e1,e2] at e;cases e
    | some qs'=>
     rw [e1,e2] at e;cases e
     exact .cons (ih e1 h) (toPy_all ih e2 t)
theorem toPy_at {K:PySem.W.Frag} {cl:Nat->Addr} {μ:Mp} {H:Hp} {S:Sto} (rp:Rep K cl μ S H):∀ (n:Nat) {d:D} {v:V} {q:PyData},toPy n S d=some q->RD K μ H d v->DAt K H v q
 | 0,_,_,_,e,_=>by cases e
 | n+1,d,v,q,e,r=>by
  have all:∀ {ds:List D} {vs:List V} {qs:List PyData},mapO (toPy n S) ds=some qs->RDs K μ H ds vs->DAll K H vs qs:=λe r=>toPy_all (λe r=>toPy_at rp n e r) e r
  have um:∀ {ds:List D} {C:List PyData->PyData},(mapO (toPy n S) ds).map C=some q->∃ qs,mapO (toPy n S) ds=some qs/\q=C qs:=λ{ds C} e=>by
   cases e1:mapO (toPy n S) ds with
   | none=>rw [e1] at e;cases e
   | some qs=>rw [e1] at e;cases e;exact ⟨qs,rfl,rfl⟩
  cases r with
  | non=>cases e;exact .non
  | bl b=>cases e;exact .bl b
  | int i=>cases e;exact .int i
  | str x=>cases e;exact .str x
  | tup h t=>obtain ⟨qs,e1,rfl⟩:=um e;exact .tup h.sq (all e1 t)
  | lst h t=>obtain ⟨qs,e1,rfl⟩:=um e;exact .lst h.sq (all e1 t)
  | scr h t=>obtain ⟨qs,e1,rfl⟩:=um e;exact .lst h.sq (all e1 t)
  | ref h=>
   rename_i k a
   simp only [toPy] at e
   cases q1:S[k]? with
   | none=>rw [q1] at e;cases e
   | some o=>
    rw [q1] at e
    cases o with
    | lst ds=>
     obtain ⟨qs,e1,rfl⟩:=um e
     obtain ⟨xs,h1,h2⟩:=rp.ats k _ a q1 h
     exact .lst (.inl (.inl h1)) (all e1 h2)
    | dct _=>cases e
    | exc _ _=>cases e
noncomputable def addD (x y:D):M D:=match x,y with
 | .int i,.int j=>ret (.int (i+j))
 | .str a,.str b=>if a.length+b.length<=sizeLine then ret (.str (a++b)) else bad
 | .tup xs,.tup ys=>if xs.length+ys.length<=sizeLine then ret (.tup (xs++ys)) else bad
 | x,y=>bind (lstOf x) λxs=>bind (lstOf y) λys=>if xs.length+ys.length<=sizeLine then ret (.lst (xs++ys)) else bad
noncomputable def subD (x y:D):M D:=match x,y with
 | .int i,.int j=>ret (.int (i-j))
 | _,_=>bad
instance (i j:Int):Decidable (CMul i j):=by unfold CMul;infer_instance
instance (i j:Int):Decidable (CDiv i j):=by unfold CDiv;infer_instance
instance (i j:Int):Decidable (CPow i j):=by unfold CPow;infer_instance
noncomputable def modD (x y:D):M D:=match x,y with
 | .int i,.int j=>if 0<j then ret (.int (i % j)) else bad
 | _,_=>bad
noncomputable def fdivD (x y:D):M D:=match x,y with
 | .int i,.int j=>if CDiv i j then ret (.int (i / j)) else bad
 | _,_=>bad
noncomputable def powD (x y:D):M D:=match x,y with
 | .int i,.int j=>if CPow i j then ret (.int (i ^ j.toNat)) else bad
 | _,_=>bad
noncomputable def mulD (x y:D):M D:=match x,y with
 | .int i,.int j=>if CMul i j then ret (.int (i * j)) else bad
 | .tup ds,.int k=>if (ds≠[]/\1<=k/\k<2 ^ 63)/\ds.length * k.toNat<=sizeLine then ret (.tup (List.replicate k.toNat ds).flatten) else bad
 | x,.int k=>bind (lstOf x) λxs=>if (-(2 ^ 63)<=k/\k<2 ^ 63)/\xs.length * k.toNat<=sizeLine then ret (.lst (List.replicate k.toNat xs).flatten) else bad
 | _,_=>bad
section
variable {X:Cx} {cl:Nat->Addr} {xe:Addr->Hp->Prop}
theorem op_catT0:OpR X (binaryOp .Add) (λx y H Q=>∃ a b ys,x=.ref a/\y=.ref b/\SqT X.K H a []/\SqT X.K H b ys/\Q (.ref b) H):=by
 intro pins s σ H x y v u Q I rx ry h
 obtain ⟨a,b,ys,rfl,rfl,ha,hb,q⟩:=h
 cases rx
 cases ry
 obtain ⟨its,r1,p1,_⟩:=I.tuple ha
 obtain ⟨its2,r2,p2,_⟩:=I.tuple hb
 cases r1
 obtain ⟨⟨cls,dd,data,sl⟩,ho,hc,n,hd⟩:=id p1
 obtain ⟨⟨cls2,dd2,data2,sl2⟩,ho2,hc2,n2,hd2⟩:=id p2
 simp only at hc hd hc2 hd2
 subst hc hd hc2 hd2
 exact concat_meets ⟨_,ho,rfl⟩ ⟨_,ho2,rfl⟩ noFill_tuple_add seq_tuple_add PySem.F.slot_tuple_add PySem.F.entry_tuple_add (PySem.F.args_tuple_add_2 _ _)
   (tuple_addW0 a b #[] its2.toArray n n2 dd dd2 sl sl2 rfl) ⟨ho,ho2,⟨.ref b,H,I,rfl,q⟩⟩
theorem p_add:OpR X (binaryOp .Add) (rP2 X.K cl xe addD):=by
 intro pins s σ H x y v u Q I rx ry ⟨μ,S,d,e,rd,re,rp,p⟩
 have L:Post X.K cl xe μ H (bind (lstOf d) (λxs=>bind (lstOf e) λys=>if xs.length+ys.length<=sizeLine then ret (.lst (xs++ys)) else bad) S) (λr _ μ' H'=>∀ v,RD X.K μ' H' r v->Q v H')->wpAny (model X.prog X.w) X.A (binaryOp .Add v u) (EP X pins σ Q) X.xe s:=λp=>by
  obtain ⟨a,xs,ds,rfl,h1,r1,e1⟩:=lstOf_at rd rp p.bind
  have p:=p.ok_bind e1
  obtain ⟨b,ys,es,rfl,h2,r2,e2⟩:=lstOf_at re rp p.bind
  obtain ⟨hl,p⟩:=(p.ok_bind e2).guard
  refine op_cat pins s σ H _ _ v u Q I rx ry ⟨a,b,xs,ys,rfl,rfl,h1,h2,by rw [<- r1.length,<- r2.length];exact hl,λz hz=>?_⟩
  obtain ⟨l,rp2,rd2⟩:=new_lst rp (r1.append r2) hz
  exact p μ _ l rp2 _ rd2
 cases d <;> cases e <;> try (exact L p)
 case int.int i j=>cases rd;cases re;exact op_add pins s σ H _ _ v u Q I rx ry ⟨i,j,rfl,rfl,p μ H (Lat.refl _ _) rp _ (.int _)⟩
 case str.str i j=>
  cases rd;cases re
  obtain ⟨hl,p⟩:=Post.guard p
  exact op_add_str pins s σ H _ _ v u Q I rx ry ⟨i,j,rfl,rfl,hl,p μ H (Lat.refl _ _) rp _ (.str _)⟩
 case tup.tup ds es=>
  obtain ⟨hl,p⟩:=Post.guard p
  cases rd with
  | tup h1 r1=>
   cases re with
   | tup h2 r2=>
    rename_i a xs b ys
    cases ds with
    | nil=>
     cases r1
     exact op_catT0 pins s σ H _ _ v u Q I rx ry ⟨a,b,ys,rfl,rfl,h1.sq,h2.sq,p μ H (Lat.refl _ _) rp _ (.tup h2 r2)⟩
    | cons d ds=>
     cases r1 with
     | cons q1 q2=>
      rename_i v1 vs1
      refine op_catT pins s σ H _ _ v u Q I rx ry ⟨a,b,_,ys,rfl,rfl,h1.sq,h2.sq,by simp,by rw [<- r2.length];simpa [q2.length] using hl,λz=>?_,λz w hw=>?_⟩
      ·subst z
       cases r2
       rw [List.append_nil] at p
       exact p μ H (Lat.refl _ _) rp _ (.tup h1 (.cons q1 q2))
      ·obtain ⟨l,rp2,rd2⟩:=new_tup rp ((RDs.cons q1 q2).append r2) hw
       exact p μ _ l rp2 _ rd2
theorem p_sub:OpR X (binaryOp .Sub) (rP2 X.K cl xe subD):=by
 intro pins s σ H x y v u Q I rx ry ⟨μ,S,d,e,rd,re,rp,p⟩
 cases d <;> cases e <;> try (exact False.elim p)
 case int.int i j=>cases rd;cases re;exact op_sub pins s σ H _ _ v u Q I rx ry ⟨i,j,rfl,rfl,p μ H (Lat.refl _ _) rp _ (.int _)⟩
theorem p_mod:OpR X (binaryOp .Mod) (rP2 X.K cl xe modD):=by
 intro pins s σ H x y v u Q I rx ry ⟨μ,S,d,e,rd,re,rp,p⟩
 cases d <;> cases e <;> try (exact False.elim p)
 case int.int i j=>
  cases rd;cases re
  obtain ⟨hl,p⟩:=Post.guard p
  exact op_mod pins s σ H _ _ v u Q I rx ry ⟨i,j,rfl,rfl,hl,p μ H (Lat.refl _ _) rp _ (.int _)⟩
theorem p_fdiv:OpR X (binaryOp .FloorDiv) (rP2 X.K cl xe fdivD):=by
 intro pins s σ H x y v u Q I rx ry ⟨μ,S,d,e,rd,re,rp,p⟩
 cases d <;> cases e <;> try (exact False.elim p)
 case int.int i j=>
  cases rd;cases re
  obtain ⟨hl,p⟩:=Post.guard p
  exact op_fdiv pins s σ H _ _ v u Q I rx ry ⟨i,j,rfl,rfl,hl,p μ H (Lat.refl _ _) rp _ (.int _)⟩
theorem p_pow:OpR X (binaryOp .Pow) (rP2 X.K cl xe powD):=by
 intro pins s σ H x y v u Q I rx ry ⟨μ,S,d,e,rd,re,rp,p⟩
 cases d <;> cases e <;> try (exact False.elim p)
 case int.int i j=>
  cases rd;cases re
  obtain ⟨hl,p⟩:=Post.guard p
  exact op_pow pins s σ H _ _ v u Q I rx ry ⟨i,j,rfl,rfl,hl,p μ H (Lat.refl _ _) rp _ (.int _)⟩
theorem p_mul:OpR X (binaryOp .Mult) (rP2 X.K cl xe mulD):=by
 intro pins s σ H x y v u Q I rx ry ⟨μ,S,d,e,rd,re,rp,p⟩
 have L:∀ k:Int,e=.int k->Post X.K cl xe μ H (bind (lstOf d) (λxs=>if (-(2 ^ 63)<=k/\k<2 ^ 63)/\xs.length * k.toNat<=sizeLine then ret (.lst (List.replicate k.toNat xs).flatten) else bad) S) (λr _ μ' H'=>∀ v,RD X.K μ' H' r v->Q v H')->wpAny (model X.prog X.w) X.A (binaryOp .Mult v u) (EP X pins σ Q) X.xe s:=λk he q=>by
  clear p
  subst he
  cases re
  obtain ⟨a,xs,ds,rfl,h1,r1,e1⟩:=lstOf_at rd rp q.bind
  obtain ⟨⟨⟨k1,k2⟩,hl⟩,p⟩:=(q.ok_bind e1).guard
  refine op_rep pins s σ H _ _ v u Q I rx ry ⟨a,k,xs,rfl,rfl,h1,k1,k2,by rw [<- r1.length];exact hl,λz hz=>?_⟩
  obtain ⟨l,rp2,rd2⟩:=new_lst rp (r1.rep k.toNat) hz
  exact p μ _ l rp2 _ rd2
 cases d <;> cases e <;> try (exact False.elim p)
 case int.int i j=>
  cases rd;cases re
  obtain ⟨hl,p⟩:=Post.guard p
  exact op_mul pins s σ H _ _ v u Q I rx ry ⟨i,j,rfl,rfl,hl,p μ H (Lat.refl _ _) rp _ (.int _)⟩
 case tup.int ds k=>
  cases re
  obtain ⟨⟨⟨k0,k1,k2⟩,hl⟩,p⟩:=Post.guard p
  cases rd with
  | tup h1 r1=>
   rename_i a xs
   have hx:xs≠[]:=λz=>by subst z;cases r1;exact k0 rfl
   refine op_repT pins s σ H _ _ v u Q I rx ry ⟨a,k,xs,rfl,rfl,h1.sq,hx,k1,k2,by rw [<- r1.length];exact hl,λz=>?_,λz w hw=>?_⟩
   ·subst z
    have e:(List.replicate (1:Int).toNat ds).flatten=ds:=by simp
    rw [e] at p
    exact p μ H (Lat.refl _ _) rp _ (.tup h1 r1)
   ·obtain ⟨l,rp2,rd2⟩:=new_tup rp (r1.rep k.toNat) hw
    exact p μ _ l rp2 _ rd2
 all_goals exact L _ rfl p
end
noncomputable def eqP (neg:Bool) (x y:D):M D:=λS=>match toPy 64 S x,toPy 64 S y with
 | some p,some q=>(if p.canLay0=true/\q.canLay0=true/\min p.depth q.depth<=60 then ret (.bl (if neg then !PyData.eqv p q else PyData.eqv p q)) else bad) S
 | _,_=>.bad
noncomputable def eqD (neg:Bool) (x y:D):M D:=match x,y with
 | .str a,.str b=>ret (.bl (if neg then !decide (a=b) else decide (a=b)))
 | .int a,.int b=>ret (.bl (if neg then !decide (a=b) else decide (a=b)))
 | x,y=>eqP neg x y
noncomputable def ordD (f:Int->Int->Bool) (x y:D):M D:=match x,y with
 | .int i,.int j=>ret (.bl (f i j))
 | _,_=>bad
noncomputable def inSq (neg:Bool) (d:PyData) (ps:List PyData):M D:=if d.canLay0=true/\PyData.canLayAll0 ps=true/\min (PyData.depthAll ps) d.depth<=60 then ret (.bl (if neg then !(ps.any λy=>PyData.eqv y d) else ps.any λy=>PyData.eqv y d)) else bad
noncomputable def inD (neg:Bool) (x y:D):M D:=λS=>match toPy 64 S x,toPy 64 S y with
 | some d,some (.list ps)=>inSq neg d ps S
 | some d,some (.tuple ps)=>inSq neg d ps S
 | _,_=>.bad
noncomputable def isD (neg:Bool) (x y:D):M D:=match y with
 | .non=>ret (.bl (match x with
  | .non=>!neg
  | _=>neg))
 | .bl b=>ret (.bl (match x with
  | .bl c=>if neg then !(c==b) else c==b
  | _=>neg))
 | _=>bad
section
variable {X:Cx} {cl:Nat->Addr} {xe:Addr->Hp->Prop}
theorem p_eq (hu:X.A.units+64<cLine):OpR X (compareOp .Eq) (rP2 X.K cl xe (eqD false)):=by
 intro pins s σ H x y v u Q I rx ry ⟨μ,S,d,e,rd,re,rp,p⟩
 have gen:Post X.K cl xe μ H (eqP false d e S) (λr _ μ' H'=>∀ v,RD X.K μ' H' r v->Q v H')->wpAny (model X.prog X.w) X.A (compareOp .Eq v u) (EP X pins σ Q) X.xe s:=λp=>by
  simp only [eqP] at p
  cases e1:toPy 64 S d with
  | none=>rw [e1] at p;exact p.elim
  | some a=>
   cases e2:toPy 64 S e with
   | none=>rw [e1,e2] at p;exact p.elim
   | some b=>
    rw [e1,e2] at p
    obtain ⟨⟨c1,c2,c3⟩,p⟩:=Post.guard p
    exact op_eqD hu pins s σ H _ _ v u Q I rx ry ⟨a,b,toPy_at rp 64 e1 rd,toPy_at rp 64 e2 re,c1,c2,c3,p μ H (Lat.refl _ _) rp _ (.bl _)⟩
 cases d <;> cases e <;> try (exact gen p)
 case str.str a b=>
  cases rd;cases re
  exact op_eq pins s σ H _ _ v u Q I rx ry ⟨rfl,by rw [show decide (V.str a=V.str b)=decide (a=b) by rw [Bool.eq_iff_iff];simp];exact p μ H (Lat.refl _ _) rp _ (.bl _)⟩
theorem p_ne (hu:X.A.units+64<cLine):OpR X (compareOp .NotEq) (rP2 X.K cl xe (eqD true)):=by
 intro pins s σ H x y v u Q I rx ry ⟨μ,S,d,e,rd,re,rp,p⟩
 have gen:Post X.K cl xe μ H (eqP true d e S) (λr _ μ' H'=>∀ v,RD X.K μ' H' r v->Q v H')->wpAny (model X.prog X.w) X.A (compareOp .NotEq v u) (EP X pins σ Q) X.xe s:=λp=>by
  simp only [eqP] at p
  cases e1:toPy 64 S d with
  | none=>rw [e1] at p;exact p.elim
  | some a=>
   cases e2:toPy 64 S e with
   | none=>rw [e1,e2] at p;exact p.elim
   | some b=>
    rw [e1,e2] at p
    obtain ⟨⟨c1,c2,c3⟩,p⟩:=Post.guard p
    exact op_neD hu pins s σ H _ _ v u Q I rx ry ⟨a,b,toPy_at rp 64 e1 rd,toPy_at rp 64 e2 re,c1,c2,c3,p μ H (Lat.refl _ _) rp _ (.bl _)⟩
 cases d <;> cases e <;> try (exact gen p)
 case str.str a b=>
  cases rd;cases re
  exact op_ne pins s σ H _ _ v u Q I rx ry ⟨rfl,by rw [show decide (V.str a=V.str b)=decide (a=b) by rw [Bool.eq_iff_iff];simp];exact p μ H (Lat.refl _ _) rp _ (.bl _)⟩
theorem p_ord {op:CmpOp} {f:Int->Int->Bool} (ho:OpR X (compareOp op) (rI0 λi j=>.bl (f i j))):OpR X (compareOp op) (rP2 X.K cl xe (ordD f)):=by
 intro pins s σ H x y v u Q I rx ry ⟨μ,S,d,e,rd,re,rp,p⟩
 cases d <;> cases e <;> try (exact False.elim p)
 case int.int i j=>cases rd;cases re;exact ho pins s σ H _ _ v u Q I rx ry ⟨i,j,rfl,rfl,p μ H (Lat.refl _ _) rp _ (.bl _)⟩
theorem in_seq_ok {neg:Bool} (hu:X.A.units+80<cLine) {pins:List (Addr×Obj)} {s:Shared} {σ:L2.St} {H:Hp} {x y:V} {v u:Value} {Q:VK} {d:PyData} {ps:List PyData} (I:Inv X pins σ H s) (rx:RelV x v) (ry:RelV y u)
  (hd:DAt X.K H x d) (hy:DAt X.K H y (.list ps)\/DAt X.K H y (.tuple ps)) (c:d.canLay0=true/\PyData.canLayAll0 ps=true/\min (PyData.depthAll ps) d.depth<=60)
  (q:Q (.bl (if neg then !(ps.any λy=>PyData.eqv y d) else ps.any λy=>PyData.eqv y d)) H):wpAny (model X.prog X.w) X.A (compareOp (if neg then .NotIn else .In) v u) (EP X pins σ Q) X.xe s:=by
 obtain ⟨c1,c2,c3⟩:=c
 obtain ⟨as,r1⟩:=hd.reads I rx
 have hu':X.A.units+1+min (PyData.depthAll ps) d.depth<cLine:=by omega
 rcases hy with hy | hy
 ·obtain ⟨bs,r2⟩:=hy.reads I ry
  cases neg with
  | false=>exact SeqAt.in_list_reads r2 r1 c2 c1 hu' ⟨.bl _,H,I,rfl,q⟩
  | true=>exact SeqAt.notIn_list_reads r2 r1 c2 c1 hu' ⟨.bl _,H,I,rfl,q⟩
 ·obtain ⟨bs,r2⟩:=hy.reads I ry
  cases neg with
  | false=>exact SeqAt.in_tuple_reads r2 r1 c2 c1 hu' ⟨.bl _,H,I,rfl,q⟩
  | true=>exact SeqAt.notIn_tuple_reads r2 r1 c2 c1 hu' ⟨.bl _,H,I,rfl,q⟩
theorem p_in (neg:Bool) (hu:X.A.units+80<cLine):OpR X (compareOp (if neg then .NotIn else .In)) (rP2 X.K cl xe (inD neg)):=by
 intro pins s σ H x y v u Q I rx ry ⟨μ,S,d,e,rd,re,rp,p⟩
 simp only [inD] at p
 cases e1:toPy 64 S d with
 | none=>rw [e1] at p;exact p.elim
 | some a=>
  cases e2:toPy 64 S e with
  | none=>rw [e1,e2] at p;exact p.elim
  | some b=>
   rw [e1,e2] at p
   have ha:=toPy_at rp 64 e1 rd
   have hb:=toPy_at rp 64 e2 re
   cases b with
   | list ps=>obtain ⟨c,p⟩:=Post.guard p;exact in_seq_ok hu I rx ry ha (.inl hb) c (p μ H (Lat.refl _ _) rp _ (.bl _))
   | tuple ps=>obtain ⟨c,p⟩:=Post.guard p;exact in_seq_ok hu I rx ry ha (.inr hb) c (p μ H (Lat.refl _ _) rp _ (.bl _))
   | _=>exact p.elim
theorem p_is (neg:Bool):OpR X (compareOp (if neg then .IsNot else .Is)) (rP2 X.K cl xe (isD neg)):=by
 intro pins s σ H x y v u Q I rx ry ⟨μ,S,d,e,rd,re,rp,p⟩
 have fin:∀ b:Bool,(∀ μ' H',Lat μ H μ' H'->Rep X.K cl μ' S H'->∀ v,RD X.K μ' H' (.bl b) v->Q v H')->∀ c,c=b->EP X pins σ Q (.bool c) s:=λb p c e=>⟨.bl b,H,I,by rw [e];rfl,p μ H (Lat.refl _ _) rp _ (.bl _)⟩
 cases re <;> try (exact False.elim p)
 case non=>
  cases ry
  cases neg with
  | false=>
   refine is_none_gen (fin _ p _ ?_)
   cases rd <;> first
    | (cases rx;rfl)
    | (obtain ⟨t,rfl⟩:=rx;rfl)
  | true=>
   refine isnot_none_gen (fin _ p _ ?_)
   cases rd <;> first
    | (cases rx;rfl)
    | (obtain ⟨t,rfl⟩:=rx;rfl)
 case bl b=>
  cases ry
  cases neg with
  | false=>
   refine wpAny_is_plain ?_ (fin _ p _ ?_)
   ·cases rd <;> first
    | (cases rx;rfl)
    | (obtain ⟨t,rfl⟩:=rx;rfl)
   ·cases rd <;> first
    | (cases rx;rfl)
    | (obtain ⟨t,rfl⟩:=rx;rfl)
    | (cases rx;(rename_i c;cases c <;> cases b <;> rfl))
  | true=>
   refine wpAny_isNot_plain ?_ (fin _ p _ ?_)
   ·cases rd <;> first
    | (cases rx;rfl)
    | (obtain ⟨t,rfl⟩:=rx;rfl)
   ·cases rd <;> first
    | (cases rx;rfl)
    | (obtain ⟨t,rfl⟩:=rx;rfl)
    | (cases rx;(rename_i c;cases c <;> cases b <;> rfl))
end
noncomputable def keyOf:D->Option Key
 | .int i=>some (.inl i)
 | .str x=>some (.inr x)
 | _=>none
noncomputable def valD {κ:Type} [DecidableEq κ] (kvs:List (κ×D)) (k:κ):Option D:=(kvs.find? λkv=>decide (kv.1=k)).map (·.2)
noncomputable def putD {κ:Type} [DecidableEq κ] (kvs:List (κ×D)) (k:κ) (v:D):List (κ×D):=if kvs.any (λkv=>decide (kv.1=k)) then kvs.map (λkv=>if kv.1=k then (kv.1,v) else kv) else kvs++[(k,v)]
noncomputable def optM {α:Type}:Option α->M α
 | some a=>ret a
 | none=>bad
noncomputable def ixD (x y:D):M D:=match x with
 | .ref n=>λS=>match S[n]? with
  | some (.lst ds)=>(match y with
   | .int i=>optM (atI ds i)
   | _=>bad) S
  | some (.dct kvs)=>optM ((keyOf y).bind (valD kvs)) S
  | _=>.bad
 | x=>match y with
  | .int i=>bind (seqOf x) λds=>optM (atI ds i)
  | _=>bad
theorem atI_rd {K:PySem.W.Frag} {μ:Mp} {H:Hp} {ds:List D} {xs:List V} {i:Int} {d:D} (r:RDs K μ H ds xs) (e:atI ds i=some d):∃ v,atI xs i=some v/\RD K μ H d v:=by
 unfold atI at e ⊢
 rw [<- r.length]
 cases q:ixN ds.length i with
 | none=>rw [q] at e;cases e
 | some j=>rw [q] at e;exact r.get e
theorem optM_at {K:PySem.W.Frag} {cl:Nat->Addr} {xe:Addr->Hp->Prop} {μ:Mp} {H:Hp} {S:Sto} {α:Type} {o:Option α} {G:α->Sto->Mp->Hp->Prop} (p:Post K cl xe μ H (optM o S) G):∃ a,o=some a/\∀ μ' H',Lat μ H μ' H'->Rep K cl μ' S H'->G a S μ' H':=by
 cases o with
 | none=>exact p.elim
 | some a=>exact ⟨a,rfl,p⟩
theorem kvs_val {K:PySem.W.Frag} {μ:Mp} {H:Hp} {k:Key} {d:D}:∀ {kvs:List (Key×D)} {ks:List (Key×V)},KvsAt K μ H kvs ks->valD kvs k=some d->∃ v,valV ks k=some v/\RD K μ H d v
 | _,_,.nil,e=>by simp [valD] at e
 | p :: r,q :: r',.cons ⟨h1,h2⟩ t,e=>by
  unfold valD at e
  rw [List.find?_cons] at e
  by_cases hk:p.1=k
  ·simp only [hk,decide_true] at e
   cases e
   exact ⟨q.2,valV_pos (h1▸hk),h2⟩
  ·simp only [hk,decide_false] at e
   obtain ⟨v,e1,e2⟩:=kvs_val (k:=k) (d:=d) t e
   exact ⟨v,by rw [valV_neg (h1▸hk)];exact e1,e2⟩
theorem keyOf_at {K:PySem.W.Frag} {μ:Mp} {H:Hp} {y:D} {v:V} {k:Key} (r:RD K μ H y v) (e:keyOf y=some k):v=kV k:=by
 cases r <;> simp only [keyOf] at e <;> first | (cases e;rfl) | cases e
section
variable {X:Cx} {cl:Nat->Addr} {xe:Addr->Hp->Prop}
theorem ix_dict (hu:X.A.units+1<cLine):IxR X (λx y H Q=>∃ a v,x=.ref a/\DGet H a y (some v)/\Q v H):=by
 intro value slice pins s σ H x y v u Q I rx ry h hs
 obtain ⟨a,w,rfl,g,q⟩:=h
 cases rx
 have hT:=dict_typeIs I g
 have h₂:wpAny (model X.prog X.w) X.A (getItem (.ref a) u) (EP X pins σ Q) X.xe s:=d_getItem hu I g ry λw' s3 I3 rw'=>⟨w,H,I3,rw',q⟩
 unfold subscriptTail
 refine wpAny_bind ?_
 rw [getitemInPython_of_ne hT.not_modules]
 refine wpAny_bind (wpAny_specialOf hT PySem.F.slot_dict_getitem.lookup ?_)
 have fin:wpAny (model X.prog X.w) X.A (subscripted slice false (.ref a) u) (λr s₃=>wpAny (model X.prog X.w) X.A (letTemporaryGo value (.ref a) r >>= λ_=>pure r) (EP X pins σ Q) X.xe s₃) X.xe s:=by
  rw [hs]
  exact wpAny_operating (wpAny_mono h₂ (λr s₃ h₃=>wpAny_bind (wpAny_letTemporaryGo (wpAny_pure h₃))) λ_ _ x=>x)
 first
  | exact wpAny_pure (wpAny_bind fin)
  | exact wpAny_bind (wpAny_pure (wpAny_bind fin))
  | exact wpAny_bind fin
theorem p_ix (hu:X.A.units+1<cLine):IxR X (rP2 X.K cl xe ixD):=by
 intro value slice pins s σ H x y v u Q I rx ry ⟨μ,S,d,e,rd,re,rp,p⟩ hs
 have sq:∀ {a:Addr} {xs:List V} {ds:List D} {i:Int},(SqL X.K H a xs\/SqT X.K H a xs)->RDs X.K μ H ds xs->x=.ref a->e=.int i->Post X.K cl xe μ H (optM (atI ds i) S) (λr _ μ' H'=>∀ v,RD X.K μ' H' r v->Q v H') ->
   wpAny (model X.prog X.w) X.A (subscriptTail value slice v u) (EP X pins σ Q) X.xe s:=λ{a xs ds i} hq r hx he q=>by
  clear p
  subst hx he
  cases re
  obtain ⟨z,e1,q⟩:=optM_at q
  obtain ⟨w,e2,rw'⟩:=atI_rd r e1
  rcases hq with hq | hq
  ·exact ix_list value slice pins s σ H _ _ v u Q I rx ry ⟨a,xs,i,w,rfl,rfl,hq,e2,q μ H (Lat.refl _ _) rp _ rw'⟩ hs
  ·exact ix_tup value slice pins s σ H _ _ v u Q I rx ry ⟨a,xs,i,w,rfl,rfl,hq,e2,q μ H (Lat.refl _ _) rp _ rw'⟩ hs
 cases rd with
 | tup h r=>
  cases e <;> first | exact False.elim p | exact sq (.inr h.sq) r rfl rfl p
 | lst h r=>
  cases e <;> first | exact False.elim p | exact sq (.inl h.sq) r rfl rfl p
 | scr h r=>
  cases e <;> first | exact False.elim p | exact sq (.inl h.sq) r rfl rfl p
 | ref h=>
  rename_i n a
  simp only [ixD] at p
  cases q1:S[n]? with
  | none=>rw [q1] at p;exact p.elim
  | some o=>
   rw [q1] at p
   cases o with
   | lst ds=>
    obtain ⟨xs,h1,h2⟩:=rp.ats n _ a q1 h
    cases e <;> first | exact False.elim p | exact sq (.inl (.inl (.inl h1))) h2 rfl rfl p
   | dct kvs=>
    obtain ⟨ks,h1,h2⟩:=rp.ats n _ a q1 h
    obtain ⟨z,e1,p⟩:=optM_at p
    cases e2:keyOf e with
    | none=>rw [e2] at e1;cases e1
    | some k=>
     rw [e2] at e1
     obtain ⟨w,e3,r3⟩:=kvs_val h2 e1
     have hy:=keyOf_at re e2
     subst hy
     exact ix_dict hu value slice pins s σ H _ _ v u Q I rx ry ⟨a,w,rfl,by rw [<- e3];exact DGet.k h1,p μ H (Lat.refl _ _) rp _ r3⟩ hs
   | exc _ _=>exact p.elim
 | _=>cases e <;> exact False.elim p
noncomputable def cutD (ds:List D) (lo hi:Option Int):List D:=(ds.drop (HT.sIx ds.length 0 lo)).take (HT.sIx ds.length ds.length hi-HT.sIx ds.length 0 lo)
theorem cut_rd {K:PySem.W.Frag} {μ:Mp} {H:Hp} {ds:List D} {xs:List V} (r:RDs K μ H ds xs) (lo hi:Option Int):RDs K μ H (cutD ds lo hi) (cutV xs lo hi):=by
 unfold cutD cutV
 rw [<- r.length]
 exact (r.drop _).take _
noncomputable def slD (x:D) (lo hi:Option Int):M D:=match x with
 | .tup ds=>ret (.tup (cutD ds lo hi))
 | x=>bind (match x with
  | .scr ds=>ret ds
  | x=>lstOf x) λds=>ret (.lst (cutD ds lo hi))
end
noncomputable def noStar:Expr->Bool
 | .Starred ..=>false
 | _=>true
noncomputable def noComp:Expr->Bool
 | .ListComp ..=>false
 | .SetComp ..=>false
 | .DictComp ..=>false
 | _=>true
noncomputable def noSlice:Expr->Bool
 | .Slice ..=>false
 | _=>true
noncomputable def noSet:Expr->Bool
 | .Set ..=>false
 | _=>true
noncomputable def noSuper:Expr->Bool
 | .Call (.Name _ _) [] [] _=>false
 | _=>true
theorem star_of {e:Expr} {es:List Expr} {env:PySem.Env} (h:noStar e=true):starEach (e :: es) env=(false,eval e env) :: starEach es env:=by
 cases e <;> first | rfl | (exact absurd h (by simp [noStar]))
theorem stars_of:∀ {es:List Expr} {env:PySem.Env} {pos:Pos},es.all noStar=true->(backTo pos (starEach es env)).any (·.1)=false
 | [],_,_,_=>rfl
 | e :: es,env,pos,h=>by
  rw [List.all_cons,Bool.and_eq_true] at h
  rw [star_of h.1]
  show (false||(backTo pos (starEach es env)).any (·.1))=false
  rw [stars_of h.2];rfl
theorem stars_none:∀ {es:List Expr} {env:PySem.Env} {pos:Pos},es.all noStar=true->(backTo pos (starEach es env)).all (λx=>!x.1)=true
 | [],_,_,_=>rfl
 | e :: es,env,pos,h=>by
  rw [List.all_cons,Bool.and_eq_true] at h
  rw [star_of h.1]
  show (!false&&(backTo pos (starEach es env)).all (λx=>!x.1))=true
  rw [stars_none h.2];rfl
theorem swaps_of {e:Expr} {t:Option Expr} {n:Nat} {env:PySem.Env} (h:noComp e=true):swapsWith e t n env=pure false:=by
 cases e <;> first | rfl | (exact absurd h (by simp [noComp]))
theorem plainIx_of {e:Expr} (h:noSlice e=true):PlainIx e:=by
 intro o i
 cases e <;> first | rfl | (exact absurd h (by simp [noSlice]))
theorem noMark_of {op:CmpOp} {e:Expr} (h:noSet e=true):behindInMarks op e=false:=by
 cases e <;> first | rfl | (exact absurd h (by simp [noSet]))
theorem folded_of {e:Expr} {env:PySem.Env} (h:noSet e=true):∀ x,foldedSetIterable e env x=pure x:=by
 intro x
 cases e <;> first | rfl | (exact absurd h (by simp [noSet]))
theorem base_of {o:Expr} {f:Str} {env:PySem.Env} (h:noSuper o=true):attributeBase o f env (eval o env)=eval o env:=by
 unfold attributeBase
 split
 ·exact absurd h (by simp [noSuper])
 ·rfl
section
variable {X:Cx} {cl:Nat->Addr} {xe:Addr->Hp->Prop} {e:Expr} {es:List Expr} {pos:Pos} {f:Env->M D} {fs:Env->M (List D)}
theorem pds_nil:PA X [] (tDs X.K cl xe λ_=>ret []):=PA.imp pa_nil λσ H Q ⟨μ,S,ρ,eo,rp,p⟩=>p.ret μ H (Lat.refl _ _) rp [] .nil
theorem pds_cons (h:PE X e (tD X.K cl xe f)) (hs:PA X es (tDs X.K cl xe fs)) (hn:noStar e=true):PA X (e :: es) (tDs X.K cl xe λρ=>bind (f ρ) λd=>bind (fs ρ) λds=>ret (d :: ds)):=
 PA.imp (pa_cons h hs (star_of hn)) λσ H Q ⟨μ,S,ρ,eo,rp,p⟩=>
  ⟨μ,S,ρ,eo,rp,p.bind.imp λd S1 μ1 H1 l1 r1 p1 v rv=>⟨μ1,S1,ρ,eo.later l1,r1,p1.bind.imp λds S2 μ2 H2 l2 r2 p2 vs rvs=>p2.ret μ2 H2 (Lat.refl _ _) r2 _ (.cons (rv.later l2) rvs)⟩⟩
noncomputable def tupD (ds:List D):M D:=if ds.length<=sizeLine then ret (.tup ds) else bad
noncomputable def lstD (ds:List D):M D:=if ds.length<=sizeLine then ret (.lst ds) else bad
theorem pd_tup {k:Nat} (h:PA X es (tDs X.K cl xe fs)):PE X (.Tuple es k pos) (tD X.K cl xe λρ=>bind (fs ρ) tupD):=PE.imp (pe_tup h) λσ H Q ⟨μ,S,ρ,eo,rp,p⟩=>
 ⟨μ,S,ρ,eo,rp,p.bind.imp λds S1 μ1 H1 l1 r1 p1 vs rvs=>by
  obtain ⟨hl,p1⟩:=Post.guard p1
  refine ⟨by rw [<- rvs.length];exact hl,λz hz=>?_⟩
  obtain ⟨l,rp2,rd2⟩:=new_tup r1 rvs hz
  exact p1 μ1 _ l rp2 _ rd2⟩
theorem pd_lst (h:PA X es (tDs X.K cl xe fs)):PE X (.List es pos) (tD X.K cl xe λρ=>bind (fs ρ) lstD):=PE.imp (pe_lst h) λσ H Q ⟨μ,S,ρ,eo,rp,p⟩=>
 ⟨μ,S,ρ,eo,rp,p.bind.imp λds S1 μ1 H1 l1 r1 p1 vs rvs=>by
  obtain ⟨hl,p1⟩:=Post.guard p1
  refine ⟨by rw [<- rvs.length];exact hl,λz hz=>?_⟩
  obtain ⟨l,rp2,rd2⟩:=new_lst r1 rvs hz
  exact p1 μ1 _ l rp2 _ rd2⟩
noncomputable def newL (ds:List D):M D:=λS=>if ds.length<=sizeLine then .ok (.ref S.length) (S++[.lst ds]) else .bad
theorem pd_lstP (h:PA X es (tDs X.K cl xe fs)):PE X (.List es pos) (tD X.K cl xe λρ=>bind (fs ρ) newL):=PE.imp (pe_lst h) λσ H Q ⟨μ,S,ρ,eo,rp,p⟩=>
 ⟨μ,S,ρ,eo,rp,p.bind.imp λds S1 μ1 H1 l1 r1 p1 vs rvs=>by
  unfold newL at p1
  by_cases hl:ds.length<=sizeLine
  ·rw [if_pos hl] at p1
   refine ⟨by rw [<- rvs.length];exact hl,λz hz=>?_⟩
   obtain ⟨l,rp2,rd2⟩:=new_place r1 rvs hz
   exact p1 _ _ l rp2 _ rd2
  ·rw [if_neg hl] at p1;exact p1.elim⟩
noncomputable def xeOf (E:XK):Addr->Hp->Prop:=λa H=>E (.ref a) none H
noncomputable def spD (K:PySem.W.Frag) (cl:Nat->Addr) (n:Nat) (run:List D->M D):Sp:=λvs H Q E=>vs.length=n/\∃ μ S ds,RDs K μ H ds vs/\Rep K cl μ S H/\Post K cl (xeOf E0) μ H (run ds S) λd _ μ' H'=>∀ v,RD K μ' H' d v->Q v H'
theorem pd_callB {g:List D->M D} {id:String} {x:Str} {p:Pos} (hc:CallR X (.builtin id) (rPs X.K cl xe g)) (hg:Gl X x) (hm:X.mg x=none) (hv:bootBuiltins x=some (.builtin id)) (ha:PA X (e :: es) (tDs X.K cl xe fs)) (hn:x ≠ "__name__") (hdb:(x==("__debug__" : Str))=false) (hs:(e :: es).all noStar=true) :
  PE X (.Call (.Name x p) (e :: es) [] pos) (tD X.K cl xe λρ=>bind (fs ρ) g):=by
 rw [List.all_cons,Bool.and_eq_true] at hs
 exact PE.imp (pe_callB hc hg hm hv ha hn hdb (star_of hs.1) (stars_of hs.2)) λσ H Q ⟨μ,S,ρ,eo,rp,p⟩=>⟨μ,S,ρ,eo,rp,p.bind.imp λds S1 μ1 H1 l1 r1 p1 vs rvs=>⟨μ1,S1,ds,rvs,r1,p1⟩⟩
theorem pd_callT {g:List D->M D} {T:String} {x:Str} {p:Pos} (hc:CallR X (.type T) (rPs X.K cl xe g)) (hg:Gl X x) (hm:X.mg x=none) (hv:bootBuiltins x=some (.type T)) (ha:PA X (e :: es) (tDs X.K cl xe fs)) (hn:x ≠ "__name__") (hdb:(x==("__debug__" : Str))=false) (hs:(e :: es).all noStar=true) :
  PE X (.Call (.Name x p) (e :: es) [] pos) (tD X.K cl xe λρ=>bind (fs ρ) g):=by
 rw [List.all_cons,Bool.and_eq_true] at hs
 exact PE.imp (pe_callTy hc hg hm hv ha hn hdb (star_of hs.1) (stars_of hs.2)) λσ H Q ⟨μ,S,ρ,eo,rp,p⟩=>⟨μ,S,ρ,eo,rp,p.bind.imp λds S1 μ1 H1 l1 r1 p1 vs rvs=>⟨μ1,S1,ds,rvs,r1,p1⟩⟩
end
noncomputable def one (g:D->M D) (ds:List D):M D:=match ds with
 | [d]=>g d
 | _=>bad
noncomputable def lenD (d:D):M D:=match d with
 | .str x=>if x.length<=sizeLine then ret (.int x.length) else bad
 | .ref n=>λS=>match S[n]? with
  | some (.lst ds)=>.ok (.int ds.length) S
  | some (.dct kvs)=>.ok (.int kvs.length) S
  | _=>.bad
 | d=>bind (seqOf d) λds=>ret (.int ds.length)
noncomputable def tupleD (d:D):M D:=match d with
 | .tup ds=>ret (.tup ds)
 | d=>bind (seqOf d) λds=>ret (.tup ds)
noncomputable def listD (d:D):M D:=bind (seqOf d) λds=>ret (.lst ds)
instance (p:PyData):Decidable (Shows p):=decidable_of_iff (p.showable=true/\p.hasDict=false/\p.depth<=60/\p.shown.length<=sizeLine) ⟨λ⟨a,b,c,d⟩=>⟨a,b,c,d⟩,λ⟨a,b,c,d⟩=>⟨a,b,c,d⟩⟩
noncomputable def reprD (d:D):M D:=λS=>match toPy 64 S d with
 | some p=>(if Shows p then ret (.str p.shown) else bad) S
 | none=>.bad
theorem rds1 {K:PySem.W.Frag} {μ:Mp} {H:Hp} {d:D} {vs:List V} (r:RDs K μ H [d] vs):∃ v,vs=[v]/\RD K μ H d v:=by
 cases r with
 | cons h t=>cases t;exact ⟨_,rfl,h⟩
section
variable {X:Cx} {cl:Nat->Addr} {xe:Addr->Hp->Prop}
theorem one_at {g:D->M D} {f:Value} (h:∀ (pins:List (Addr×Obj)) (s:Shared) (σ:L2.St) (H:Hp) (μ:Mp) (S:Sto) (d:D) (v:V) (us:List Value) (Q:VK),L2.Inv X pins σ H s->Vals [v] us->RD X.K μ H d v->Rep X.K cl μ S H->Post X.K cl xe μ H (g d S) (λr _ μ' H'=>∀ v,RD X.K μ' H' r v->Q v H') ->
  wpAny (model X.prog X.w) X.A (call f us) (EP X pins σ Q) X.xe s):CallR X f (rPs X.K cl xe (one g)):=by
 intro pins s σ H xs us Q I r ⟨μ,S,ds,rds,rp,p⟩
 match ds,p with
 | [d],p=>
  obtain ⟨v,rfl,rd⟩:=rds1 rds
  exact h pins s σ H μ S d v us Q I r rd rp p
 | [],p=>exact p.elim
 | _ :: _ :: _,p=>exact p.elim
theorem c_len:CallR X (.builtin "len") (rPs X.K cl xe (one lenD)):=one_at λpins s σ H μ S d v us Q I r rd rp p=>by
 have sq:∀ {a:Addr} {xs:List V} {ds:List D},(SqL X.K H a xs\/SqT X.K H a xs)->RDs X.K μ H ds xs->v=.ref a->(∀ μ' H',Lat μ H μ' H'->Rep X.K cl μ' S H'->∀ w,RD X.K μ' H' (.int ds.length) w->Q w H')->wpAny (model X.prog X.w) X.A (call (.builtin "len") us) (EP X pins σ Q) X.xe s:=λ{a xs ds} hq r2 hv q=>by
  subst hv
  exact call_len_seq pins s σ H _ us Q I r ⟨a,xs,rfl,hq,by rw [<- r2.length];exact q μ H (Lat.refl _ _) rp _ (.int _)⟩
 cases rd with
 | str x=>
  obtain ⟨hl,p⟩:=Post.guard p
  exact call_len_str pins s σ H _ us Q I r ⟨x,rfl,hl,p μ H (Lat.refl _ _) rp _ (.int _)⟩
 | tup h r2=>exact sq (.inr h.sq) r2 rfl p
 | lst h r2=>exact sq (.inl h.sq) r2 rfl p
 | scr h r2=>exact sq (.inl h.sq) r2 rfl p
 | ref h=>
  rename_i n a
  simp only [lenD] at p
  cases q1:S[n]? with
  | none=>rw [q1] at p;exact p.elim
  | some o=>
   rw [q1] at p
   cases o with
   | lst ds=>
    obtain ⟨xs,h1,h2⟩:=rp.ats n _ a q1 h
    exact sq (.inl (.inl (.inl h1))) h2 rfl p
   | dct kvs=>
    obtain ⟨ks,h1,h2⟩:=rp.ats n _ a q1 h
    have hl:kvs.length=ks.length:=Paired.length h2
    exact call_lenD pins s σ H _ us Q I r ⟨a,ks,rfl,h1,by rw [<- hl];exact p μ H (Lat.refl _ _) rp _ (.int _)⟩
   | exc _ _=>exact p.elim
 | _=>exact False.elim p
theorem c_tuple:CallR X (.type "tuple") (rPs X.K cl xe (one tupleD)):=one_at λpins s σ H μ S d v us Q I r rd rp p=>by
 have sq:∀ {a:Addr} {xs:List V} {ds:List D},SqL X.K H a xs->RDs X.K μ H ds xs->v=.ref a->(∀ μ' H',Lat μ H μ' H'->Rep X.K cl μ' S H'->∀ w,RD X.K μ' H' (.tup ds) w->Q w H')->wpAny (model X.prog X.w) X.A (call (.type "tuple") us) (EP X pins σ Q) X.xe s:=λ{a xs ds} hq r2 hv q=>by
  subst hv
  refine call_tuple_of pins s σ H _ us Q I r ⟨a,xs,rfl,.inl ⟨hq,λz hz=>?_⟩⟩
  obtain ⟨l,rp2,rd2⟩:=new_tup rp r2 hz
  exact q μ _ l rp2 _ rd2
 cases rd with
 | tup h r2=>exact call_tuple_of pins s σ H _ us Q I r ⟨_,_,rfl,.inr ⟨h.sq,p μ H (Lat.refl _ _) rp _ (.tup h r2)⟩⟩
 | lst h r2=>exact sq h.sq r2 rfl p
 | scr h r2=>exact sq h.sq r2 rfl p
 | ref h=>
  rename_i n a0
  have p2:Post X.K cl xe μ H (bind (lstOf (.ref n)) (λds=>ret (D.tup ds)) S) (λr _ μ' H'=>∀ v,RD X.K μ' H' r v->Q v H'):=p
  obtain ⟨a,xs,ds,e1,h1,h2,e2⟩:=lstOf_at (.ref h) rp p2.bind
  exact sq (.inl (.inl h1)) h2 e1 (p2.ok_bind e2)
 | _=>exact False.elim p
theorem c_list:CallR X (.type "list") (rPs X.K cl xe (one listD)):=one_at λpins s σ H μ S d v us Q I r rd rp p=>by
 obtain ⟨a,xs,ds,rfl,h1,h2,e2⟩:=seqOf_at rd rp p.bind
 refine call_list_of pins s σ H _ us Q I r ⟨a,xs,rfl,h1,λz hz=>?_⟩
 obtain ⟨l,rp2,rd2⟩:=new_lst rp h2 hz
 exact (p.ok_bind e2) μ _ l rp2 _ rd2
theorem c_repr (hg:X.A.guards=some []) (hu:X.A.units+64<cLine):CallR X (.builtin "repr") (rPs X.K cl xe (one reprD)):=one_at λpins s σ H μ S d v us Q I r rd rp p=>by
 simp only [reprD] at p
 cases e1:toPy 64 S d with
 | none=>rw [e1] at p;exact p.elim
 | some q=>
  rw [e1] at p
  obtain ⟨hs,p⟩:=Post.guard p
  exact call_repr hg hu pins s σ H _ us Q I r ⟨v,q,rfl,toPy_at rp 64 e1 rd,hs,p μ H (Lat.refl _ _) rp _ (.str _)⟩
end
noncomputable def Mp.free (μ:Mp):Mp:=⟨μ.pl,μ.rs.tail⟩
section
variable {K:PySem.W.Frag} {cl:Nat->Addr} {xe:Addr->Hp->Prop} {μ μ2:Mp} {S S2:Sto} {H H2:Hp} {p:Addr} {o:HO}
theorem hold_rd (rp:Rep K cl μ S H) (hp:H p=none):(∀ {d:D} {v:V},RD K μ H d v->RD K (μ.hold p) (upd H p o) d v)/\∀ {ds:List D} {vs:List V},RDs K μ H ds vs->RDs K (μ.hold p) (upd H p o) ds vs:=by
 have ho:∀ a u,H a=some u->a∉μ.pl->a∉μ.rs->upd H p o a=some u/\a∉(μ.hold p).pl/\a∉(μ.hold p).rs:=λa u e n1 n2=>by
  have ne:=ne_of_none e hp
  exact ⟨by rw [upd_ne ne];exact e,n1,λz=>(List.mem_cons.mp z).elim ne n2⟩
 exact ⟨λr=>r.move (μ:=μ) (μ':=μ.hold p) (H':=upd H p o) (λ_ _ e=>e) ho,λr=>r.move (μ:=μ) (μ':=μ.hold p) (H':=upd H p o) (λ_ _ e=>e) ho⟩
theorem hold_rep (rp:Rep K cl μ S H) (hp:H p=none):Rep K cl (μ.hold p) S (upd H p o):=by
 have ho:∀ a u,H a=some u->a∉μ.pl->a∉μ.rs->upd H p o a=some u/\a∉(μ.hold p).pl/\a∉(μ.hold p).rs:=λa u e n1 n2=>by
  have ne:=ne_of_none e hp
  exact ⟨by rw [upd_ne ne];exact e,n1,λz=>(List.mem_cons.mp z).elim ne n2⟩
 refine rp.move (λa m=>?_) rfl (λa m=>upd_ne λz=>rp.notin hp (z▸m)) (λa u e=>by rw [upd_ne (ne_of_none e hp)];exact e) ho
 rcases List.mem_cons.mp (show a∈p :: μ.rs from m) with rfl | m
 ·exact ⟨rp.notin hp,o,upd_same⟩
 ·obtain ⟨h1,u,h2⟩:=rp.res a m
  exact ⟨h1,u,by rw [upd_ne (ne_of_none h2 hp)];exact h2⟩
theorem hold_env {ρ:Env} {σ:L2.St} (rp:Rep K cl μ S H) (hp:H p=none) (eo:EnvOk K μ H ρ σ):EnvOk K (μ.hold p) (upd H p o) ρ σ:=⟨eo.1,λi d e=>let ⟨v,q,r⟩:=eo.2 i d e;⟨v,q,(hold_rd rp hp).1 r⟩⟩
theorem free_rds {ds:List D} {vs:List V} (r:RDs K μ H ds vs):RDs K μ.free H ds vs:=r.move (μ:=μ) (μ':=μ.free) (λ_ _ e=>e) λa u e n1 n2=>⟨e,n1,λz=>n2 (List.mem_of_mem_tail z)⟩
theorem free_rep (rp:Rep K cl μ S H):Rep K cl μ.free S H:=rp.move (λa m=>rp.res a (List.mem_of_mem_tail m)) rfl (λ_ _=>rfl) (λ_ _ e=>e) λa u e n1 n2=>⟨e,n1,λz=>n2 (List.mem_of_mem_tail z)⟩
theorem wrote_rds {rs:List Addr} {ds:List D} {vs:List V} (e:μ.rs=p :: rs) (r:RDs K μ H ds vs):RDs K μ (upd H p o) ds vs:=r.move (λ_ _ e=>e) λa u q n1 n2=>⟨by rw [upd_ne (λz=>n2 (by rw [e,z];exact List.mem_cons_self))];exact q,n1,n2⟩
theorem wrote_rd {rs:List Addr} {d:D} {v:V} (e:μ.rs=p :: rs) (r:RD K μ H d v):RD K μ (upd H p o) d v:=r.move (λ_ _ e=>e) λa u q n1 n2=>⟨by rw [upd_ne (λz=>n2 (by rw [e,z];exact List.mem_cons_self))];exact q,n1,n2⟩
theorem wrote_rep {rs:List Addr} {xs:List V} (e:μ.rs=p :: rs) (hp:H p=some (.lst xs)) (rp:Rep K cl μ S H):Rep K cl μ S (upd H p o):=by
 have np:p∉μ.pl:=(rp.res p (by rw [e];exact List.mem_cons_self)).1
 refine rp.move (λa m=>?_) rfl (λa m=>upd_ne λz=>np (z▸m)) (λa u q=>by rw [upd_ne (ne_of q hp (by intro z;cases z))];exact q) λa u q n1 n2=>⟨by rw [upd_ne (λz=>n2 (by rw [e,z];exact List.mem_cons_self))];exact q,n1,n2⟩
 obtain ⟨h1,u,h2⟩:=rp.res a m
 by_cases z:a=p
 ·subst z;exact ⟨h1,o,upd_same⟩
 ·exact ⟨h1,u,by rw [upd_ne z];exact h2⟩
end
inductive Fl where
 | nx (ρ:Env) | rt (d:D) | bk (ρ:Env) | ct (ρ:Env)
noncomputable def FlOk (K:PySem.W.Frag) (D:Ends) (fl:Fl) (μ:Mp) (H:Hp):Prop:=match fl with
 | .nx ρ=>∀ σ,EnvOk K μ H ρ σ->D.nx σ H
 | .rt d=>∀ v,RD K μ H d v->D.rt v H
 | .bk ρ=>∀ σ,EnvOk K μ H ρ σ->D.bk σ H
 | .ct ρ=>∀ σ,EnvOk K μ H ρ σ->D.ct σ H
noncomputable def sD (K:PySem.W.Frag) (cl:Nat->Addr) (xe:Addr->Hp->Prop) (f:Env->M Fl):TS:=λD σ H=>∃ μ S ρ,EnvOk K μ H ρ σ/\Rep K cl μ S H/\Post K cl xe μ H (f ρ S) λfl _ μ' H'=>FlOk K D fl μ' H'
noncomputable def seqF (f g:Env->M Fl) (ρ:Env):M Fl:=bind (f ρ) λfl=>match fl with
 | .nx ρ'=>g ρ'
 | fl=>ret fl
section
variable {X:Cx} {cl:Nat->Addr} {xe:Addr->Hp->Prop} {e:Expr} {st:Stmt} {sts:List Stmt} {pos:Pos} {f:Env->M D} {g h:Env->M Fl}
theorem ps_bad {st:Stmt}:PS X st (sD X.K cl xe λ_=>bad):=λ_ _ _ _ _ _ ⟨_,_,_,_,_,p⟩=>p.elim
theorem pds_nil':PSs X [] (sD X.K cl xe λρ=>ret (.nx ρ)):=PSs.imp pss_nil λD σ H ⟨μ,S,ρ,eo,rp,p⟩=>p.ret μ H (Lat.refl _ _) rp σ eo
theorem pds_seq (h1:PS X st (sD X.K cl xe g)) (h2:PSs X sts (sD X.K cl xe h)):PSs X (st :: sts) (sD X.K cl xe (seqF g h)):=PSs.imp (pss_cons h1 h2) λD σ H ⟨μ,S,ρ,eo,rp,p⟩=>
 ⟨μ,S,ρ,eo,rp,p.bind.imp λfl S1 μ1 H1 l1 r1 p1=>by
  cases fl with
  | nx ρ1=>exact λσ1 eo1=>⟨μ1,S1,ρ1,eo1,r1,p1⟩
  | rt d=>exact p1.ret μ1 H1 (Lat.refl _ _) r1
  | bk ρ1=>exact p1.ret μ1 H1 (Lat.refl _ _) r1
  | ct ρ1=>exact p1.ret μ1 H1 (Lat.refl _ _) r1⟩
theorem pds_ret (he:PE X e (tD X.K cl xe f)):PS X (.Return (some e) pos) (sD X.K cl xe λρ=>bind (f ρ) λd=>ret (.rt d)):=PS.imp (ps_ret he) λD σ H ⟨μ,S,ρ,eo,rp,p⟩=>
 ⟨μ,S,ρ,eo,rp,p.bind.imp λd S1 μ1 H1 l1 r1 p1 v rv=>p1.ret μ1 H1 (Lat.refl _ _) r1 v rv⟩
theorem pds_if {c:Expr} {t:Env->M Bool} {a b:List Stmt} (hc:PT X c (tBo X.K cl xe t)) (ha:PSs X a (sD X.K cl xe g)) (hb:PSs X b (sD X.K cl xe h)):PS X (.If c a b pos) (sD X.K cl xe λρ=>bind (t ρ) λq=>if q=true then g ρ else h ρ):=PS.imp (L2.ps_if hc ha hb) λD σ H ⟨μ,S,ρ,eo,rp,p⟩=>
 ⟨μ,S,ρ,eo,rp,p.bind.imp λq S1 μ1 H1 l1 r1 p1=>by
  cases q with
  | true=>exact ⟨μ1,S1,ρ,eo.later l1,r1,p1⟩
  | false=>exact ⟨μ1,S1,ρ,eo.later l1,r1,p1⟩⟩
theorem pds_set {i:Nat} {x:Str} {pos':Pos} (hN:X.N.Nodup) (hi:X.N[i]?=some x) (hx:Loc X.env.scope x) (he:PE X e (tD X.K cl xe f)) (hn:noComp e=true) (hf:X.fn x=true\/X.env.scope.names.lookup x=some .local) :
  PS X (.Assign [.Name x pos'] e pos) (sD X.K cl xe λρ=>bind (f ρ) λd=>ret (.nx (ρ.set i (some d)))):=PS.imp (ps_set hN hi hx he (swaps_of hn) hf) λD σ H ⟨μ,S,ρ,eo,rp,p⟩=>
 ⟨μ,S,ρ,eo,rp,p.bind.imp λd S1 μ1 H1 l1 r1 p1 v rv=>p1.ret μ1 H1 (Lat.refl _ _) r1 _ ((eo.later l1).set rv i)⟩
noncomputable def tgOk (K:PySem.W.Frag) (cl:Nat->Addr) (tg:D->Env->Option Env):TG:=λv σ H Q=>∃ μ S ρ d ρ',EnvOk K μ H ρ σ/\Rep K cl μ S H/\RD K μ H d v/\tg d ρ=some ρ'/\∀ σ',EnvOk K μ H ρ' σ'->Q σ' H
theorem PG.imp {t:Expr} {u u':TG} (h:PG X t u) (k:∀ v σ H Q,u' v σ H Q->u v σ H Q):PG X t u':=λpins s σ H v w Q I r q=>h pins s σ H v w Q I r (k v σ H Q q)
theorem pg_nameD {i:Nat} {x:Str} {pos':Pos} (hN:X.N.Nodup) (hi:X.N[i]?=some x) (hx:Loc X.env.scope x) (hf:X.fn x=true\/X.env.scope.names.lookup x=some .local):PG X (.Name x pos') (tgOk X.K cl λd ρ=>some (ρ.set i (some d))):=
 PG.imp (pg_name hN hi hx hf) λv σ H Q ⟨μ,S,ρ,d,ρ',eo,rp,rd,e,q⟩=>by
  cases e
  exact q _ (eo.set rd i)
noncomputable def setAll:List Nat->List D->Env->Option Env
 | [],[],ρ=>some ρ
 | i :: is,d :: ds,ρ=>setAll is ds (ρ.set i (some d))
 | _,_,_=>none
noncomputable def tgTup (is:List Nat) (d:D) (ρ:Env):Option Env:=match d with
 | .tup ds=>setAll is ds ρ
 | _=>none
noncomputable def NamesAt (X:Cx):List Expr->List Nat->Prop
 | [],[]=>True
 | .Name x _ :: ts,i :: is=>X.N[i]?=some x/\Loc X.env.scope x/\(X.fn x=true\/X.env.scope.names.lookup x=some .local)/\NamesAt X ts is
 | _,_=>False
theorem pgs_names (hN:X.N.Nodup):∀ {ts:List Expr} {is:List Nat},NamesAt X ts is->PGs X ts (λvs σ H Q=>∃ μ ds ρ ρ',EnvOk X.K μ H ρ σ/\RDs X.K μ H ds vs/\setAll is ds ρ=some ρ'/\∀ σ',EnvOk X.K μ H ρ' σ'->Q σ' H)
 | [],[],_=>λpins s σ H vs us Q I r ⟨μ,ds,ρ,ρ',eo,rd,e,q⟩=>by
  cases ds with
  | nil=>
   cases rd
   cases e
   exact pgs_nil pins s σ H [] us Q I r ⟨rfl,q σ eo⟩
  | cons d ds=>cases e
 | .Name x p :: ts,i :: is,⟨h1,h2,h3,h4⟩=>λpins s σ H vs us Q I r ⟨μ,ds,ρ,ρ',eo,rd,e,q⟩=>by
  cases ds with
  | nil=>cases e
  | cons d ds=>
   cases rd with
   | cons r1 r2=>
    exact pgs_cons (pg_name (i:=i) hN h1 h2 h3) (pgs_names hN h4) rfl pins s σ H _ us Q I r ⟨_,_,rfl,μ,ds,_,ρ',eo.set r1 i,r2,e,q⟩
theorem namesAt_star {ts:List Expr} {is:List Nat}:NamesAt X ts is->(assignEach ts X.env).length=is.length/\(assignEach ts X.env).findIdx? (·.1)=none:=by
 induction ts generalizing is with
 | nil=>
  intro h
  cases is with
  | nil=>exact ⟨rfl,rfl⟩
  | cons i is=>exact h.elim
 | cons t ts ih=>
  intro h
  cases is with
  | nil=>cases t <;> exact h.elim
  | cons i is=>
   cases t with
   | Name x p=>
    obtain ⟨_,_,_,h4⟩:=h
    obtain ⟨a,b⟩:=ih h4
    refine ⟨by show (assignEach ts X.env).length+1=_;rw [a];rfl,?_⟩
    show ((false,assign (.Name x p) X.env) :: assignEach ts X.env).findIdx? (·.1)=none
    rw [List.findIdx?_cons]
    simp [b]
   | _=>exact h.elim
theorem setAll_len:∀ {is:List Nat} {ds:List D} {ρ ρ':Env},setAll is ds ρ=some ρ'->ds.length=is.length
 | [],[],_,_,_=>rfl
 | _ :: _,_ :: _,_,_,e=>by simp [setAll_len (by simpa [setAll] using e)]
 | [],_ :: _,_,_,e=>by cases e
 | _ :: _,[],_,_,e=>by cases e
theorem pg_tupD {ts:List Expr} {is:List Nat} {k:Nat} {pos':Pos} (hc:X.calm=true) (hN:X.N.Nodup) (h:NamesAt X ts is):PG X (.Tuple ts k pos') (tgOk X.K cl (tgTup is)):=
 PG.imp (pg_tup (n:=is.length) hc (pgs_names hN h) (namesAt_star h).1 (namesAt_star h).2) λv σ H Q ⟨μ,S,ρ,d,ρ',eo,rp,rd,e,q⟩=>by
  cases rd with
  | tup h1 h2=>exact ⟨_,_,rfl,h1.sq,by rw [<- h2.length];exact setAll_len e,μ,_,ρ,ρ',eo,h2,e,q⟩
  | _=>cases e
end
structure LatR (μ:Mp) (H:Hp) (μ':Mp) (H':Hp):Prop where
 pre:∀ (n:Nat) (a:Addr),μ.pl[n]?=some a->μ'.pl[n]?=some a
 oth:∀ a o,H a=some o->a∉μ.pl->H' a=some o
 new:∀ a,a∈μ'.pl->a∈μ.pl\/H a=none
 rsw:∀ a,a∈μ'.rs->a∈μ.rs\/H a=none
theorem Lat.r {μ μ':Mp} {H H':Hp} (l:Lat μ H μ' H'):LatR μ H μ' H':=⟨l.pre,l.oth,l.new,λa m=>.inl (by rw [l.rsv] at m;exact m)⟩
structure LatU (μ:Mp) (H:Hp) (μ':Mp) (H':Hp):Prop where
 pre:∀ (n:Nat) (a:Addr),μ.pl[n]?=some a->μ'.pl[n]?=some a
 oth:∀ a o,H a=some o->a∉μ.pl->a∉μ.rs->H' a=some o
 new:∀ a,a∈μ'.pl->a∈μ.pl\/H a=none
 rsw:∀ a,a∈μ'.rs->a∈μ.rs\/H a=none
theorem LatR.u {μ μ':Mp} {H H':Hp} (l:LatR μ H μ' H'):LatU μ H μ' H':=⟨l.pre,λa o e n _=>l.oth a o e n,l.new,l.rsw⟩
theorem LatU.out {μ μ':Mp} {H H':Hp} (l:LatU μ H μ' H') (a:Addr) (u:HO) (e:H a=some u) (n1:a∉μ.pl) (n2:a∉μ.rs):H' a=some u/\a∉μ'.pl/\a∉μ'.rs:=by
 refine ⟨l.oth a u e n1 n2,λz=>?_,λz=>?_⟩
 ·rcases l.new a z with q | q
  ·exact n1 q
  ·rw [e] at q;cases q
 ·rcases l.rsw a z with q | q
  ·exact n2 q
  ·rw [e] at q;cases q
theorem RDs.laterU {K:PySem.W.Frag} {μ μ':Mp} {H H':Hp} (l:LatU μ H μ' H') {ds:List D} {vs:List V} (r:RDs K μ H ds vs):RDs K μ' H' ds vs:=r.move l.pre l.out
noncomputable abbrev Src:=Nat->Sto->Option (Option D)
noncomputable def YlAt (K:PySem.W.Frag) (cl:Nat->Addr) (J:It) (i:Nat) (μ2:Mp) (H2:Hp) (S2:Sto) (o:Option (Option D)):Prop:=match o with
 | some (some d)=>J.go i H2/\∀ x H3,J.yld i H2 x H3->Lat μ2 H2 μ2 H3/\Rep K cl μ2 S2 H3/\RD K μ2 H3 d x
 | some none=>J.stop i H2
 | none=>True
noncomputable def Yl (K:PySem.W.Frag) (cl:Nat->Addr) (J:It) (μ:Mp) (H:Hp) (src:Src):Prop:=∀ (i:Nat) (μ2:Mp) (H2:Hp) (S2:Sto),LatU μ H μ2 H2->Rep K cl μ2 S2 H2->YlAt K cl J i μ2 H2 S2 (src i S2)
noncomputable def tIt (K:PySem.W.Frag) (cl:Nat->Addr) (xe:Addr->Hp->Prop) (f:Env->M (Src×Nat)):TI:=λσ H R=>∃ μ S ρ,EnvOk K μ H ρ σ/\Rep K cl μ S H/\Post K cl xe μ H (f ρ S) λp _ μ' H'=>∀ J,Yl K cl J μ' H' p.1->R J H'
theorem PI.imp {X:Cx} {tg it:Expr} {t t':TI} (h:PI X tg it t) (k:∀ σ H R,t' σ H R->t σ H R):PI X tg it t':=λpins s σ H R I q=>h pins s σ H R I (k σ H R q)
theorem pi_seq {X:Cx} {tg l:Expr} {tl:TE} (hl:PE X l tl):PI X tg l (λσ H R=>tl σ H λx H1=>∃ a,x=.ref a/\(((∃ xs,SqL X.K H1 a xs)/\R (Itl X.K a) H1)\/((∃ xs,SqT X.K H1 a xs)/\R (Itt X.K a) H1))):=by
 intro pins s σ H R I h
 refine thn (hl pins s σ H _ I h) λv s1 ⟨x,H1,I1,r1,q1⟩=>?_
 obtain ⟨a,e,q1⟩:=q1
 subst e
 cases r1
 rcases q1 with ⟨⟨xs,hq⟩,q⟩ | ⟨⟨xs,hq⟩,q⟩
 ·obtain ⟨its,rv,p,hz⟩:=I1.list hq
  refine wpAny_pyIter_list p.isList ?_
  refine ⟨s1.heap.objs.size,[s1.heap.objs.size],_,_,H1,rfl,I1.kept (t':=s1.toks) λb o e=>Heap.get?_push_of_some _ e,turn_list a _,⟨_,Heap.get?_push_size _ rfl,rfl,rfl⟩,λb hb=>?_,q⟩
  have e:b=s1.heap.objs.size:=by simpa using hb
  subst e
  exact I1.fpOk (Nat.le_refl _) (I1.hok.fresh (Nat.le_refl _))
 ·obtain ⟨its,rv,p,hz⟩:=I1.tuple hq
  refine wpAny_pyIter_tuple (show s1.heap.IsTuple a its.toArray from p) ?_
  refine ⟨s1.heap.objs.size,[s1.heap.objs.size],_,_,H1,rfl,I1.kept (t':=s1.toks) λb o e=>Heap.get?_push_of_some _ e,turn_tuple a _,⟨_,Heap.get?_push_size _ rfl,rfl,rfl⟩,λb hb=>?_,q⟩
  have e:b=s1.heap.objs.size:=by simpa using hb
  subst e
  exact I1.fpOk (Nat.le_refl _) (I1.hok.fresh (Nat.le_refl _))
noncomputable def srcL (ds:List D):Src:=λi _=>some ds[i]?
noncomputable def srcR (n:Nat):Src:=λi S=>match S[n]? with
 | some (.lst es)=>some es[i]?
 | _=>none
noncomputable def srcI (lo:Int) (n:Nat):Src:=λi _=>some (if i<n then some (.int (lo+i)) else none)
section
variable {K:PySem.W.Frag} {cl:Nat->Addr} {μ:Mp} {H:Hp}
theorem yl_tup {a:Addr} {xs:List V} {ds:List D} (h:TupAt K μ H a xs) (r:RDs K μ H ds xs):Yl K cl (Itt K a) μ H (srcL ds):=λi μ2 H2 S2 l rp=>by
 have hq:SqT K H2 a xs:=by
  rcases h with ⟨q,n1,n2⟩ | q
  ·rcases q with q | ⟨o,q⟩
   ·exact .inl (.inl (l.oth _ _ q n1 n2))
   ·exact .inl (.inr ⟨o,l.oth _ _ q n1 n2⟩)
  ·obtain ⟨o,its,n,c1,c2,c3,c4,c5,_⟩:=q
   exact .inr ⟨o,its,n,c1,c2,c3,c4,c5⟩
 have r2:=r.laterU l
 show YlAt K cl (Itt K a) i μ2 H2 S2 (some ds[i]?)
 cases e:ds[i]? with
 | none=>exact ⟨xs,hq,by rw [<- r.length];exact List.getElem?_eq_none_iff.mp e⟩
 | some d=>
  obtain ⟨v,e1,r1⟩:=r2.get e
  exact ⟨⟨xs,v,hq,e1⟩,λx H3 ⟨e3,q⟩=>by subst e3;have:=q xs hq;rw [e1] at this;cases this;exact ⟨Lat.refl _ _,rp,r1⟩⟩
theorem yl_lst {a:Addr} {xs:List V} {ds:List D} (h:LstAt μ H a xs\/ScrAt K μ H a xs) (r:RDs K μ H ds xs):Yl K cl (Itl K a) μ H (srcL ds):=λi μ2 H2 S2 l rp=>by
 have hq:SqL K H2 a xs:=by
  rcases h with ⟨q,n1,n2⟩ | ⟨q,n1,n2⟩ | q
  ·exact .inl (.inl (l.oth _ _ q n1 n2))
  ·rcases q with q | ⟨o,q⟩
   ·exact .inl (.inl (l.oth _ _ q n1 n2))
   ·exact .inl (.inr ⟨o,l.oth _ _ q n1 n2⟩)
  ·exact .inr q
 have r2:=r.laterU l
 show YlAt K cl (Itl K a) i μ2 H2 S2 (some ds[i]?)
 cases e:ds[i]? with
 | none=>exact ⟨xs,hq,by rw [<- r.length];exact List.getElem?_eq_none_iff.mp e⟩
 | some d=>
  obtain ⟨v,e1,r1⟩:=r2.get e
  exact ⟨⟨xs,v,hq,e1⟩,λx H3 ⟨e3,q⟩=>by subst e3;have:=q xs hq;rw [e1] at this;cases this;exact ⟨Lat.refl _ _,rp,r1⟩⟩
theorem yl_ref {a:Addr} {n:Nat} (h:μ.pl[n]?=some a):Yl K cl (Itl K a) μ H (srcR n):=λi μ2 H2 S2 l rp=>by
 show YlAt K cl (Itl K a) i μ2 H2 S2 (match S2[n]? with
  | some (.lst es)=>some es[i]?
  | _=>none)
 cases q1:S2[n]? with
 | none=>exact True.intro
 | some o=>
  cases o with
  | dct _=>exact True.intro
  | exc _ _=>exact True.intro
  | lst es=>
   obtain ⟨xs,h1,h2⟩:=rp.ats n _ a q1 (l.pre _ _ h)
   have hq:SqL K H2 a xs:=.inl (.inl h1)
   show YlAt K cl (Itl K a) i μ2 H2 S2 (some es[i]?)
   cases e:es[i]? with
   | none=>exact ⟨xs,hq,by rw [<- h2.length];exact List.getElem?_eq_none_iff.mp e⟩
   | some d=>
    obtain ⟨v,e1,r1⟩:=h2.get e
    exact ⟨⟨xs,v,hq,e1⟩,λx H3 ⟨e3,q⟩=>by subst e3;have:=q xs hq;rw [e1] at this;cases this;exact ⟨Lat.refl _ _,rp,r1⟩⟩
theorem yl_range {lo:Int} {n:Nat}:Yl K cl (Itr lo n) μ H (srcI lo n):=λi μ2 H2 S2 l rp=>by
 show YlAt K cl (Itr lo n) i μ2 H2 S2 (some (if i<n then some (.int (lo+i)) else none))
 by_cases hi:i<n
 ·rw [if_pos hi]
  exact ⟨hi,λx H3 ⟨e3,e4⟩=>by subst e3 e4;exact ⟨Lat.refl _ _,rp,.int _⟩⟩
 ·rw [if_neg hi]
  exact Nat.le_of_not_lt hi
end
noncomputable def srcD (d:D):M (Src×Nat):=match d with
 | .tup ds=>ret (srcL ds,ds.length+1)
 | .lst ds=>ret (srcL ds,ds.length+1)
 | .scr ds=>ret (srcL ds,ds.length+1)
 | .ref n=>λS=>match S[n]? with
  | some (.lst ds)=>.ok (srcR n,ds.length+1) S
  | _=>.bad
 | _=>bad
noncomputable def srcRg (ds:List D):M (Src×Nat):=match ds with
 | [.int j]=>if -(2 ^ 62)<=j/\j<2 ^ 62 then ret (srcI 0 j.toNat,j.toNat+1) else bad
 | [.int i,.int j]=>if -(2 ^ 62)<=i/\i<2 ^ 62/\-(2 ^ 62)<=j/\j<2 ^ 62 then ret (srcI i (j-i).toNat,(j-i).toNat+1) else bad
 | _=>bad
section
variable {X:Cx} {cl:Nat->Addr} {xe:Addr->Hp->Prop} {e:Expr} {tg:Expr} {pos:Pos} {f:Env->M D}
theorem pit_bad {tg e:Expr}:PI X tg e (tIt X.K cl xe λ_=>bad):=λ_ _ _ _ _ _ ⟨_,_,_,_,_,p⟩=>p.elim
theorem pit_seq (h:PE X e (tD X.K cl xe f)):PI X tg e (tIt X.K cl xe λρ=>bind (f ρ) srcD):=PI.imp (pi_seq h) λσ H R ⟨μ,S,ρ,eo,rp,p⟩=>
 ⟨μ,S,ρ,eo,rp,p.bind.imp λd S1 μ1 H1 l1 r1 p1 v rv=>by
  cases rv with
  | tup h r=>exact ⟨_,rfl,.inr ⟨⟨_,h.sq⟩,p1.ret μ1 H1 (Lat.refl _ _) r1 _ (yl_tup h r)⟩⟩
  | lst h r=>exact ⟨_,rfl,.inl ⟨⟨_,h.sq⟩,p1.ret μ1 H1 (Lat.refl _ _) r1 _ (yl_lst (.inl h) r)⟩⟩
  | scr h r=>exact ⟨_,rfl,.inl ⟨⟨_,h.sq⟩,p1.ret μ1 H1 (Lat.refl _ _) r1 _ (yl_lst (.inr h) r)⟩⟩
  | ref h=>
   rename_i n a
   simp only [srcD] at p1
   cases q1:S1[n]? with
   | none=>rw [q1] at p1;exact p1.elim
   | some o=>
    rw [q1] at p1
    cases o with
    | lst ds=>
     obtain ⟨xs,h1,h2⟩:=r1.ats n _ a q1 h
     exact ⟨_,rfl,.inl ⟨⟨xs,.inl (.inl h1)⟩,p1 μ1 H1 (Lat.refl _ _) r1 _ (yl_ref h)⟩⟩
    | dct _=>exact p1.elim
    | exc _ _=>exact p1.elim
  | _=>exact False.elim p1⟩
theorem pit_range1 {a:Expr} {fs:Env->M (List D)} {p:Pos} (hg:Gl X "range") (hm:X.mg "range" = none) (ha:PA X [a] (tDs X.K cl xe fs)) (hs:noStar a=true):PI X tg (.Call (.Name "range" p) [a] [] pos) (tIt X.K cl xe λρ=>bind (fs ρ) λds=>if ds.length=1 then srcRg ds else bad):=
 PI.imp (pi_range1 hg hm ha (star_of hs)) λσ H R ⟨μ,S,ρ,eo,rp,p⟩=>⟨μ,S,ρ,eo,rp,p.bind.imp λds S1 μ1 H1 l1 r1 p1 vs rvs=>by
  cases rvs with
  | nil=>exact False.elim p1
  | cons h t=>
   cases t with
   | cons _ t=>rw [if_neg (by simp)] at p1;exact p1.elim
   | nil=>
    rename_i d0 v0
    rw [if_pos (show ([d0]:List D).length=1 from rfl)] at p1
    cases h with
    | int j=>
     obtain ⟨⟨h1,h2⟩,p1⟩:=Post.guard p1
     exact ⟨j,rfl,h1,h2,p1 μ1 H1 (Lat.refl _ _) r1 _ yl_range⟩
    | _=>exact False.elim p1⟩
end
noncomputable def forD (src:Src) (tg:D->Env->Option Env) (body:Env->M Fl):Nat->Nat->Env->M Fl
 | 0,_,_=>bad
 | m+1,i,ρ=>λS=>match src i S with
  | none=>.bad
  | some none=>.ok (.nx ρ) S
  | some (some d)=>match tg d ρ with
   | none=>.bad
   | some ρ1=>bind (body ρ1) (λfl=>match fl with
    | .nx ρ2=>forD src tg body m (i+1) ρ2
    | .ct ρ2=>forD src tg body m (i+1) ρ2
    | .bk ρ2=>ret (.nx ρ2)
    | .rt d=>ret (.rt d)) S
section
variable {X:Cx} {cl:Nat->Addr} {xe:Addr->Hp->Prop} {iter tgt:Expr} {pos:Pos} {fi:Env->M (Src×Nat)} {tg:D->Env->Option Env} {g:Env->M Fl} {body:List Stmt}
theorem pds_for (hp:PassesOwn (model X.prog X.w) X.A X.env X.xe) (hc:X.calm=true) (hi:PI X tgt iter (tIt X.K cl xe fi)) (hg:PG X tgt (tgOk X.K cl tg)) (hb:PSs X body (sD X.K cl xe g)) (hn:noSet iter=true) :
  PS X (.For tgt iter body [] pos) (sD X.K cl xe λρ=>bind (fi ρ) λp=>forD p.1 tg g p.2 0 ρ):=PS.imp (ps_for hp hc hi hg hb (folded_of hn)) λD σ H ⟨μ,S,ρ,eo,rp,p⟩=>by
 refine ⟨μ,S,ρ,eo,rp,p.bind.imp λsm S1 μ1 H1 l1 r1 p1 J yl=>?_⟩
 obtain ⟨src,m⟩:=sm
 refine ⟨λi m σ H=>∃ μ2 S2 ρ2,LatR μ1 H1 μ2 H/\EnvOk X.K μ2 H ρ2 σ/\Rep X.K cl μ2 S2 H/\Post X.K cl xe μ2 H (forD src tg g m i ρ2 S2) (λfl _ μ' H'=>FlOk X.K D fl μ' H'),⟨m,μ1,S1,ρ,(Lat.refl _ _).r,eo.later l1,r1,p1⟩,?_⟩
 rintro i m σ2 H2 ⟨μ2,S2,ρ2,l2,eo2,r2,p2⟩
 cases m with
 | zero=>exact p2.elim
 | succ m=>
  have y:YlAt X.K cl J i μ2 H2 S2 (src i S2):=yl i μ2 H2 S2 l2.u r2
  simp only [forD] at p2
  cases e1:src i S2 with
  | none=>rw [e1] at p2;exact p2.elim
  | some o=>
   rw [e1] at p2 y
   cases o with
   | none=>exact .inl ⟨y,p2 μ2 H2 (Lat.refl _ _) r2 σ2 eo2⟩
   | some d=>
    obtain ⟨y1,y2⟩:=y
    cases e2:tg d ρ2 with
    | none=>simp only [e2] at p2;exact p2.elim
    | some ρ3=>
     simp only [e2] at p2
     refine .inr ⟨y1,λσ' H'=>∃ μ3 S3 ρ4,LatR μ1 H1 μ3 H'/\EnvOk X.K μ3 H' ρ4 σ'/\Rep X.K cl μ3 S3 H'/\Post X.K cl xe μ3 H' (forD src tg g m (i+1) ρ4 S3) (λfl _ μ' H'=>FlOk X.K D fl μ' H'),λσ' H' q=>⟨m,Nat.lt_succ_self _,q⟩,λx H3 hy=>?_⟩
     obtain ⟨l3,r3,rd3⟩:=y2 x H3 hy
     refine ⟨μ2,S2,ρ2,d,ρ3,eo2.later l3,r3,rd3,e2,λσ3 eo3=>?_⟩
     refine ⟨μ2,S2,ρ3,eo3,r3,(Post.later p2 l3).bind.imp λfl S4 μ4 H4 l4 r4 p4=>?_⟩
     have lr:LatR μ1 H1 μ4 H4:=by
      have l34:=l3.trans l4
      refine ⟨λn a e=>l34.pre n a (l2.pre n a e),λa o e n=>l34.oth a o (l2.oth a o e n) (λz=>(l2.new a z).elim n (λq=>by rw [e] at q;cases q)),λa m=>(l34.new a m).elim (λz=>l2.new a z) (λz=>?_),λa m=>l2.rsw a (by rw [<- l34.rsv];exact m)⟩
      by_cases mm:a∈μ1.pl
      ·exact .inl mm
      ·right
       cases e:H1 a with
       | none=>rfl
       | some o=>rw [l2.oth a o e mm] at z;cases z
     cases fl with
     | nx ρ4=>exact λσ4 eo4=>⟨μ4,S4,ρ4,lr,eo4,r4,p4⟩
     | ct ρ4=>exact λσ4 eo4=>⟨μ4,S4,ρ4,lr,eo4,r4,p4⟩
     | bk ρ4=>exact p4.ret μ4 H4 (Lat.refl _ _) r4
     | rt d=>exact p4.ret μ4 H4 (Lat.refl _ _) r4
end
structure HLat (μ:Mp) (H:Hp) (p:Addr) (μ2:Mp) (H2:Hp):Prop where
 r:LatR μ H μ2 H2
 rs:μ2.rs=p :: μ.rs
theorem HLat.lat {μ μ2 μ':Mp} {H H2 H':Hp} {p:Addr} (h:HLat μ H p μ2 H2) (l:Lat μ2 H2 μ' H'):Lat μ H μ'.free H':=by
 refine ⟨λn a e=>l.pre n a (h.r.pre n a e),λa o e n=>?_,λa m=>?_,by show μ'.rs.tail=μ.rs;rw [l.rsv,h.rs];rfl⟩
 ·have n2:a∉μ2.pl:=λz=>(h.r.new a z).elim n λq=>by rw [e] at q;cases q
  exact l.oth a o (h.r.oth a o e n) n2
 ·rcases l.new a m with q | q
  ·exact h.r.new a q
  ·by_cases mm:a∈μ.pl
   ·exact .inl mm
   ·right
    cases e:H a with
    | none=>rfl
    | some o=>rw [h.r.oth a o e mm] at q;cases q
theorem HLat.step {μ μ2 μ3:Mp} {H H2 H3:Hp} {p:Addr} (h:HLat μ H p μ2 H2) (l:Lat μ2 H2 μ3 H3):HLat μ H p μ3 H3:=by
 have k:=h.lat l
 refine ⟨⟨k.pre,k.oth,k.new,λa m=>h.r.rsw a (by rw [<- l.rsv];exact m)⟩,by rw [l.rsv];exact h.rs⟩
section
variable {K:PySem.W.Frag} {cl:Nat->Addr} {xe:Addr->Hp->Prop} {α β:Type} {μ μ2:Mp} {H H2:Hp} {p:Addr} {S:Sto}
theorem Post.at {m:M α} {k:α->M β} {G:β->Sto->Mp->Hp->Prop} (h:Post K cl xe μ H (L3.bind m k S) G) (l:HLat μ H p μ2 H2):Post K cl xe μ2 H2 (m S) (λa S' _ _=>Post K cl xe μ H (k a S') G):=by
 unfold L3.bind at h
 cases e:m S with
 | ok a S1=>rw [e] at h;exact λ_ _ _ _=>h
 | exn n S1=>rw [e] at h;exact λμ' H' a k r q=>h μ'.free H' a (l.lat k) (free_rep r) q
 | bad=>rw [e] at h;exact h
end
noncomputable def compD (src:Src) (t:Env->M Bool) (f:Env->M D) (mk:D->Env):Nat->Nat->List D->M (List D)
 | 0,_,_=>bad
 | m+1,i,es=>λS=>match src i S with
  | none=>.bad
  | some none=>.ok es S
  | some (some d)=>bind (t (mk d)) (λb=>if b=true then bind (f (mk d)) (λy=>if es.length<sizeLine then compD src t f mk m (i+1) (es++[y]) else bad) else compD src t f mk m (i+1) es) S
noncomputable def capD (caps:List Nat) (ρ:Env):Env:=caps.map λi=>(ρ[i]?).join
theorem capD_ok {K:PySem.W.Frag} {μ:Mp} {H:Hp} {ρ:Env} {σ:L2.St} {caps:List Nat} {d:D} {x:V} (eo:EnvOk K μ H ρ σ) (r:RD K μ H d x):EnvOk K μ H (some d :: capD caps ρ) (some x :: capd caps σ):=by
 refine ⟨by simp [capD,capd],λi e he=>?_⟩
 cases i with
 | zero=>simp at he;subst he;exact ⟨x,rfl,r⟩
 | succ j=>
  have he:(capD caps ρ)[j]?=some (some e):=he
  unfold capD at he
  rw [List.getElem?_map] at he
  cases q:caps[j]? with
  | none=>rw [q] at he;cases he
  | some i=>
   rw [q] at he
   have h':(ρ[i]?).join=some e:=Option.some.inj he
   have h2:ρ[i]?=some (some e):=by
    cases q2:ρ[i]? with
    | none=>rw [q2] at h';cases h'
    | some o=>rw [q2] at h';exact congrArg some h'
   obtain ⟨v,e1,r1⟩:=eo.2 i e h2
   refine ⟨v,?_,r1⟩
   show (capd caps σ)[j]?=_
   unfold capd
   rw [List.getElem?_map,q]
   show some (σ[i]?).join=_
   rw [e1];rfl
noncomputable def compL (caps:List Nat) (fi:Env->M (Src×Nat)) (t:Env->M Bool) (f:Env->M D) (ρ:Env):M (List D):=bind (fi ρ) λsm=>compD sm.1 t f (λd=>some d :: capD caps ρ) sm.2 0 []
theorem comp_reads {K:PySem.W.Frag} {cl:Nat->Addr} {xe:Addr->Hp->Prop} {caps:List Nat} {fi:Env->M (Src×Nat)} {t:Env->M Bool} {f:Env->M D} {σ:L2.St} {H:Hp} {μ:Mp} {S:Sto} {ρ:Env} {Q:VK} (eo:EnvOk K μ H ρ σ) (rp:Rep K cl μ S H)
  (p:Post K cl xe μ H (compL caps fi t f ρ S) λds _ μ' H'=>∀ acc ys,LstAt μ' H' acc ys->RDs K μ' H' ds ys->Q (.ref acc) H'):tComp caps (tIt K cl xe fi) (tBo K cl xe t) (tD K cl xe f) σ H Q:=by
 refine ⟨μ,S,ρ,eo,rp,p.bind.imp λsm S1 μ1 H1 l1 r1 p1 J yl acc hacc=>?_⟩
 obtain ⟨src,m0⟩:=sm
 have nrs:acc∉μ1.rs:=r1.notrs hacc
 refine ⟨λi m ys H2=>∃ μ2 S2 es,HLat μ1 H1 acc μ2 H2/\acc∉μ2.pl/\H2 acc=some (.lst ys)/\EnvOk K μ2 H2 ρ σ/\Rep K cl μ2 S2 H2/\RDs K μ2 H2 es ys/\Post K cl xe μ1 H1 (compD src t f (λd=>some d :: capD caps ρ) m i es S2) (λds _ μ' H'=>∀ acc ys,LstAt μ' H' acc ys->RDs K μ' H' ds ys->Q (.ref acc) H'),⟨m0,μ1.hold acc,S1,[],?_,r1.notin hacc,upd_same,hold_env r1 hacc (eo.later l1),hold_rep r1 hacc,.nil,p1⟩,?_⟩
 ·refine ⟨⟨λ_ _ e=>e,λa o e _=>by rw [upd_ne (ne_of_none e hacc)];exact e,λa m=>.inl m,λa m=>?_⟩,rfl⟩
  rcases List.mem_cons.mp (show a∈acc :: μ1.rs from m) with rfl | m
  ·exact .inr hacc
  ·exact .inl m
 rintro i m ys H2 ⟨μ2,S2,es,hl,npl,e2,eo2,r2,rds2,p2⟩
 refine ⟨e2,?_⟩
 cases m with
 | zero=>exact p2.elim
 | succ m=>
  have y:YlAt K cl J i μ2 H2 S2 (src i S2):=yl i μ2 H2 S2 hl.r.u r2
  simp only [compD] at p2
  cases e1:src i S2 with
  | none=>rw [e1] at p2;exact p2.elim
  | some o=>
   rw [e1] at p2 y
   cases o with
   | none=>
    refine .inl ⟨y,p2 μ2.free H2 (hl.lat (Lat.refl _ _)) (free_rep r2) acc ys ⟨e2,npl,?_⟩ (free_rds rds2)⟩
    show acc∉μ2.rs.tail
    rw [hl.rs];exact nrs
   | some d=>
    obtain ⟨y1,y2⟩:=y
    refine .inr ⟨y1,λx H3 hy=>?_⟩
    obtain ⟨l3,r3,rd3⟩:=y2 x H3 hy
    have h3:=hl.step l3
    refine ⟨μ2,S2,_,capD_ok (eo2.later l3) rd3,r3,(Post.at p2 h3).imp λb S5 μ5 H5 l5 r5 p5=>?_⟩
    have h5:=h3.step l5
    have l35:=l3.trans l5
    have a5:H5 acc=some (.lst ys):=l35.oth _ _ e2 npl
    have n5:acc∉μ5.pl:=l35.out e2 npl
    cases b with
    | false=>exact ⟨m,Nat.lt_succ_self _,μ5,S5,es,h5,n5,a5,eo2.later l35,r5,rds2.later l35,p5⟩
    | true=>
     refine iteT ?_
     rw [if_pos rfl] at p5
     refine ⟨μ5,S5,_,(capD_ok (eo2.later l3) rd3).later l5,r5,(Post.at p5 h5).imp λyv S6 μ6 H6 l6 r6 p6 v rv=>?_⟩
     have h6:=h5.step l6
     have l36:=l35.trans l6
     have a6:H6 acc=some (.lst ys):=l6.oth _ _ a5 n5
     have n6:acc∉μ6.pl:=l6.out a5 n5
     by_cases hz:es.length<sizeLine
     ·rw [if_pos hz] at p6
      have er:μ6.rs=acc :: μ1.rs:=h6.rs
      refine ⟨a6,by rw [<- rds2.length];exact hz,m,Nat.lt_succ_self _,μ6,S6,es++[yv],?_,n6,upd_same,?_,wrote_rep er a6 r6,wrote_rds er ((rds2.later l36).append (.cons rv .nil)),p6⟩
      ·refine ⟨⟨h6.r.pre,λa o e n=>?_,h6.r.new,h6.r.rsw⟩,er⟩
       rw [upd_ne (ne_of_none e hacc)]
       exact h6.r.oth a o e n
      ·have eo6:=eo2.later l36
       exact ⟨eo6.1,λj e he=>let ⟨w,q,r⟩:=eo6.2 j e he;⟨w,q,wrote_rd er r⟩⟩
     ·rw [if_neg hz] at p6;exact p6.elim
section
variable {X:Cx} {cl:Nat->Addr} {xe:Addr->Hp->Prop} {elt iter:Expr} {x:Str} {px pos:Pos} {ifs:List Expr} {scope:Scope} {N':List Str} {caps:List Nat} {fi:Env->M (Src×Nat)} {t:Env->M Bool} {f:Env->M D}
theorem ptl_noneD {X:Cx}:PTL X [] (tBo X.K cl xe λ_=>ret true):=λpins s σ H Q I ⟨μ,S,ρ,eo,rp,p⟩=>ptl_nil pins s σ H Q I (p μ H (Lat.refl _ _) rp)
theorem pd_compP (T:CompText X.N X.env N' 1 caps scope) (hc:X.calm=true) (hN:N'.Nodup) (hx0:N'[0]?=some x) (hxl:scope.names.lookup x=some .local) (hi:PI X (.Name x px) iter (tIt X.K cl xe fi))
  (ht:∀ pins C fp s H,PTL (cxComp X pins N' scope C fp s H) ifs (tBo X.K cl xe t)) (he:∀ pins C fp s H,PE (cxComp X pins N' scope C fp s H) elt (tD X.K cl xe f)) (hn:noSet iter=true) :
  PE X (.ListComp elt [⟨.Name x px,iter,ifs,0⟩] scope pos) (λσ H Q=>∃ μ S ρ,EnvOk X.K μ H ρ σ/\Rep X.K cl μ S H/\Post X.K cl xe μ H (compL caps fi t f ρ S) λds _ μ' H'=>∀ acc ys,LstAt μ' H' acc ys->RDs X.K μ' H' ds ys->Q (.ref acc) H'):=
 PE.imp (pe_comp T hc hN hx0 hxl hi ht he (folded_of hn)) λσ H Q ⟨μ,S,ρ,eo,rp,p⟩=>comp_reads eo rp p
end
noncomputable def tNewL (K:PySem.W.Frag) (cl:Nat->Addr) (xe:Addr->Hp->Prop) (fs:Env->M (List D)):TE:=λσ H Q=>∃ μ S ρ,EnvOk K μ H ρ σ/\Rep K cl μ S H/\Post K cl xe μ H (fs ρ S) λds _ μ' H'=>∀ acc ys,LstAt μ' H' acc ys->RDs K μ' H' ds ys->Q (.ref acc) H'
end L3
end
section
set_option maxHeartbeats 1000000
namespace L2
open PySem PySem.Spec PyProof.Rows
end L2
end
section
set_option maxHeartbeats 1000000
namespace L3
open PySem PySem.Spec PyProof.Rows L2
end L3
end
section
set_option maxHeartbeats 1000000
namespace L2
open PySem PySem.Spec PyProof.Rows
end L2
end
section
set_option maxHeartbeats 1000000
namespace L3
open PySem PySem.Spec PyProof.Rows L2
section
variable {X:Cx} {cl:Nat->Addr} {xe:Addr->Hp->Prop} {a b e:Expr} {es rest:List Expr} {pos:Pos} {f g:Env->M D}
noncomputable def tPt (K:PySem.W.Frag) (cl:Nat->Addr) (xe:Addr->Hp->Prop) (fp:Env->M (Option Int)):TO:=λσ H Q=>∃ μ S ρ,EnvOk K μ H ρ σ/\Rep K cl μ S H/\Post K cl xe μ H (fp ρ S) λo _ _ H'=>Q o H'
noncomputable def intM (d:D):M (Option Int):=match d with
 | .int i=>ret (some i)
 | _=>bad
theorem PO.imp {e:Option Expr} {t t':TO} (h:PO X e t) (k:∀ σ H Q,t' σ H Q->t σ H Q):PO X e t':=λpins s σ H Q I q=>h pins s σ H Q I (k σ H Q q)
theorem pp_none:PO X none (tPt X.K cl xe λ_=>ret none):=PO.imp po_none λσ H Q ⟨μ,S,ρ,eo,rp,p⟩=>p μ H (Lat.refl _ _) rp
theorem pp_some (h:PE X e (tD X.K cl xe f)):PO X (some e) (tPt X.K cl xe λρ=>bind (f ρ) intM):=PO.imp (po_some h) λσ H Q ⟨μ,S,ρ,eo,rp,p⟩=>
 ⟨μ,S,ρ,eo,rp,p.bind.imp λd S1 μ1 H1 l1 r1 p1 v rv=>by
  cases rv with
  | int i=>exact ⟨i,rfl,p1 μ1 H1 (Lat.refl _ _) r1⟩
  | _=>exact False.elim p1⟩
theorem getItem_tuple_whole {prog:Program} {w:World} {A:Around} {E:Value->Shared->Prop} {s:Shared} {t sl:Addr} {items:Array Value} {vl vu:Value} {lo hi:Option Int} {Q:Value->Shared->Prop} (ht:IsTup s.heap t items) (hs:s.heap.IsSliceOf sl vl vu .none) (pl:IsPart vl lo) (pu:IsPart vu hi)
  (hw:HT.sIx items.size 0 lo=0/\HT.sIx items.size items.size hi=items.size) (h:Q (.ref t) s):wpAny (model prog w) A (getItem (.ref t) (.ref sl)) Q E s:=by
 obtain ⟨os,hos,hcs,hds⟩:=id hs
 have hTs:s.TypeIs (.ref sl) "slice":=⟨os,hos,hcs⟩
 unfold getItem
 try with_reducible refine wpAny_holding ?_
 first | refine wpAny_bind (wpAny_pure ?_) | skip
 refine wpAny_bind (wpAny_sequenceKey ht.typeIs (by decide) ?_)
 refine wpAny_bind (wpAny_callSpecial?_slot (name:=Str.ofString "__getitem__") ht.typeIs PyProof.Rows.slot_tuple_getitem
  (wpAny_call_entry PyProof.Rows.slot_tuple_getitem ht.typeIs entry_tuple_getitem ?_ (args_tuple_getitem _ _)))
 show wpAny _ _ (Builtin.Tuple.tupleItemsOf (.ref t) >>= _) _ _ s
 refine wpAny_bind (tupleItemsOf_ ht ?_)
 refine wpAny_bind (wpAny_typeOf hTs ?_)
 rw [if_pos (by decide)]
 refine wpAny_bind (HT.sliceApplied_gen hs pl pu ?_)
 have hyes:(((HT.sIx items.size 0 lo:Nat):Int)==0&&(1:Int)==1&&(HT.sIx items.size items.size hi-HT.sIx items.size 0 lo)==items.size)=true:=by
  rw [hw.1,hw.2];simp
 show wpAny _ _ (if (((HT.sIx items.size 0 lo:Nat):Int)==0&&(1:Int)==1&&(HT.sIx items.size items.size hi-HT.sIx items.size 0 lo)==items.size)=true then _ else _) _ _ s
 rw [if_pos hyes]
 refine wpAny_bind (m:=Builtin.Tuple.tupleIsExact (.ref t)) ?_
 unfold Builtin.Tuple.tupleIsExact
 refine wpAny_bind (wpAny_typeOf ht.typeIs (wpAny_pure ?_))
 rw [if_pos (by decide)]
 refine wpAny_bind (wpAny_rule ?_)
 exact wpAny_pure ⟨_,rfl,wpAny_pure h⟩
theorem sl_tupW:SlR X (λx lo hi H Q=>∃ a xs,x=.ref a/\SqT X.K H a xs/\(HT.sIx xs.length 0 lo=0/\HT.sIx xs.length xs.length hi=xs.length)/\Q (.ref a) H):=by
 intro pins s σ H x v vl vu lo hi sl Q I rx hs pl pu h
 obtain ⟨a,xs,rfl,hx,hw,q⟩:=h
 cases rx
 obtain ⟨its,r,ht,hz⟩:=I.tuple hx
 have hlen:its.toArray.size=xs.length:=by rw [List.size_toArray];exact r.length.symm
 exact ⟨"tuple",_,PyProof.Rows.slot_tuple_getitem.lookup,ht.typeIs,getItem_tuple_whole ht hs pl pu (by rw [hlen];exact hw) ⟨.ref a,H,I,rfl,q⟩⟩
theorem p_sl:SlR X (λx lo hi H Q=>∃ μ S d,RD X.K μ H d x/\Rep X.K cl μ S H/\Post X.K cl xe μ H (slD d lo hi S) λr _ μ' H'=>∀ v,RD X.K μ' H' r v->Q v H'):=by
 intro pins s σ H x v vl vu lo hi sl Q I rx hs pl pu ⟨μ,S,d,rd,rp,p⟩
 have sq:∀ {a:Addr} {xs:List V} {ds:List D},SqL X.K H a xs->RDs X.K μ H ds xs->x=.ref a->(∀ μ' H',Lat μ H μ' H'->Rep X.K cl μ' S H'->∀ w,RD X.K μ' H' (.lst (cutD ds lo hi)) w->Q w H') ->
   ∃ T id,typeLookup (.type T) "__getitem__" = pure (some (.builtin id))/\s.TypeIs v T/\wpAny (model X.prog X.w) X.A (getItem v (.ref sl)) (EP X pins σ Q) X.xe s:=λ{a xs ds} hq r2 hv q=>by
  subst hv
  refine sl_list pins s σ H _ v vl vu lo hi sl Q I rx hs pl pu ⟨a,xs,rfl,hq,λz hz=>?_⟩
  obtain ⟨l,rp2,rd2⟩:=new_lst rp (cut_rd r2 lo hi) hz
  exact q μ _ l rp2 _ rd2
 cases rd with
 | tup h r=>
  rename_i a xs ds
  by_cases hw:HT.sIx xs.length 0 lo=0/\HT.sIx xs.length xs.length hi=xs.length
  ·refine sl_tupW pins s σ H _ v vl vu lo hi sl Q I rx hs pl pu ⟨a,xs,rfl,h.sq,hw,?_⟩
   have e:cutD ds lo hi=ds:=by
    unfold cutD
    rw [r.length,hw.1,hw.2,List.drop_zero,Nat.sub_zero]
    exact List.take_of_length_le (by rw [r.length];exact Nat.le_refl _)
   exact p μ H (Lat.refl _ _) rp _ (by rw [e];exact .tup h r)
  ·refine sl_tup pins s σ H _ v vl vu lo hi sl Q I rx hs pl pu ⟨a,xs,rfl,h.sq,hw,λz hz=>?_⟩
   obtain ⟨l,rp2,rd2⟩:=new_tup rp (cut_rd r lo hi) hz
   exact p μ _ l rp2 _ rd2
 | lst h r=>exact sq h.sq r rfl p
 | scr h r=>exact sq h.sq r rfl p
 | ref h=>
  rename_i n a0
  have p2:Post X.K cl xe μ H (bind (lstOf (.ref n)) (λds=>ret (D.lst (cutD ds lo hi))) S) (λr _ μ' H'=>∀ v,RD X.K μ' H' r v->Q v H'):=p
  obtain ⟨a,xs,ds,e1,h1,h2,e2⟩:=lstOf_at (.ref h) rp p2.bind
  exact sq (.inl (.inl h1)) h2 e1 (p2.ok_bind e2)
 | _=>exact False.elim p
theorem pd_sl {lo hi:Option Expr} {p2:Pos} {fl fh:Env->M (Option Int)} (h:PE X e (tD X.K cl xe f)) (hl:PO X lo (tPt X.K cl xe fl)) (hh:PO X hi (tPt X.K cl xe fh)) :
  PE X (.Subscript e (.Slice lo hi none p2) pos) (tD X.K cl xe λρ=>bind (f ρ) λd=>bind (fl ρ) λl=>bind (fh ρ) λu=>slD d l u):=PE.imp (pe_slice p_sl h hl hh) λσ H Q ⟨μ,S,ρ,eo,rp,p⟩=>
 ⟨μ,S,ρ,eo,rp,p.bind.imp λd S1 μ1 H1 l1 r1 p1 v rv=>⟨μ1,S1,ρ,eo.later l1,r1,p1.bind.imp λl S2 μ2 H2 l2 r2 p2=>⟨μ2,S2,ρ,(eo.later l1).later l2,r2,p2.bind.imp λu S3 μ3 H3 l3 r3 p3=>⟨μ3,S3,d,(rv.later l2).later l3,r3,p3⟩⟩⟩⟩
end
noncomputable def setD (x k v:D):M D:=match x with
 | .ref n=>λS=>match S[n]? with
  | some (.lst ds)=>match k with
   | .int i=>match ixN ds.length i with
    | some j=>.ok .non (S.set n (.lst (ds.set j v)))
    | none=>.bad
   | _=>.bad
  | some (.dct kvs)=>match keyOf k with
   | some key=>if kvs.length<sizeLine then .ok .non (S.set n (.dct (putD kvs key v))) else .bad
   | none=>.bad
  | _=>.bad
 | _=>bad
theorem kvs_any {K:PySem.W.Frag} {μ:Mp} {H:Hp} {k:Key}:∀ {kvs:List (Key×D)} {ks:List (Key×V)},KvsAt K μ H kvs ks->(kvs.any λkv=>decide (kv.1=k))=ks.any λkv=>decide (kv.1=k)
 | _,_,.nil=>rfl
 | _,_,.cons ⟨h1,h2⟩ t=>by simp only [List.any_cons,h1,kvs_any (k:=k) t]
theorem kvs_map {K:PySem.W.Frag} {μ:Mp} {H:Hp} {k:Key} {d:D} {v:V} (r:RD K μ H d v):∀ {kvs:List (Key×D)} {ks:List (Key×V)},KvsAt K μ H kvs ks->KvsAt K μ H (kvs.map λkv=>if kv.1=k then (kv.1,d) else kv) (ks.map λkv=>if kv.1=k then (kv.1,v) else kv)
 | _,_,.nil=>.nil
 | _,_,.cons (a:=a) (b:=b) ⟨h1,h2⟩ t=>by
  simp only [List.map_cons]
  refine .cons ?_ (kvs_map r t)
  by_cases hk:b.1=k
  ·rw [if_pos hk,if_pos (h1.trans hk)];exact ⟨h1,r⟩
  ·rw [if_neg hk,if_neg (by rw [h1];exact hk)];exact ⟨h1,h2⟩
theorem Paired.app {α β:Type} {P:α->β->Prop}:∀ {xs xs':List α} {ys ys':List β},Paired P xs ys->Paired P xs' ys'->Paired P (xs++xs') (ys++ys')
 | _,_,_,_,.nil,s=>s
 | _,_,_,_,.cons r t,s=>.cons r (Paired.app t s)
theorem kvs_put {K:PySem.W.Frag} {μ:Mp} {H:Hp} {k:Key} {d:D} {v:V} {kvs:List (Key×D)} {ks:List (Key×V)} (h:KvsAt K μ H kvs ks) (r:RD K μ H d v):KvsAt K μ H (putD kvs k d) (putK ks k v):=by
 unfold putD putK
 rw [kvs_any h]
 split
 ·exact kvs_map r h
 ·exact Paired.app h (.cons ⟨rfl,r⟩ .nil)
theorem KvsAt.later {K:PySem.W.Frag} {μ μ':Mp} {H H':Hp} {kvs:List (Key×D)} {ks:List (Key×V)} (h:KvsAt K μ H kvs ks) (l:Lat μ H μ' H'):KvsAt K μ' H' kvs ks:=Paired.mono (λ_ _ ⟨z,w⟩=>⟨z,w.later l⟩) h
section
variable {X:Cx} {cl:Nat->Addr} {xe:Addr->Hp->Prop} {a b e:Expr} {es rest:List Expr} {pos:Pos} {f g k:Env->M D}
theorem p_set (hu:X.A.units+1<cLine):PSet X (λo i v H Q=>∃ μ S x y z,RD X.K μ H x o/\RD X.K μ H y i/\RD X.K μ H z v/\Rep X.K cl μ S H/\Post X.K cl xe μ H (setD x y z S) λ_ _ _ H'=>Q H'):=by
 intro pins s σ H o i v ov iv u Q I ro ri rv ⟨μ,S,x,y,z,rx,ry,rz,rp,p⟩
 cases rx with
 | ref h=>
  rename_i n a
  have m:a∈μ.pl:=List.mem_of_getElem? h
  simp only [setD] at p
  cases q1:S[n]? with
  | none=>rw [q1] at p;exact p.elim
  | some ob=>
   rw [q1] at p
   cases ob with
   | lst ds=>
    obtain ⟨xs,h1,h2⟩:=rp.ats n _ a q1 h
    cases ry with
    | int j=>
     simp only at p
     cases q2:ixN ds.length j with
     | none=>rw [q2] at p;exact p.elim
     | some t=>
      rw [q2] at p
      refine set_list pins s σ H _ _ v ov iv u Q I ro ri rv ⟨a,xs,j,t,rfl,rfl,h1,by rw [<- h2.length];exact q2,?_⟩
      exact p μ _ (Lat.wrote m) (rp.wrote h ⟨_,upd_same,(h2.set rz t).later (Lat.wrote m)⟩)
    | _=>exact False.elim p
   | dct kvs=>
    obtain ⟨ks,h1,h2⟩:=rp.ats n _ a q1 h
    simp only at p
    cases q2:keyOf y with
    | none=>rw [q2] at p;exact p.elim
    | some key=>
     rw [q2] at p
     by_cases hl:kvs.length<sizeLine
     ·simp only [if_pos hl] at p
      have hy:=keyOf_at ry q2
      subst hy
      cases ro
      have hl2:ks.length<sizeLine:=by rw [<- Paired.length h2];exact hl
      refine d_setItem hu I (DPut.k h1 hl2) ri rv λs' I'=>⟨_,I',?_⟩
      exact p μ _ (Lat.wrote m) (rp.wrote h ⟨_,upd_same,(kvs_put h2 rz).later (Lat.wrote m)⟩)
     ·simp only [if_neg hl] at p;exact p.elim
   | exc _ _=>exact p.elim
 | _=>exact False.elim p
theorem asgSub_of {a b:Expr} {p2:Pos} {env:PySem.Env} (h:noSlice b=true):∀ v,assign (.Subscript a b p2) env v=(do
   let ov <- holding [v] (eval a env)
   let iv <- holding [v,ov] (eval b env)
   standAt p2
   holding [v,ov,iv] (setItem ov iv v)
   release [v,ov,iv] []):=by
 intro v
 cases b <;> first | rfl | (exact absurd h (by simp [noSlice]))
theorem pds_item {p2:Pos} (hu:X.A.units+1<cLine) (he:PE X e (tD X.K cl xe f)) (ho:PE X a (tD X.K cl xe g)) (hi:PE X b (tD X.K cl xe k)) (hn:noComp e=true) (hb:noSlice b=true) :
  PS X (.Assign [.Subscript a b p2] e pos) (sD X.K cl xe λρ=>bind (f ρ) λv=>bind (g ρ) λx=>bind (k ρ) λy=>bind (setD x y v) λ_=>ret (.nx ρ)):=
 PS.imp (ps_asg he (pg_sub ho hi (p_set (cl:=cl) (xe:=xe) hu) (asgSub_of hb)) (by unfold swapsWithSole;exact swaps_of hn) rfl rfl) λD σ H ⟨μ,S,ρ,eo,rp,p⟩=>
  ⟨μ,S,ρ,eo,rp,p.bind.imp λv S1 μ1 H1 l1 r1 p1 vv rv=>⟨μ1,S1,ρ,eo.later l1,r1,p1.bind.imp λx S2 μ2 H2 l2 r2 p2 xv rx=>⟨μ2,S2,ρ,(eo.later l1).later l2,r2,p2.bind.imp λy S3 μ3 H3 l3 r3 p3 yv ry=>
   ⟨μ3,S3,x,y,v,rx.later l3,ry,(rv.later l2).later l3,r3,p3.bind.imp λ_ S4 μ4 H4 l4 r4 p4=>p4.ret μ4 H4 (Lat.refl _ _) r4 σ ((((eo.later l1).later l2).later l3).later l4)⟩⟩⟩⟩
noncomputable def fewArgs (es:List Expr):Bool:=decide (es.length<30)
theorem few_of {es:List Expr} {cpos:Pos} (h1:es.all noStar=true) (h2:fewArgs es=true):((backTo cpos (starEach es X.env)).all (λx=>!x.1)&&(backToKw cpos (keywordEach [] X.env)).all (λx=>x.1.isSome)&&decide (es.length+([]:List Keyword).length+(if ([]:List Keyword).isEmpty then 0 else 1)<30))=true:=by
 rw [stars_none h1]
 unfold fewArgs at h2
 simpa [keywordEach,backToKw] using of_decide_eq_true h2
end
noncomputable def pairsM:List ((Env->M D)×(Env->M D))->Env->M (List (D×D))
 | [],_=>ret []
 | (f,g) :: r,ρ=>bind (f ρ) λx=>bind (g ρ) λy=>bind (pairsM r ρ) λps=>ret ((x,y) :: ps)
noncomputable def mergeD (kvs more:List (Key×D)):List (Key×D):=more.foldl (λacc kv=>putD acc kv.1 kv.2) kvs
noncomputable def keyed (p:D×D):Option (Key×D):=(keyOf p.1).map λk=>(k,p.2)
noncomputable def dctD (ps:List (D×D)):M D:=λS=>match mapO keyed ps with
 | some kvs=>if kvs.length<=15 then .ok (.ref S.length) (S++[.dct (mergeD [] kvs)]) else .bad
 | none=>.bad
section
variable {K:PySem.W.Frag} {cl:Nat->Addr} {xe:Addr->Hp->Prop} {μ:Mp} {H:Hp} {S:Sto} {β:Type}
theorem kvs_merge:∀ {more:List (Key×D)} {ms:List (Key×V)} {kvs:List (Key×D)} {ks:List (Key×V)},KvsAt K μ H more ms->KvsAt K μ H kvs ks->KvsAt K μ H (mergeD kvs more) (mergeK ks ms)
 | _,_,_,_,.nil,h=>h
 | _,_,kvs,ks,.cons (a:=a) (b:=b) ⟨h1,h2⟩ t,h=>by
  show KvsAt K μ H (mergeD (putD kvs a.1 a.2) _) (mergeK (putK ks b.1 b.2) _)
  rw [h1]
  exact kvs_merge t (kvs_put h h2)
noncomputable abbrev RPs (K:PySem.W.Frag) (μ:Mp) (H:Hp):List (D×D)->List (V×V)->Prop:=Paired λx y=>RD K μ H x.1 y.1/\RD K μ H x.2 y.2
theorem bind_assoc {α γ:Type} (m:M α) (k:α->M β) (j:β->M γ):bind (bind m k) j=bind m λa=>bind (k a) j:=by
 funext S
 unfold bind
 cases m S <;> rfl
theorem bind_ret {α:Type} (a:α) (k:α->M β):bind (ret a) k=k a:=rfl
theorem pairs_reads {p:Addr} {o:HO} {ρ:Env} {σ:L2.St}:∀ {fks:List ((Env->M D)×(Env->M D))} {k:List (D×D)->M β} {G:β->Sto->Mp->Hp->Prop} {R:List (V×V)->Hp->Prop} {μ2:Mp} {H2:Hp} {S2:Sto},Post K cl xe μ H (bind (pairsM fks ρ) k S2) G->HLat μ H p μ2 H2->p∉μ2.pl->H2 p=some o->EnvOk K μ2 H2 ρ σ->Rep K cl μ2 S2 H2 ->
  (∀ ps H3 μ3 S3 ds,HLat μ H p μ3 H3->p∉μ3.pl->H3 p=some o->Rep K cl μ3 S3 H3->Lat μ2 H2 μ3 H3->RPs K μ3 H3 ds ps->Post K cl xe μ H (k ds S3) G->R ps H3)->tPairs (fks.map λfg=>(tD K cl xe fg.1,tD K cl xe fg.2)) σ H2 R
 | [],k,G,R,μ2,H2,S2,h,l,n,e,eo,rp,q=>q [] H2 μ2 S2 [] l n e rp (Lat.refl _ _) .nil h
 | (f,g) :: r,k,G,R,μ2,H2,S2,h,l,n,e,eo,rp,q=>by
  have h1:Post K cl xe μ H (bind (f ρ) (λx=>bind (g ρ) λy=>bind (pairsM r ρ) λps=>k ((x,y) :: ps)) S2) G:=by
   have:bind (pairsM ((f,g) :: r) ρ) k=bind (f ρ) (λx=>bind (g ρ) λy=>bind (pairsM r ρ) λps=>k ((x,y) :: ps)):=by
    show bind (bind (f ρ) λx=>bind (g ρ) λy=>bind (pairsM r ρ) λps=>ret ((x,y) :: ps)) k=_
    simp only [bind_assoc,bind_ret]
   rw [<- this];exact h
  refine ⟨μ2,S2,ρ,eo,rp,(h1.at l).imp λx S3 μ3 H3 l3 r3 p3 xv rx=>?_⟩
  refine ⟨μ3,S3,ρ,eo.later l3,r3,(p3.at (l.step l3)).imp λy S4 μ4 H4 l4 r4 p4 yv ry=>?_⟩
  have l34:=l3.trans l4
  have e4:=l34.oth _ _ e n
  refine pairs_reads (p:=p) (o:=o) (ρ:=ρ) (σ:=σ) (fks:=r) (k:=λps=>k ((x,y) :: ps)) (G:=G) p4 (l.step l34) (l34.out e n) e4 (eo.later l34) r4 λps H5 μ5 S5 ds hl5 n5 e5 r5 l5 rps p5=>?_
  exact q ((xv,yv) :: ps) H5 μ5 S5 ((x,y) :: ds) hl5 n5 e5 r5 (l34.trans l5) (.cons ⟨(rx.later l4).later l5,ry.later l5⟩ rps) p5
theorem held_place {p:Addr} {u:HO} {ob:O} {rs:List Addr} {kz:List (Key×V)} (er:μ.rs=p :: rs) (nr:p∉rs) (hp:H p=some (.dK kz)) (rp:Rep K cl μ S H) (ho:OAt K cl ⟨μ.pl++[p],rs⟩ (upd H p u) p ob):Rep K cl ⟨μ.pl++[p],rs⟩ (S++[ob]) (upd H p u):=by
 have np:p∉μ.pl:=(rp.res p (by rw [er];exact List.mem_cons_self)).1
 have hp':∀ (n:Nat) (a:Addr),μ.pl[n]?=some a->(μ.pl++[p])[n]?=some a:=λn a e=>by rw [List.getElem?_append_left (List.getElem?_eq_some_iff.mp e).1];exact e
 have ho':∀ a w,H a=some w->a∉μ.pl->a∉μ.rs->upd H p u a=some w/\a∉(⟨μ.pl++[p],rs⟩:Mp).pl/\a∉(⟨μ.pl++[p],rs⟩:Mp).rs:=λa w e n1 n2=>by
  have ne:a≠p:=λz=>n2 (by rw [er,z];exact List.mem_cons_self)
  refine ⟨by rw [upd_ne ne];exact e,λz=>?_,λz=>n2 (by rw [er];exact List.mem_cons_of_mem _ z)⟩
  rcases List.mem_append.mp z with z | z
  ·exact n1 z
  ·exact ne (List.mem_singleton.mp z)
 refine ⟨by simp [rp.len],?_,λn o a e1 e2=>?_,λa m=>?_⟩
 ·show (μ.pl++[p]).Nodup
  rw [List.nodup_append]
  exact ⟨rp.nd,by simp,λa m b m2=>by rw [List.mem_singleton.mp m2];rintro rfl;exact np m⟩
 ·have e2:(μ.pl++[p])[n]?=some a:=e2
  by_cases hn:n<S.length
  ·rw [List.getElem?_append_left hn] at e1
   rw [List.getElem?_append_left (by rw [rp.len];exact hn)] at e2
   have h:=rp.ats n o a e1 e2
   have ka:upd H p u a=H a:=upd_ne λz=>np (z▸List.mem_of_getElem? e2)
   cases o with
   | lst ds=>obtain ⟨xs,e,q⟩:=h;exact ⟨xs,by rw [ka];exact e,q.move hp' ho'⟩
   | dct kvs=>obtain ⟨xs,e,q⟩:=h;exact ⟨xs,by rw [ka];exact e,Paired.mono (λ_ _ ⟨z,w⟩=>⟨z,w.move hp' ho'⟩) q⟩
   | exc c fs=>
    obtain ⟨xc,gs,q,fr,h⟩:=h
    refine ⟨xc,gs,Paired.mono (λ_ _ ⟨z,w⟩=>⟨z,w.move hp' ho'⟩) q,fr,?_⟩
    rcases h with ⟨z,e⟩ | ⟨d,h1,h2,e,e3⟩
    ·exact .inl ⟨z,by rw [ka];exact e⟩
    ·have ne:d≠p:=ne_of e3 hp (by intro z;cases z)
     refine .inr ⟨d,h1,λz=>?_,by rw [ka];exact e,by rw [upd_ne ne];exact e3⟩
     rcases List.mem_append.mp z with z | z
     ·exact h2 z
     ·exact ne (List.mem_singleton.mp z)
  ·have hn2:n=S.length:=by
    have:=(List.getElem?_eq_some_iff.mp e1).1
    simp at this;omega
   subst hn2
   rw [<- rp.len] at e2
   simp at e1 e2
   subst e1;subst e2
   exact ho
 ·have m:a∈rs:=m
  obtain ⟨h1,w,h2⟩:=rp.res a (by rw [er];exact List.mem_cons_of_mem _ m)
  have ne:a≠p:=λz=>nr (z▸m)
  refine ⟨λz=>?_,w,by rw [upd_ne ne];exact h2⟩
  rcases List.mem_append.mp z with z | z
  ·exact h1 z
  ·exact ne (List.mem_singleton.mp z)
theorem mapO_keyed:∀ {ds:List (D×D)} {ps:List (V×V)} {kvs:List (Key×D)},RPs K μ H ds ps->mapO keyed ds=some kvs->∃ ks:List (Key×V),KvsAt K μ H kvs ks/\ps=ks.map (λkv=>(kV kv.1,kv.2))
 | _,_,kvs,.nil,e=>by cases e;exact ⟨[],.nil,rfl⟩
 | _,_,kvs,.cons (a:=a) (b:=b) ⟨h1,h2⟩ t,e=>by
  simp only [mapO] at e
  cases e1:keyed a with
  | none=>rw [e1] at e;cases e
  | some kv=>
   rename_i as bs
   cases e2:mapO keyed as with
   | none=>rw [e1,e2] at e;cases e
   | some kvs'=>
    rw [e1,e2] at e;cases e
    obtain ⟨ks,q1,q2⟩:=mapO_keyed t e2
    unfold keyed at e1
    cases e3:keyOf a.1 with
    | none=>rw [e3] at e1;cases e1
    | some k=>
     rw [e3] at e1;cases e1
     have:=keyOf_at h1 e3
     obtain ⟨b1,b2⟩:=b
     subst this
     exact ⟨(k,b2) :: ks,.cons ⟨rfl,h2⟩ q1,by rw [q2];rfl⟩
end
section
variable {X:Cx} {cl:Nat->Addr} {xe:Addr->Hp->Prop} {pos:Pos}
theorem pd_dict {keys:List (Option Expr)} {values:List Expr} {fks:List ((Env->M D)×(Env->M D))} (h:PPs X pos keys values (fks.map λfg=>(tD X.K cl xe fg.1,tD X.K cl xe fg.2))) (hall:keys.all (·.isSome)=true) (hl:keys.length=values.length) (h0:keys≠[]) (h15:keys.length<=15) :
  PE X (.Dict keys values pos) (tD X.K cl xe λρ=>bind (pairsM fks ρ) dctD):=PE.imp (pe_disp h hall hl h0 h15) λσ H Q ⟨μ,S,ρ,eo,rp,P⟩=>by
 intro p hp
 have nrs:=rp.notrs hp
 refine pairs_reads (p:=p) (o:=.dK []) (ρ:=ρ) (μ:=μ) (H:=H) (μ2:=μ.hold p) (S2:=S) P ?_ (rp.notin hp) upd_same (hold_env rp hp eo) (hold_rep rp hp) λps H3 μ3 S3 ds hl3 n3 e3 r3 l3 rps P3=>?_
 ·refine ⟨⟨λ_ _ e=>e,λa o e _=>by rw [upd_ne (ne_of_none e hp)];exact e,λa m=>.inl m,λa m=>?_⟩,rfl⟩
  rcases List.mem_cons.mp (show a∈p :: μ.rs from m) with rfl | m
  ·exact .inr hp
  ·exact .inl m
 ·simp only [dctD] at P3
  cases e1:mapO keyed ds with
  | none=>rw [e1] at P3;exact P3.elim
  | some kvs=>
   rw [e1] at P3
   by_cases h15:kvs.length<=15
   ·simp only [if_pos h15] at P3
    obtain ⟨ks,q1,q2⟩:=mapO_keyed rps e1
    refine ⟨e3,ks,q2,by rw [<- Paired.length q1];exact h15,?_⟩
    have np:p∉μ3.pl:=n3
    have hp':∀ (n:Nat) (a:Addr),μ3.pl[n]?=some a->(μ3.pl++[p])[n]?=some a:=λn a e=>by rw [List.getElem?_append_left (List.getElem?_eq_some_iff.mp e).1];exact e
    have mv:∀ {u:HO} {d:D} {v:V},RD X.K μ3 H3 d v->RD X.K ⟨μ3.pl++[p],μ.rs⟩ (upd H3 p u) d v:=λr=>r.move (μ:=μ3) (μ':=⟨μ3.pl++[p],μ.rs⟩) hp' λa w e n1 n2=>by
     have ne:a≠p:=λz=>n2 (by rw [hl3.rs,z];exact List.mem_cons_self)
     refine ⟨by rw [upd_ne ne];exact e,λz=>?_,λz=>n2 (by rw [hl3.rs];exact List.mem_cons_of_mem _ z)⟩
     rcases List.mem_append.mp z with z | z
     ·exact n1 z
     ·exact ne (List.mem_singleton.mp z)
    refine P3 ⟨μ3.pl++[p],μ.rs⟩ _ ?_ (held_place hl3.rs nrs e3 r3 ⟨_,upd_same,kvs_merge (Paired.mono (λ_ _ ⟨z,w⟩=>⟨z,mv w⟩) q1) .nil⟩) _ (.ref ?_)
    ·refine ⟨λn a e=>hp' n a (hl3.r.pre n a e),λa o e n=>?_,λa m=>?_,rfl⟩
     ·rw [upd_ne (ne_of_none e hp)];exact hl3.r.oth a o e n
     ·rcases List.mem_append.mp (show a∈μ3.pl++[p] from m) with m | m
      ·exact hl3.r.new a m
      ·exact .inr (by rw [List.mem_singleton.mp m];exact hp)
    ·show (μ3.pl++[p])[S3.length]?=some p
     rw [<- r3.len];simp
   ·simp only [if_neg h15] at P3;exact P3.elim
end
noncomputable def tys:List String:=["NoneType","bool","int","str","tuple","list","dict"]
section
variable {X:Cx}
variable {cl:Nat->Addr} {xe:Addr->Hp->Prop}
noncomputable def intsOf:List D->Option (List Int)
 | []=>some []
 | .int i :: ds=>(intsOf ds).map (i :: ·)
 | _=>none
theorem ints_at {K:PySem.W.Frag} {μ:Mp} {H:Hp}:∀ {ds:List D} {vs:List V} {ns:List Int},intsOf ds=some ns->RDs K μ H ds vs->vs=ns.map V.int
 | [],_,ns,e,r=>by cases r;cases e;rfl
 | d :: ds,_,ns,e,r=>by
  cases r with
  | cons h t=>
   cases d <;> try (simp [intsOf] at e;done)
   case int i=>
    simp only [intsOf] at e
    cases e1:intsOf ds with
    | none=>rw [e1] at e;cases e
    | some ns'=>
     rw [e1] at e;cases e
     cases h
     rw [ints_at e1 t];rfl
noncomputable def negD (d:D):M D:=match d with
 | .int i=>ret (.int (-i))
 | _=>bad
theorem un_neg_d:UnR X (unaryOp .USub) (λx H Q=>∃ μ S d,RD X.K μ H d x/\Rep X.K cl μ S H/\Post X.K cl xe μ H (negD d S) λr _ μ' H'=>∀ v,RD X.K μ' H' r v->Q v H'):=by
 intro pins s σ H x v Q I rx ⟨μ,S,d,rd,rp,p⟩
 cases rd with
 | int i=>exact un_neg pins s σ H _ v Q I rx ⟨i,rfl,p μ H (Lat.refl _ _) rp _ (.int _)⟩
 | _=>exact False.elim p
theorem pd_neg {a:Expr} {f:Env->M D} {pos:Pos} (h:PE X a (tD X.K cl xe f)):PE X (.UnaryOp .USub a pos) (tD X.K cl xe λρ=>bind (f ρ) negD):=
 PE.imp (pe_un un_neg_d h) λσ H Q ⟨μ,S,ρ,eo,rp,p⟩=>⟨μ,S,ρ,eo,rp,p.bind.imp λd S1 μ1 H1 l1 r1 p1 v rv=>⟨μ1,S1,d,rv,r1,p1⟩⟩
end
theorem vals_rev:∀ {xs:List V} {us:List Value},Vals xs us->Vals xs.reverse us.reverse
 | _,_,.nil=>.nil
 | _,_,.cons r t=>by
  rw [List.reverse_cons,List.reverse_cons]
  exact (vals_rev t).append (.cons r .nil)
theorem rds_rev {K:PySem.W.Frag} {μ:Mp} {H:Hp}:∀ {ds:List D} {vs:List V},RDs K μ H ds vs->RDs K μ H ds.reverse vs.reverse
 | _,_,.nil=>.nil
 | _,_,.cons r t=>by
  rw [List.reverse_cons,List.reverse_cons]
  exact (rds_rev t).append (.cons r .nil)
theorem fm_congr {α β:Type} {f g:α->Option β}:∀ {l:List α},(∀ x∈l,f x=g x)->l.filterMap f=l.filterMap g
 | [],_=>rfl
 | x :: l,h=>by
  rw [List.filterMap_cons,List.filterMap_cons,h x (List.mem_cons_self ..),fm_congr λy hy=>h y (List.mem_cons_of_mem _ hy)]
theorem pick_rev (its:List Value):slicePick its.toArray none none (some (-1))=its.reverse.toArray:=by
 have hb:sliceBounds none none (some (-1)) its.toArray.size=((its.length:Int)-1,-1,-1):=by
  simp [sliceBounds]
 unfold slicePick
 rw [hb]
 have hc:sliceRange ((its.length:Int)-1) (-1) (-1)=(List.range its.length).map λ(k:Nat)=>its.length-1-k:=by
  unfold sliceRange
  have e:(if (-1:Int) > 0 then (if (its.length:Int)-1 < -1 then (-1-((its.length:Int)-1) + -1-1) / -1 else 0) else (if (its.length:Int)-1 > -1 then ((its.length:Int)-1 - -1 - -1-1) / (- -1) else 0)).toNat=its.length:=by
   rw [if_neg (by decide)]
   by_cases h:(its.length:Int)-1 > -1
   ·rw [if_pos h];simp
   ·rw [if_neg h];omega
  show (List.range (if (-1:Int) > 0 then (if (its.length:Int)-1 < -1 then (-1-((its.length:Int)-1) + -1-1) / -1 else 0) else (if (its.length:Int)-1 > -1 then ((its.length:Int)-1 - -1 - -1-1) / (- -1) else 0)).toNat).map (λ(k:Nat)=>((its.length:Int)-1 + -1 * (k:Int)).toNat)=_
  rw [e]
  apply List.map_congr_left
  intro k hk
  omega
 simp only [hc]
 congr 1
 rw [List.filterMap_map]
 have h2:(List.range its.length).filterMap ((λx=>its.toArray[x]?) ∘ λk=>its.length-1-k)=(List.range its.length).filterMap (λk=>its.reverse.toArray[0+k]?):=by
  apply fm_congr
  intro k hk
  have hk:k<its.length:=List.mem_range.mp hk
  simp only [Function.comp,List.getElem?_toArray,Nat.zero_add]
  rw [List.getElem?_reverse hk]
 rw [h2]
 have:=pick_run its.reverse.toArray 0 its.length
 rw [List.filterMap_map] at this
 have e2:((λx=>its.reverse.toArray[x]?) ∘ λx=>0+x)=λm=>its.reverse.toArray[0+m]?:=rfl
 rw [e2] at this
 rw [this]
 simp only [List.drop_zero]
 rw [List.take_of_length_le (by simp)]
end L3
end
section
set_option maxHeartbeats 1000000
namespace HT
open PySem PySem.Spec PyProof.Rows
section
variable {prog:Program} {w:World} {A:Around} {E:Value->Shared->Prop} {s:Shared}
theorem sliceApplied_rev {sl:Addr} {t:Tok} {n:Nat} {Q:Int×Int×Nat->Shared->Prop} (hs:s.heap.IsSliceOf sl .none .none (.int (-1) t))
  (h:Q ((n:Int)-1,-1,n) s):wpAny (model prog w) A (Builtin.Slice.sliceApplied (.ref sl) (pure (n:Int))) Q E s:=by
 obtain ⟨os,hos,hcs,hds⟩:=id hs
 unfold Builtin.Slice.sliceApplied Builtin.Slice.sliceFields
 refine wpAny_bind (wpAny_bind (wpAny_field hos hds (x:=.none) rfl (wpAny_bind (wpAny_field hos hds (x:=.none) rfl (wpAny_bind (wpAny_field hos hds (x:=.int (-1) t) rfl (wpAny_pure ?_)))))))
 refine wpAny_bind (slicePart_int ?_)
 show wpAny _ _ (if ((-1:Int)==0)=true then _ else _) _ _ s
 rw [if_neg (by decide)]
 refine wpAny_bind (slicePart_none (wpAny_bind (slicePart_none (wpAny_bind (wpAny_pure ?_)))))
 show wpAny _ _ (pure ((n:Int)-1,(-1:Int),Builtin.Slice.slicePlaces ((n:Int)-1) (-1) (-1))) _ _ s
 have e:Builtin.Slice.slicePlaces ((n:Int)-1) (-1) (-1)=n:=by
  unfold Builtin.Slice.slicePlaces
  rw [if_neg (by decide)]
  by_cases hn:(n:Int)-1 > -1
  ·rw [if_pos hn];simp
  ·rw [if_neg hn];omega
 rw [e]
 exact wpAny_pure h
theorem pick_down (xs:List Value):((List.range xs.length).filterMap λ(m:Nat)=>xs.toArray[((xs.length:Int)-1+(m:Int) * -1).toNat]?).toArray=xs.reverse.toArray:=by
 congr 1
 have h2:(List.range xs.length).filterMap (λ(m:Nat)=>xs.toArray[((xs.length:Int)-1+(m:Int) * -1).toNat]?)=(List.range xs.length).filterMap (λk=>xs.reverse.toArray[0+k]?):=by
  apply L3.fm_congr
  intro k hk
  have hk:k<xs.length:=List.mem_range.mp hk
  have e:((xs.length:Int)-1+(k:Int) * -1).toNat=xs.length-1-k:=by omega
  rw [e]
  simp only [List.getElem?_toArray,Nat.zero_add]
  rw [List.getElem?_reverse hk]
 rw [h2]
 have:=pick_run xs.reverse.toArray 0 xs.length
 rw [List.filterMap_map] at this
 have e2:((λx=>xs.reverse.toArray[x]?) ∘ λx=>0+x)=λm=>xs.reverse.toArray[0+m]?:=rfl
 rw [e2] at this
 rw [this]
 simp only [List.drop_zero]
 rw [List.take_of_length_le (by simp)]
theorem getItem_tuple_rev {t sl:Addr} {its:List Value} {tk:Tok} {Q:Value->Shared->Prop} (ht:IsTup s.heap t its.toArray) (hs:s.heap.IsSliceOf sl .none .none (.int (-1) tk))
  (h:Q (.ref s.heap.objs.size) { s with heap:=s.heap.push { cls:=.type "tuple",data:=.seq its.reverse.toArray } })
  (hsz:its.length<=sizeLine):wpAny (model prog w) A (getItem (.ref t) (.ref sl)) Q E s:=by
 have htake:sizeOk (.seq its.reverse.toArray):=by
  show its.reverse.toArray.size<=sizeLine
  rw [List.size_toArray,List.length_reverse];exact hsz
 obtain ⟨os,hos,hcs,hds⟩:=id hs
 have hTs:s.TypeIs (.ref sl) "slice":=⟨os,hos,hcs⟩
 unfold getItem
 try with_reducible refine wpAny_holding ?_
 first | refine wpAny_bind (wpAny_pure ?_) | skip
 refine wpAny_bind (wpAny_sequenceKey ht.typeIs (by decide) ?_)
 refine wpAny_bind (wpAny_callSpecial?_slot (name:=Str.ofString "__getitem__") ht.typeIs PyProof.Rows.slot_tuple_getitem
  (wpAny_call_entry PyProof.Rows.slot_tuple_getitem ht.typeIs entry_tuple_getitem ?_ (args_tuple_getitem _ _)))
 show wpAny _ _ (Builtin.Tuple.tupleItemsOf (.ref t) >>= _) _ _ s
 refine wpAny_bind (tupleItemsOf_ ht ?_)
 refine wpAny_bind (wpAny_typeOf hTs ?_)
 rw [if_pos (by decide)]
 refine wpAny_bind (sliceApplied_rev (n:=its.length) hs ?_)
 have hno:¬ ((((its.length:Int)-1)==0&&(-1:Int)==1&&its.length==its.toArray.size)=true):=by
  intro q
  rw [Bool.and_eq_true,Bool.and_eq_true] at q
  exact absurd q.1.2 (by decide)
 show wpAny _ _ (if (((its.length:Int)-1)==0&&(-1:Int)==1&&its.length==its.toArray.size)=true then _ else _) _ _ s
 rw [if_neg hno,pick_down]
 first
  | exact wpAny_bind (m:=Builtin.Tuple.tupleExact _) (wpAny_newObj_type (wpAny_pure ⟨_,rfl,wpAny_pure h⟩) htake)
  | exact wpAny_bind (m:=Builtin.Tuple.tupleExact _) (wpAny_newObj_type (wpAny_bind (wpAny_pure (wpAny_pure ⟨_,rfl,wpAny_pure h⟩))) htake)
  | exact wpAny_bind (wpAny_bind (m:=Builtin.Tuple.tupleExact _) (wpAny_newObj_type (wpAny_pure (wpAny_pure ⟨_,rfl,wpAny_pure h⟩)) htake))
  | exact wpAny_bind (wpAny_bind (m:=Builtin.Tuple.tupleExact _) (wpAny_newObj_type (wpAny_pure ⟨_,rfl,wpAny_pure h⟩) htake))
end
end HT
namespace L3
open PySem PySem.Spec PyProof.Rows L2
section
variable {X:Cx} {e st:Expr} {te ts:TE} {pos p2:Pos} {cl:Nat->Addr} {xe:Addr->Hp->Prop}
noncomputable def tRev2 (K:PySem.W.Frag) (te ts:TE):TE:=λσ H Q=>te σ H λx H1=>ts σ H1 λy H2=>y=.int (-1)/\∃ a xs,x=.ref a/\((SqL K H2 a xs/\∀ p,H2 p=none->Q (.ref p) (upd H2 p (.lst xs.reverse)))\/(SqT K H2 a xs/\∀ p,H2 p=none->Q (.ref p) (upd H2 p (.tup xs.reverse))))
theorem pe_rev2 (he:PE X e te) (hs:PE X st ts):PE X (.Subscript e (.Slice none none (some st) p2) pos) (tRev2 X.K te ts):=by
 intro pins s σ H Q I h
 refine Subscript_ (thn (he pins s σ H _ I h) λv s1 ⟨x,H1,I1,r1,q1⟩=>?_)
 refine wpAny_Slice ?_
 rw [evalPart_none]
 refine wpAny_pure (wpAny_pure ?_)
 rw [evalPart_some]
 refine thn (hs pins s1 σ H1 _ I1 q1) λu s3 ⟨y,H3,I3,r3,e3,a,xs,e4,hx⟩=>?_
 subst e3 e4
 obtain ⟨t,rfl⟩:=r3
 cases r1
 have I4:Inv X pins σ H3 { s3 with heap:=s3.heap.push { cls:=.type "slice",data:=.fields #[.none,.none,.int (-1) t] } }:=I3.kept (t':=s3.toks) λb ob q=>Heap.get?_push_of_some _ q
 rcases hx with ⟨hx,q⟩ | ⟨hx,q⟩
 ·obtain ⟨its,r,ht,hz⟩:=I4.list hx
  have hlen:=r.length
  have hg:wpAny (model X.prog X.w) X.A (getItem (.ref a) (.ref s3.heap.objs.size)) (EP X pins σ Q) X.xe { s3 with heap:=s3.heap.push { cls:=.type "slice",data:=.fields #[.none,.none,.int (-1) t] } }:=by
   refine wpAny_getItem_list_slice ht.isList (Heap.IsSliceOf.new ..) .none .none (.int (-1) t) (by simp) ?_ (by rw [List.size_toArray] <;> omega)
   rw [pick_rev]
   refine ⟨.ref _,_,I4.laid (t':=s3.toks) (o:=.lst xs.reverse) (λb ob q=>Heap.get?_push_of_some _ q) (Nat.le_refl _) ?_,rfl,q _ (I4.hok.fresh (Nat.le_refl _))⟩
   exact ⟨by rw [List.length_reverse];exact hz,_,0,vals_rev r,Heap.get?_push_size _ rfl⟩
  show wpAny (model X.prog X.w) X.A (subscriptTail e (.Slice none none (some st) p2) (.ref a) (.ref s3.heap.objs.size)) (EP X pins σ Q) X.xe { s3 with heap:=s3.heap.push { cls:=.type "slice",data:=.fields #[.none,.none,.int (-1) t] } }
  exact tail_any (ops:=[.ref a,.ref s3.heap.objs.size]) ht.isList.typeIs slot_list_getitem.lookup hg (by with_unfolding_all rfl)
 ·obtain ⟨its,r,ht,hz⟩:=I4.tuple hx
  have hlen:=r.length
  have hg:wpAny (model X.prog X.w) X.A (getItem (.ref a) (.ref s3.heap.objs.size)) (EP X pins σ Q) X.xe { s3 with heap:=s3.heap.push { cls:=.type "slice",data:=.fields #[.none,.none,.int (-1) t] } }:=by
   refine HT.getItem_tuple_rev ht (Heap.IsSliceOf.new ..) ?_ (by rw [<- hlen];exact hz)
   refine ⟨.ref _,_,I4.laid (t':=s3.toks) (o:=.tup xs.reverse) (λb ob q=>Heap.get?_push_of_some _ q) (Nat.le_refl _) ?_,rfl,q _ (I4.hok.fresh (Nat.le_refl _))⟩
   exact ⟨by rw [List.length_reverse];exact hz,_,vals_rev r,TupN.new _ _⟩
  show wpAny (model X.prog X.w) X.A (subscriptTail e (.Slice none none (some st) p2) (.ref a) (.ref s3.heap.objs.size)) (EP X pins σ Q) X.xe { s3 with heap:=s3.heap.push { cls:=.type "slice",data:=.fields #[.none,.none,.int (-1) t] } }
  exact tail_any (ops:=[.ref a,.ref s3.heap.objs.size]) ht.typeIs PyProof.Rows.slot_tuple_getitem.lookup hg (by with_unfolding_all rfl)
noncomputable def revD (d s:D):M D:=match s with
 | .int (-1)=>(match d with
  | .tup ds=>ret (.tup ds.reverse)
  | d=>bind (lstOf d) λds=>ret (.lst ds.reverse))
 | _=>bad
theorem pd_rev {f g:Env->M D} (he:PE X e (tD X.K cl xe f)) (hs:PE X st (tD X.K cl xe g)):PE X (.Subscript e (.Slice none none (some st) p2) pos) (tD X.K cl xe λρ=>bind (f ρ) λx=>bind (g ρ) λy=>revD x y):=
 PE.imp (pe_rev2 he hs) λσ H Q ⟨μ,S,ρ,eo,rp,p⟩=>⟨μ,S,ρ,eo,rp,p.bind.imp λx S1 μ1 H1 l1 r1 p1 v rv=>⟨μ1,S1,ρ,eo.later l1,r1,p1.bind.imp λy S2 μ2 H2 l2 r2 p2 u ru=>by
  unfold revD at p2
  split at p2
  ·cases ru
   refine ⟨rfl,?_⟩
   have L:Post X.K cl xe μ2 H2 (bind (lstOf x) (λds=>ret (.lst ds.reverse)) S2) (λd _ μ' H'=>∀ v,RD X.K μ' H' d v->Q v H')->∃ a xs,v=.ref a/\((SqL X.K H2 a xs/\∀ p,H2 p=none->Q (.ref p) (upd H2 p (.lst xs.reverse)))\/(SqT X.K H2 a xs/\∀ p,H2 p=none->Q (.ref p) (upd H2 p (.tup xs.reverse)))):=λp2=>by
    obtain ⟨a,xs,ds,rfl,h1,h2,e2⟩:=lstOf_at (rv.later l2) r2 p2.bind
    refine ⟨a,xs,rfl,.inl ⟨.inl (.inl h1),λz hz=>?_⟩⟩
    obtain ⟨l,rp2,rd2⟩:=new_lst r2 (rds_rev h2) hz
    exact (p2.ok_bind e2) μ2 _ l rp2 _ rd2
   cases rv.later l2 with
   | tup h1 h2=>
    rename_i a xs ds
    refine ⟨a,xs,rfl,.inr ⟨h1.sq,λz hz=>?_⟩⟩
    obtain ⟨l,rp2,rd2⟩:=new_tup r2 (rds_rev h2) hz
    exact p2 μ2 _ l rp2 _ rd2
   | _=>exact L p2
  ·exact p2.elim⟩⟩
end
end L3
end

section
set_option maxHeartbeats 1000000
namespace L3
open PySem PySem.Spec PyProof.Rows L2
section
variable {X:Cx} {e:Expr} {te:TE} {p p2 pos pos2:Pos} {cl:Nat->Addr} {xe:Addr->Hp->Prop}
theorem ints_are:∀ {ns:List Int} {us:List Value},Vals (ns.map V.int) us->IntsAre us ns
 | [],_,r=>by cases r;exact .nil
 | n :: ns,_,r=>by
  cases r with
  | cons h t=>
   obtain ⟨k,rfl⟩:=(show ∃ t,_=Value.int n t from h)
   exact .cons n k (ints_are t)
end
end L3
namespace HT
open PySem PySem.Spec PyProof.Rows
open MeetsSeq MeetsSeq2 MeetsSeq3 SeqRoads2 SeqAt
theorem forIn_find {M:Model} {A:Around} {E:Value->Shared->Prop} {s:Shared} {β:Type} {f:Nat->β->Sem (ForInStep β)} {b0:β} {Q:β->Shared->Prop} {j:Nat} (hd:wpAny M A (f j b0) (λr s'=>∃ b,r=.done b/\Q b s') E s) :
  ∀ (n i:Nat),i<=j->j<i+n->(∀ m,i<=m->m<j->∀ Q':ForInStep β->Shared->Prop,Q' (.yield b0) s->wpAny M A (f m b0) Q' E s)->wpAny M A (forIn (List.range' i n 1) b0 f) Q E s
 | 0,i,h1,h2,_=>by omega
 | n+1,i,h1,h2,hy=>by
  rw [List.range'_succ,List.forIn_cons]
  by_cases e:i=j
  ·subst e
   refine wpAny_bind (wpAny_mono hd (λr s' ⟨b,e,q⟩=>?_) λ_ _ e=>e)
   subst e
   exact wpAny_pure q
  ·refine wpAny_bind (hy i (Nat.le_refl _) (by omega) _ ?_)
   exact forIn_find hd n (i+1) (by omega) (by omega) λm a b=>hy m (by omega) b
theorem tuple_indexAt (l:Addr) (items:Array Value) (n:Nat) (dd:Option Addr) (sl:Array (Option Value)) (x:Value) (e:Value->Bool) (j:Nat) (hj:j<items.size)
  (hit:e items[j]=true) (hno:∀ m (hm:m<items.size),m<j->e items[m]=false) :
  Meets (Builtin.«tuple.index» ⟨[.ref l,x],[]⟩)
   (λA R s=>s.heap.get? l=some { cls:=.type "tuple",dict:=dd,data:=.seq items n,slots:=sl }/\(∀ y,y∈items->EqAt A.in1 s y x (e y))/\R (.ok (.ret (.int j s.toks))) { s with toks:=s.toks+1 }):=by
 intro prog w A R s h
 obtain ⟨hp,g,d,tk,os⟩:=s;obtain ⟨hl,he,h⟩:=h
 have ht:IsTup hp l items:=⟨_,hl,rfl,n,rfl⟩
 have e1:selfAndSome "tuple.index" "index" 1 3 ⟨[.ref l,x],[]⟩=pure (.ref l,[x]):=by rfl
 unfold Builtin.«tuple.index»
 rw [e1]
 refine wpAny_bind (wpAny_pure ?_)
 refine wpAny_bind (tupleItemsOf_ ht ?_)
 refine wpAny_bind (wpAny_pure ?_)
 refine wpAny_bind (wpAny_pure ?_)
 refine wpAny_bind ?_
 rw [Std.Legacy.Range.forIn_eq_forIn_range']
 refine forIn_find (j:=j) ?_ _ _ (Nat.zero_le _) ?_ ?_
 ·have hi:items[j]?=some items[j]:=Array.getElem?_eq_getElem hj
  simp only [hi]
  refine wpAny_bind (he _ (Array.getElem_mem hj) prog w _ _ ?_)
  rw [hit]
  unfold retInt
  wp_walk
  exact ⟨_,rfl,wpAny_pure h⟩
 ·show j<0+_
  simp [Std.Legacy.Range.size]
  omega
 ·intro m _ hm Q' hq
  have hm':m<items.size:=by omega
  have hi:items[m]?=some items[m]:=Array.getElem?_eq_getElem hm'
  simp only [hi]
  refine wpAny_bind (he _ (Array.getElem_mem hm') prog w _ _ ?_)
  rw [hno m hm' hm]
  exact wpAny_pure hq
end HT
namespace L3
open PySem PySem.Spec PyProof.Rows L2
section
variable {X:Cx} {cl:Nat->Addr} {xe:Addr->Hp->Prop} {o e:Expr} {es:List Expr} {f:Env->M D} {fs:Env->M (List D)} {apos cpos:Pos}
theorem mt_tindex (hu:X.A.units+80<cLine):MtR X "tuple.index" (λx vs H Q=>∃ y ps d j,vs=[y]/\DAt X.K H x (.tuple ps)/\DAt X.K H y d/\(d.canLay0=true/\PyData.canLayAll0 ps=true/\min (PyData.depthAll ps) d.depth<=60)/\ps.findIdx? (λz=>PyData.eqv z d)=some j/\Q (.int (j:Nat)) H):=by
 intro pins s σ H x vs v us Q I rx rv h
 obtain ⟨y,ps,d,j,rfl,hx,hy,⟨c1,c2,c3⟩,hj,q⟩:=h
 obtain ⟨u,rfl,ru⟩:=rv.one
 obtain ⟨as,r1⟩:=hx.reads I rx
 obtain ⟨bs,r2⟩:=hy.reads I ru
 cases r1 with
 | tuple h1 h2 h3 h4=>
  rename_i a ob its n
  obtain ⟨cls,dd,data,sl⟩:=ob
  simp only at h2 h3
  subst h2 h3
  have em:=SeqAt.readsAll_map ps _ _ c2 h4
  obtain ⟨hl,hit,hno⟩:=List.findIdx?_eq_some_iff_getElem.mp hj
  have hlen:its.toList.length=ps.length:=by rw [<- em,List.length_map]
  have hl':j<its.size:=by rw [<- Array.length_toList,hlen];exact hl
  have at_:∀ m (hm:m<its.size) (hm2:m<ps.length),SeqAt.readOf s.heap its[m]=ps[m]:=λm hm hm2=>by
   have:ps[m]?=(its.toList.map (SeqAt.readOf s.heap))[m]?:=by rw [em]
   rw [List.getElem?_eq_getElem hm2,List.getElem?_map,Array.getElem?_toList,Array.getElem?_eq_getElem hm] at this
   exact (Option.some.inj this).symm
  refine call_meets F.slot_tuple_index ⟨_,h1,rfl⟩ F.entry_tuple_index (F.args_tuple_index_2 _ _) (HT.tuple_indexAt _ its n dd sl u (λz=>PyData.eqv (SeqAt.readOf s.heap z) d) j hl' (by rw [at_ j hl' hl];exact hit) λm hm hmj=>?_) ⟨h1,λz hz=>?_,?_⟩
  ·have hm2:m<ps.length:=by omega
   rw [at_ m hm hm2]
   simpa using hno m hmj
  ·exact SeqAt.items_eqAt (A:=X.A) h4 r2 c2 c1 (by omega) z hz
  ·exact ⟨.int (j:Nat),H,I.tok _,⟨_,rfl⟩,q⟩
end
end L3
namespace L3
open PySem PySem.Spec PyProof.Rows L2
end L3
end

section
set_option maxHeartbeats 1000000
namespace HT
open PySem PySem.Spec PyProof.Rows
section
variable {prog:Program} {w:World} {A:Around} {E:Value->Shared->Prop} {s:Shared}
theorem gather {a:Addr} {us:List Value} {ob:Obj} {k:Nat} {T:String} {Q:List Value->Shared->Prop} (hT:T = "list"\/T = "tuple") (ha:s.heap.get? a=some ob) (hT2:ob.cls=.type T) (hD:ob.data=.seq us.toArray k) (hz:us.length<=sizeLine)
  (q:Q us { s with heap:=(s.heap.push (seqObj "list" #[] 0)).update s.heap.objs.size (Obj.mapSeq (·++us.toArray)) }):wpAny (model prog w) A (collect (.ref a)) Q E s:=by
 have ha2:(s.heap.push (seqObj "list" #[] 0)).get? a=some ob:=Heap.get?_push_of_some _ ha
 have hn:(s.heap.push (seqObj "list" #[] 0)).get? s.heap.objs.size=some (seqObj "list" #[] 0):=Heap.get?_push_size _ rfl
 unfold collect
 refine wpAny_bind (wpAny_runValue (codeAny_builtin PyProof.Rows.entry_proto_collect' (?_:wpAny _ _ (do again (.builtin "list.__iadd__" ⟨[<- newList [],.ref a],[]⟩)) _ _ s)))
 refine wpAny_bind (wpAny_newList (wpAny_pure ⟨Code.quiet_builtin _ (by decide +kernel),codeAny_builtin PyProof.Rows.entry_list_iadd' (?_:wpAny _ _ (Builtin.List.listExtendWith (.ref s.heap.objs.size) (.ref a) (.ref s.heap.objs.size)) _ _ { s with heap:=s.heap.push (seqObj "list" #[] 0) })⟩))
 unfold Builtin.List.listExtendWith
 refine wpAny_bind (wpAny_typeOf (T:=T) ⟨ob,ha2,hT2⟩ ?_)
 rw [if_pos (by rcases hT with rfl | rfl <;> simp)]
 refine wpAny_bind (PyProof.Rows.listItems_at ha2 hD (wpAny_bind (PyProof.Rows.listItems_at hn rfl ?_)))
 rw [if_neg (by simp)]
 refine wpAny_bind (PyProof.Rows.listUpdate_at hn rfl (wpAny_pure ?_) (Nat.zero_le _) (by rw [Array.size_append];show 0+us.toArray.size<=_;rw [List.size_toArray];omega))
 show wpAny (model prog w) A (load s.heap.objs.size >>= _) Q E _
 refine wpAny_bind (wpAny_load (PyProof.Rows.get?_update_seq hn _) ?_)
 show wpAny _ _ (pure ((#[]:Array Value)++us.toArray).toList) Q E _
 have e:((#[]:Array Value)++us.toArray).toList=us:=by simp
 rw [e]
 exact wpAny_pure q
theorem sorted_seq {a:Addr} {us:List Value} {ob:Obj} {k:Nat} {T:String} {ns:List Int} {Q:Value->Shared->Prop} (hT:T = "list"\/T = "tuple") (ha:s.heap.get? a=some ob) (hT2:ob.cls=.type T) (hD:ob.data=.seq us.toArray k) (hI:IntsAre us ns) (few:us.length<64)
  (q:∀ (out:Array Value) (ms:List Int),IntsAre out.toList ms->ms.Perm ns->ms.Pairwise (·<=·)->Q (.ref (s.heap.objs.size+1)) { s with heap:=sortedAll s.heap us out }):wpAny (model prog w) A (call (.builtin "sorted") [.ref a]) Q E s:=by
 refine Calls.call_function_entry PyProof.Rows.kind_sorted PyProof.Rows.plain_sorted PyProof.Rows.entry_sorted (PyProof.Rows.args_sorted1 _) ?_
 unfold Builtin.«sorted»
 refine wpAny_bind (m:=checkCount "sorted" 1 1 _) (wpAny_pure (wpAny_bind (gather hT ha hT2 hD (by rw [sizeLine_eq];omega) (wpAny_bind (wpAny_newList ?_)))))
 have sz:((s.heap.push (seqObj "list" #[] 0)).update s.heap.objs.size (Obj.mapSeq (·++us.toArray))).objs.size=s.heap.objs.size+1:=by
  rw [Heap.size_update,PyProof.Rows.size_push']
 have at_:(((s.heap.push (seqObj "list" #[] 0)).update s.heap.objs.size (Obj.mapSeq (·++us.toArray))).push (seqObj "list" us.toArray 0)).get? (s.heap.objs.size+1)=some (seqObj "list" us.toArray 0):=sz▸Heap.get?_push_size _ rfl
 show wpAny _ _ _ _ _ { s with heap:=((s.heap.push (seqObj "list" #[] 0)).update s.heap.objs.size (Obj.mapSeq (·++us.toArray))).push (seqObj "list" us.toArray 0) }
 rw [sz]
 refine wpAny_bind (wpAny_holding (wpAny_call_entry PyProof.Rows.slot_list_sort ⟨_,at_,rfl⟩ PyProof.Rows.entry_list_sort (PyProof.Rows.list_sort_tree at_ hI few λout ms b1 b2 b3=>⟨_,rfl,wpAny_pure ⟨_,rfl,q out ms b1 b2 b3⟩⟩) (PyProof.Rows.args_list_sort _)))
end
end HT
namespace L3
open PySem PySem.Spec PyProof.Rows L2
noncomputable def insI (x:Int):List Int->List Int
 | []=>[x]
 | y :: ys=>if x<=y then x :: y :: ys else y :: insI x ys
noncomputable def srt:List Int->List Int
 | []=>[]
 | x :: xs=>insI x (srt xs)
theorem ins_perm (x:Int):∀ l:List Int,(insI x l).Perm (x :: l)
 | []=>.refl _
 | y :: ys=>by
  unfold insI
  split
  ·exact .refl _
  ·exact ((ins_perm x ys).cons y).trans (.swap x y ys)
theorem srt_perm:∀ l:List Int,(srt l).Perm l
 | []=>.refl _
 | x :: xs=>(ins_perm x (srt xs)).trans ((srt_perm xs).cons x)
theorem ins_up (x:Int):∀ l:List Int,l.Pairwise (·<=·)->(insI x l).Pairwise (·<=·)
 | [],_=>by simp [insI]
 | y :: ys,h=>by
  unfold insI
  rw [List.pairwise_cons] at h
  split
  ·rename_i c
   rw [List.pairwise_cons]
   refine ⟨λz hz=>?_,List.pairwise_cons.mpr h⟩
   rcases List.mem_cons.mp hz with e | e
   ·omega
   ·have:=h.1 z e;omega
  ·rename_i c
   rw [List.pairwise_cons]
   refine ⟨λz hz=>?_,ins_up x ys h.2⟩
   rcases List.mem_cons.mp ((ins_perm x ys).mem_iff.mp hz) with e | e
   ·omega
   ·exact h.1 z e
theorem srt_up:∀ l:List Int,(srt l).Pairwise (·<=·)
 | []=>.nil
 | x :: xs=>ins_up x _ (srt_up xs)
theorem up_one:∀ {a b:List Int},a.Perm b->a.Pairwise (·<=·)->b.Pairwise (·<=·)->a=b
 | [],b,p,_,_=>by
  have:=p.length_eq
  cases b with
  | nil=>rfl
  | cons _ _=>simp at this
 | x :: a,[],p,_,_=>by have:=p.length_eq;simp at this
 | x :: a,y :: b,p,ha,hb=>by
  rw [List.pairwise_cons] at ha hb
  have h1:x∈y :: b:=p.mem_iff.mp (List.mem_cons_self ..)
  have h2:y∈x :: a:=p.mem_iff.mpr (List.mem_cons_self ..)
  have e:x=y:=by
   rcases List.mem_cons.mp h1 with e | e
   ·exact e
   ·rcases List.mem_cons.mp h2 with f | f
    ·exact f.symm
    ·have:=ha.1 y f;have:=hb.1 x e;omega
  subst e
  rw [up_one (List.Perm.cons_inv p) ha.2 hb.2]
theorem ints_vals:∀ {us:List Value} {ns:List Int},IntsAre us ns->Vals (ns.map V.int) us
 | _,_,.nil=>.nil
 | _,_,.cons n t h=>.cons ⟨t,rfl⟩ (ints_vals h)
section
variable {X:Cx} {cl:Nat->Addr} {xe:Addr->Hp->Prop}
theorem call_sortedI:CallR X (.builtin "sorted") (λxs H Q=>∃ (a:Addr) (ns:List Int),xs=[.ref a]/\(SqL X.K H a (ns.map V.int)\/SqT X.K H a (ns.map V.int))/\ns.length<64/\∀ p,H p=none->Q (.ref p) (upd H p (.lst ((srt ns).map V.int)))):=by
 intro pins s σ H xs us Q I r h
 obtain ⟨a,ns,rfl,hs,hl,q⟩:=h
 obtain ⟨u,rfl,ru⟩:=vals1 r
 cases ru
 have gen:∀ (ob:Obj) (k:Nat) (T:String) (its:List Value),(T = "list"\/T = "tuple")->s.heap.get? a=some ob->ob.cls=.type T->ob.data=.seq its.toArray k->Vals (ns.map V.int) its->wpAny (model X.prog X.w) X.A (call (.builtin "sorted") [.ref a]) (EP X pins σ Q) X.xe s:=λob k T its hT h1 h2 h3 rv=>by
  have hlen:its.length=ns.length:=by rw [<- rv.length,List.length_map]
  refine HT.sorted_seq hT h1 h2 h3 (ints_are rv) (by omega) λout ms b1 b2 b3=>?_
  have e:ms=srt ns:=up_one (b2.trans (srt_perm ns).symm) b3 (srt_up ns)
  subst e
  obtain ⟨ep,he⟩:=sortedAll_at s.heap its out
  have hf:H (s.heap.objs.size+1)=none:=I.hok.fresh (Nat.le_succ _)
  refine ⟨.ref (s.heap.objs.size+1),_,I.laid (t':=s.toks) (o:=.lst ((srt ns).map V.int)) (λb ob q=>sortedAll_old q) (Nat.le_succ _) ?_,rfl,q _ hf⟩
  refine ⟨by rw [List.length_map,(srt_perm ns).length_eq,sizeLine_eq];omega,out.toList,ep,ints_vals b1,?_⟩
  rw [Array.toArray_toList]
  exact he
 rcases hs with hs | hs
 ·obtain ⟨its,rv,⟨o,n,e,c,d0,d⟩,_⟩:=I.list hs
  exact gen o n "list" its (.inl rfl) e c d rv
 ·obtain ⟨its,rv,⟨o,e,c,n,d⟩,_⟩:=I.tuple hs
  exact gen o n "tuple" its (.inr rfl) e c d rv
noncomputable def sortedD (d:D):M D:=bind (seqOf d) λds=>match intsOf ds with
 | some ns=>if ns.length<64 then ret (.lst ((srt ns).map D.int)) else bad
 | none=>bad
theorem c_sorted:CallR X (.builtin "sorted") (rPs X.K cl xe (one sortedD)):=one_at λpins s σ H μ S d v us Q I r rd rp p=>by
 obtain ⟨a,xs,ds,rfl,h1,h2,e2⟩:=seqOf_at rd rp p.bind
 have p:=p.ok_bind e2
 cases e:intsOf ds with
 | none=>rw [e] at p;exact p.elim
 | some ns=>
  rw [e] at p
  obtain ⟨hz,p⟩:=Post.guard p
  have:=ints_at e h2
  subst this
  refine call_sortedI pins s σ H _ us Q I r ⟨a,ns,rfl,h1,hz,λz hz=>?_⟩
  obtain ⟨l,rp2,rd2⟩:=new_lst rp (RDs.ints (srt ns)) hz
  exact p μ _ l rp2 _ rd2
end
end L3
end

section
set_option maxHeartbeats 1000000
namespace L3
open PySem PySem.Spec PyProof.Rows L2
section
variable {X:Cx} {cl:Nat->Addr} {xe:Addr->Hp->Prop} {o e:Expr} {es:List Expr} {f:Env->M D} {fs:Env->M (List D)} {apos cpos:Pos} {name:Str} {T T2 id id2:String} {r r2:V->List V->Hp->VK->Prop} {α:Type}
theorem pe_bm2 {to:TE} {t:TA} (pa:PlainAttrs T) (slot:Slot T name id) (hty:typeOf (.builtin id)=pure (.type "method_descriptor")) (hm:MtR X id r) (pa2:PlainAttrs T2) (slot2:Slot T2 name id2) (hty2:typeOf (.builtin id2)=pure (.type "method_descriptor")) (hm2:MtR X id2 r2) (ho:PE X o to) (ha:PA X (e :: es) t)
  (hb:noSuper o=true) (hs:(e :: es).all noStar=true) (hf:fewArgs (e :: es)=true) (hline:(apos.endLine==cpos.line)=true) :
  PE X (.Call (.Attribute o name apos) (e :: es) [] cpos) (λσ H Q=>to σ H λx H1=>(tyV X.K T x H1/\t σ H1 λxs H2=>r x xs H2 Q)\/(tyV X.K T2 x H1/\t σ H1 λxs H2=>r2 x xs H2 Q)):=by
 intro pins s σ H Q I h
 have hs2:=hs
 rw [List.all_cons,Bool.and_eq_true] at hs2
 refine wpAny_Call_method_late (base_of hb) (few_of hs hf) hline rfl (thn (ho pins s σ H _ I h) λv s1 ⟨x,H1,I1,r1,q1⟩=>?_)
 rcases q1 with ⟨ty,q1⟩ | ⟨ty,q1⟩
 ·obtain ⟨h1,h2⟩:=tyV_is I1 r1 ty
  refine ⟨T,id,pa,slot,hty,h1,h2,?_⟩
  have hA:=ha cpos pins s1 σ H1 _ I1 q1
  rw [star_of hs2.1] at hA ⊢
  refine Calls.callWith_builtin (by show (false||(backTo cpos (starEach es X.env)).any (·.1))=false;rw [stars_of hs2.2] <;> rfl) (Calls.evalArgs_plain ?_)
  exact thn hA λus s2 ⟨vs,H2,I2,r2,q2⟩=>hm pins s2 σ H2 x vs v us Q I2 r1 r2 q2
 ·obtain ⟨h1,h2⟩:=tyV_is I1 r1 ty
  refine ⟨T2,id2,pa2,slot2,hty2,h1,h2,?_⟩
  have hA:=ha cpos pins s1 σ H1 _ I1 q1
  rw [star_of hs2.1] at hA ⊢
  refine Calls.callWith_builtin (by show (false||(backTo cpos (starEach es X.env)).any (·.1))=false;rw [stars_of hs2.2] <;> rfl) (Calls.evalArgs_plain ?_)
  exact thn hA λus s2 ⟨vs,H2,I2,r2,q2⟩=>hm2 pins s2 σ H2 x vs v us Q I2 r1 r2 q2
noncomputable def Looks (K:PySem.W.Frag) (cl:Nat->Addr) (xe:Addr->Hp->Prop) (T:String) (g:D->M α):Prop:=∀ (μ:Mp) (S:Sto) (H:Hp) (x:D) (v:V) (G:α->Sto->Mp->Hp->Prop),RD K μ H x v->Rep K cl μ S H->Post K cl xe μ H (g x S) G->tyV K T v H/\∃ a,g x S=.ok a S
noncomputable def Does (K:PySem.W.Frag) (cl:Nat->Addr) (xe:Addr->Hp->Prop) (r:V->List V->Hp->VK->Prop) (op:D->List D->M D):Prop:=∀ (μ:Mp) (S:Sto) (H:Hp) (x:D) (v:V) (ds:List D) (vs:List V) (Q:VK),RD K μ H x v->RDs K μ H ds vs->Rep K cl μ S H->Post K cl xe μ H (op x ds S) (λd _ μ' H'=>∀ w,RD K μ' H' d w->Q w H')->r v vs H Q
theorem pd_meth {g:D->M α} {op:D->List D->M D} (pa:PlainAttrs T) (slot:Slot T name id) (hty:typeOf (.builtin id)=pure (.type "method_descriptor")) (hm:MtR X id r) (hg:Looks X.K cl xe T g) (hd:Does X.K cl xe r op) (ho:PE X o (tD X.K cl xe f)) (ha:PA X (e :: es) (tDs X.K cl xe fs))
  (hb:noSuper o=true) (hs:(e :: es).all noStar=true) (hf:fewArgs (e :: es)=true) (hl:(apos.endLine==cpos.line)=true) :
  PE X (.Call (.Attribute o name apos) (e :: es) [] cpos) (tD X.K cl xe λρ=>bind (f ρ) λx=>bind (g x) λ_=>bind (fs ρ) λds=>op x ds):=by
 have hs2:=hs
 rw [List.all_cons,Bool.and_eq_true] at hs2
 refine PE.imp (pe_bm pa slot hty hm ho ha (base_of hb) (few_of hs hf) hl (star_of hs2.1) (stars_of hs2.2)) λσ H Q ⟨μ,S,ρ,eo,rp,p⟩=>?_
 refine ⟨μ,S,ρ,eo,rp,p.bind.imp λx S1 μ1 H1 l1 r1 p1 xv rx=>?_⟩
 obtain ⟨ty,a,ea⟩:=hg μ1 S1 H1 x xv _ rx r1 p1.bind
 have p1:=p1.ok_bind ea
 exact ⟨ty,μ1,S1,ρ,eo.later l1,r1,p1.bind.imp λds S2 μ2 H2 l2 r2 p2 vs rvs=>hd μ2 S2 H2 x xv ds vs Q (rx.later l2) rvs r2 p2⟩
theorem mt_lindex (hu:X.A.units+80<cLine):MtR X "list.index" (λx vs H Q=>∃ y ps d j,vs=[y]/\DAt X.K H x (.list ps)/\DAt X.K H y d/\(d.canLay0=true/\PyData.canLayAll0 ps=true/\min (PyData.depthAll ps) d.depth<=60)/\(j:Nat)<100000/\ps.findIdx? (λz=>PyData.eqv z d)=some j/\Q (.int (j:Nat)) H):=by
 intro pins s σ H x vs v us Q I rx rv h
 obtain ⟨y,ps,d,j,rfl,hx,hy,⟨c1,c2,c3⟩,hjs,hj,q⟩:=h
 obtain ⟨u,rfl,ru⟩:=rv.one
 obtain ⟨as,r1⟩:=hx.reads I rx
 obtain ⟨bs,r2⟩:=hy.reads I ru
 cases r1 with
 | list h1 h2 h3 h4=>
  rename_i a ob its n as'
  obtain ⟨cls,dd,data,sl⟩:=ob
  (try simp only at h2 h3)
  subst h2 h3
  have em:=SeqAt.readsAll_map ps _ _ c2 h4
  obtain ⟨hl,hit,hno⟩:=List.findIdx?_eq_some_iff_getElem.mp hj
  have hlen:its.toList.length=ps.length:=by rw [<- em,List.length_map]
  have hl':j<its.size:=by rw [<- Array.length_toList,hlen];exact hl
  have at_:∀ m (hm:m<its.size) (hm2:m<ps.length),SeqAt.readOf s.heap its[m]=ps[m]:=λm hm hm2=>by
   have:ps[m]?=(its.toList.map (SeqAt.readOf s.heap))[m]?:=by rw [em]
   rw [List.getElem?_eq_getElem hm2,List.getElem?_map,Array.getElem?_toList,Array.getElem?_eq_getElem hm] at this
   exact (Option.some.inj this).symm
  refine call_meets F.slot_list_index ⟨_,h1,rfl⟩ F.entry_list_index (F.args_list_index_2 _ _) (SeqAt.list_indexAt _ its n dd sl u (λz=>PyData.eqv (SeqAt.readOf s.heap z) d) j hl' (by omega) (by rw [at_ j hl' hl];exact hit) λm hm hmj=>?_) ⟨h1,λz hz=>?_,?_⟩
  ·have hm2:m<ps.length:=by omega
   rw [at_ m hm hm2]
   simpa using hno m hmj
  ·exact SeqAt.items_eqAt (A:=X.A) h4 r2 c2 c1 (by omega) z hz
  ·exact ⟨.int (j:Nat),H,I.tok _,⟨_,rfl⟩,q⟩
noncomputable def ixT (x d:D):M D:=λS=>match toPy 64 S d,toPy 64 S x with
 | some q,some (.tuple ps)=>(if q.canLay0=true/\PyData.canLayAll0 ps=true/\min (PyData.depthAll ps) q.depth<=60 then (match ps.findIdx? (λz=>PyData.eqv z q) with
  | some j=>ret (.int (j:Nat))
  | none=>bad) else bad) S
 | _,_=>.bad
noncomputable def ixLs (x d:D):M D:=λS=>match toPy 64 S d,toPy 64 S x with
 | some q,some (.list ps)=>(if q.canLay0=true/\PyData.canLayAll0 ps=true/\min (PyData.depthAll ps) q.depth<=60 then (match ps.findIdx? (λz=>PyData.eqv z q) with
  | some j=>if j<100000 then ret (.int (j:Nat)) else bad
  | none=>bad) else bad) S
 | _,_=>.bad
noncomputable def ixOfD (x:D) (ds:List D):M D:=match ds with
 | [d]=>(match x with
  | .tup xs=>ixT (.tup xs) d
  | x=>ixLs x d)
 | _=>bad
noncomputable def sqK (x:D):M Bool:=match x with
 | .tup _=>ret true
 | x=>bind (lstOf x) λ_=>ret false
theorem pd_index2 (hu:X.A.units+80<cLine) (ho:PE X o (tD X.K cl xe f)) (ha:PA X (e :: es) (tDs X.K cl xe fs)) (hb:noSuper o=true) (hs:(e :: es).all noStar=true) (hf:fewArgs (e :: es)=true) (hl:(apos.endLine==cpos.line)=true) :
  PE X (.Call (.Attribute o "index" apos) (e :: es) [] cpos) (tD X.K cl xe λρ=>bind (f ρ) λx=>bind (sqK x) λ_=>bind (fs ρ) λds=>ixOfD x ds):=by
 refine PE.imp (pe_bm2 PySem.F.plainAttrs_tuple PySem.F.slot_tuple_index PySem.F.type_tuple_index (mt_tindex hu) PySem.F.plainAttrs_list PySem.F.slot_list_index PySem.F.type_list_index (mt_lindex hu) ho ha hb hs hf hl) λσ H Q ⟨μ,S,ρ,eo,rp,p⟩=>?_
 refine ⟨μ,S,ρ,eo,rp,p.bind.imp λx S1 μ1 H1 l1 r1 p1 xv rx=>?_⟩
 have finT:∀ (S2:Sto) (μ2:Mp) (H2:Hp) (d:D) (v:V),RD X.K μ2 H2 x xv->RD X.K μ2 H2 d v->Rep X.K cl μ2 S2 H2->Post X.K cl xe μ2 H2 (ixT x d S2) (λd _ μ' H'=>∀ w,RD X.K μ' H' d w->Q w H') ->
   ∃ y ps d j,[v]=[y]/\DAt X.K H2 xv (.tuple ps)/\DAt X.K H2 y d/\(d.canLay0=true/\PyData.canLayAll0 ps=true/\min (PyData.depthAll ps) d.depth<=60)/\ps.findIdx? (λz=>PyData.eqv z d)=some j/\Q (.int (j:Nat)) H2:=by
  intro S2 μ2 H2 d v rx2 rv r2 p2
  simp only [ixT] at p2
  cases e2:toPy 64 S2 d with
  | none=>rw [e2] at p2;exact p2.elim
  | some b=>
   cases e1:toPy 64 S2 x with
   | none=>rw [e2,e1] at p2;exact p2.elim
   | some a=>
    rw [e2,e1] at p2
    have ha:=toPy_at r2 64 e1 rx2
    have hb:=toPy_at r2 64 e2 rv
    cases a with
    | tuple ps=>
     dsimp only at p2
     by_cases c:b.canLay0=true/\PyData.canLayAll0 ps=true/\min (PyData.depthAll ps) b.depth<=60
     ·rw [if_pos c] at p2
      cases e3:ps.findIdx? (λz=>PyData.eqv z b) with
      | none=>rw [e3] at p2;exact p2.elim
      | some j=>
       rw [e3] at p2
       exact ⟨v,ps,b,j,rfl,ha,hb,c,e3,p2 μ2 H2 (Lat.refl _ _) r2 _ (.int _)⟩
     ·rw [if_neg c] at p2;exact p2.elim
    | _=>exact p2.elim
 have finL:∀ (S2:Sto) (μ2:Mp) (H2:Hp) (d:D) (v:V),RD X.K μ2 H2 x xv->RD X.K μ2 H2 d v->Rep X.K cl μ2 S2 H2->Post X.K cl xe μ2 H2 (ixLs x d S2) (λd _ μ' H'=>∀ w,RD X.K μ' H' d w->Q w H') ->
   ∃ y ps d j,[v]=[y]/\DAt X.K H2 xv (.list ps)/\DAt X.K H2 y d/\(d.canLay0=true/\PyData.canLayAll0 ps=true/\min (PyData.depthAll ps) d.depth<=60)/\(j:Nat)<100000/\ps.findIdx? (λz=>PyData.eqv z d)=some j/\Q (.int (j:Nat)) H2:=by
  intro S2 μ2 H2 d v rx2 rv r2 p2
  simp only [ixLs] at p2
  cases e2:toPy 64 S2 d with
  | none=>rw [e2] at p2;exact p2.elim
  | some b=>
   cases e1:toPy 64 S2 x with
   | none=>rw [e2,e1] at p2;exact p2.elim
   | some a=>
    rw [e2,e1] at p2
    have ha:=toPy_at r2 64 e1 rx2
    have hb:=toPy_at r2 64 e2 rv
    cases a with
    | list ps=>
     dsimp only at p2
     by_cases c:b.canLay0=true/\PyData.canLayAll0 ps=true/\min (PyData.depthAll ps) b.depth<=60
     ·rw [if_pos c] at p2
      cases e3:ps.findIdx? (λz=>PyData.eqv z b) with
      | none=>rw [e3] at p2;exact p2.elim
      | some j=>
       rw [e3] at p2
       obtain ⟨hj,p2⟩:=Post.guard p2
       exact ⟨v,ps,b,j,rfl,ha,hb,c,hj,e3,p2 μ2 H2 (Lat.refl _ _) r2 _ (.int _)⟩
     ·rw [if_neg c] at p2;exact p2.elim
    | _=>exact p2.elim
 have L:Post X.K cl xe μ1 H1 (bind (bind (lstOf x) λ_=>ret false) (λ_=>bind (fs ρ) λds=>ixOfD x ds) S1) (λd _ μ' H'=>∀ v,RD X.K μ' H' d v->Q v H')->(∀ d,ixOfD x [d]=ixLs x d)->(tyV X.K "list" xv H1/\tDs X.K cl xe fs σ H1 λxs H2=>∃ y ps d j,xs=[y]/\DAt X.K H2 xv (.list ps)/\DAt X.K H2 y d/\(d.canLay0=true/\PyData.canLayAll0 ps=true/\min (PyData.depthAll ps) d.depth<=60)/\(j:Nat)<100000/\ps.findIdx? (λz=>PyData.eqv z d)=some j/\Q (.int (j:Nat)) H2):=λp1 hx=>by
  obtain ⟨a0,xs0,ds0,e0,h0,r0,q0⟩:=lstOf_at rx r1 p1.bind.bind
  have p1:=p1.ok_bind (show (bind (lstOf x) λ_=>ret false) S1=.ok false S1 by rw [bind];rw [q0];rfl)
  subst e0
  refine ⟨.inl ⟨rfl,_,.inl (.inl h0)⟩,μ1,S1,ρ,eo.later l1,r1,p1.bind.imp λds S2 μ2 H2 l2 r2 p2 vs rvs=>?_⟩
  match ds,rvs with
  | [],_=>exact False.elim p2
  | _ :: _ :: _,_=>exact False.elim p2
  | [d],rvs=>
   obtain ⟨v,rfl,rv⟩:=rds1 rvs
   rw [hx] at p2
   exact finL S2 μ2 H2 d v (rx.later l2) rv r2 p2
 cases rx with
 | tup h0 r0=>
  rename_i a0 xs0 ds0
  have p1:=p1.ok_bind (show sqK _ S1=.ok true S1 from rfl)
  refine .inl ⟨?_,μ1,S1,ρ,eo.later l1,r1,p1.bind.imp λds S2 μ2 H2 l2 r2 p2 vs rvs=>?_⟩
  ·rcases h0 with ⟨q,_,_⟩ | ⟨o,its,n,c1,c2,c3,c4,c5,c6⟩
   ·exact .inr (.inr (.inr (.inr ⟨rfl,_,q⟩)))
   ·exact .inr (.inl ⟨rfl,o,c1,c2,c6⟩)
  ·match ds,rvs with
   | [],_=>exact False.elim p2
   | _ :: _ :: _,_=>exact False.elim p2
   | [d],rvs=>
    obtain ⟨v,rfl,rv⟩:=rds1 rvs
    exact finT S2 μ2 H2 d v ((RD.tup h0 r0).later l2) rv r2 p2
 | _=>exact .inr (L p1 λd=>rfl)
theorem RDs.erase {K:PySem.W.Frag} {μ:Mp} {H:Hp}:∀ {ds:List D} {vs:List V} (n:Nat),RDs K μ H ds vs->RDs K μ H (ds.eraseIdx n) (vs.eraseIdx n)
 | _,_,_,.nil=>.nil
 | _,_,0,.cons h r=>r
 | _,_,n+1,.cons h r=>.cons h (RDs.erase n r)
noncomputable def popD (x:D) (ds:List D):M D:=match x,ds with
 | .ref n,[.int i]=>λS=>match S[n]? with
  | some (.lst es)=>if -(2 ^ 63)<=i/\i<2 ^ 63 then (match ixN es.length i with
   | some j=>(match es[j]? with
    | some y=>.ok y (S.set n (.lst (es.eraseIdx j)))
    | none=>.bad)
   | none=>.bad) else .bad
  | _=>.bad
 | _,_=>bad
theorem looks_list:Looks X.K cl xe "list" lstOf:=λμ S H x v G rx rp p=>by
 obtain ⟨a,xs,ds,rfl,h1,h2,e⟩:=lstOf_at rx rp p
 exact ⟨.inl ⟨rfl,_,.inl (.inl h1)⟩,ds,e⟩
theorem does_pop:Does X.K cl xe rPopAt popD:=λμ S H x v ds vs Q rx rvs rp p=>by
 unfold popD at p
 split at p
 ·rename_i n i
  cases rvs with
  | cons h t=>
   cases t;cases h
   cases rx with
   | ref e=>
    rename_i a
    cases q1:S[n]? with
    | none=>rw [q1] at p;exact p.elim
    | some o=>
     rw [q1] at p
     cases o with
     | lst es=>
      obtain ⟨xs,h1,h2⟩:=rp.ats n _ a q1 e
      dsimp only at p
      by_cases hb:-(2 ^ 63)<=i/\i<2 ^ 63
      ·rw [if_pos hb] at p
       cases q2:ixN es.length i with
       | none=>rw [q2] at p;exact p.elim
       | some j=>
        rw [q2] at p
        dsimp only at p
        cases q3:es[j]? with
        | none=>rw [q3] at p;exact p.elim
        | some y=>
         rw [q3] at p
         obtain ⟨y',e4,r4⟩:=h2.get q3
         have ml:a∈μ.pl:=List.mem_of_getElem? e
         refine ⟨a,xs,i,j,y',rfl,rfl,h1,hb.1,hb.2,by rw [<- h2.length];exact (ixN_seq q2).1,e4,?_⟩
         have la:Lat μ H μ (upd H a (.lst (xs.eraseIdx j))):=Lat.wrote ml
         exact p μ _ la (rp.wrote e ⟨_,upd_same,(h2.erase j).later la⟩) _ (r4.later la)
      ·rw [if_neg hb] at p;exact p.elim
     | dct _=>exact p.elim
     | exc _ _=>exact p.elim
 ·exact p.elim
theorem mt_dget2 (hu:X.A.units+1<cLine):MtR X "dict.get" (λx vs H Q=>∃ a y z ov,x=.ref a/\(vs=[y,z]\/(vs=[y]/\z=.non))/\DGet H a y ov/\Q (ov.getD z) H):=by
 intro pins s σ H x vs v us Q I rx rv h
 obtain ⟨a,y,z,ov,rfl,hv,g,q⟩:=h
 cases rx
 rcases hv with rfl | ⟨rfl,rfl⟩
 ·obtain ⟨u1,u2,rfl,r1,r2⟩:=vals2 rv
  exact d_get2 hu I g r1 r2 λw' s' I' rw'=>⟨_,H,I',rw',q⟩
 ·cases rv with
  | cons r1 t=>
   cases t
   exact d_get1 hu I g r1 λw' s' I' rw'=>⟨_,H,I',rw',q⟩
noncomputable def getDD (x:D) (ds:List D):M D:=match x,ds with
 | .ref n,[k,z]=>λS=>match S[n]? with
  | some (.dct kvs)=>(match keyOf k with
   | some key=>.ok ((valD kvs key).getD z) S
   | none=>.bad)
  | _=>.bad
 | .ref n,[k]=>λS=>match S[n]? with
  | some (.dct kvs)=>(match keyOf k with
   | some key=>.ok ((valD kvs key).getD .non) S
   | none=>.bad)
  | _=>.bad
 | _,_=>bad
noncomputable def dctOf (x:D):M Unit:=match x with
 | .ref n=>λS=>match S[n]? with
  | some (.dct _)=>.ok () S
  | _=>.bad
 | _=>bad
theorem kvs_none {K:PySem.W.Frag} {μ:Mp} {H:Hp} {k:Key}:∀ {kvs:List (Key×D)} {ks:List (Key×V)},KvsAt K μ H kvs ks->valD kvs k=none->valV ks k=none
 | _,_,.nil,_=>rfl
 | p :: r,q :: r',.cons ⟨h1,h2⟩ t,e=>by
  unfold valD at e
  unfold valV
  rw [List.find?_cons] at e ⊢
  rw [<- h1]
  cases hk:decide (p.1=k) with
  | true=>rw [hk] at e;cases e
  | false=>
   rw [hk] at e
   exact kvs_none t e
theorem looks_dict:Looks X.K cl xe "dict" dctOf:=λμ S H x v G rx rp p=>by
 unfold dctOf at p
 cases x with
 | ref n=>
  cases rx with
  | ref e=>
   rename_i a
   dsimp only at p
   cases q1:S[n]? with
   | none=>rw [q1] at p;exact p.elim
   | some o=>
    rw [q1] at p
    cases o with
    | dct kvs=>
     obtain ⟨ks,h1,_⟩:=rp.ats n _ a q1 e
     exact ⟨.inr (.inr (.inl ⟨rfl,.inl ⟨_,h1⟩⟩)),(),by simp only [dctOf,q1]⟩
    | lst _=>exact p.elim
    | exc _ _=>exact p.elim
 | _=>exact p.elim
theorem does_get:Does X.K cl xe (λx vs H Q=>∃ a y z ov,x=.ref a/\(vs=[y,z]\/(vs=[y]/\z=.non))/\DGet H a y ov/\Q (ov.getD z) H) getDD:=λμ S H x v ds vs Q rx rvs rp p=>by
 unfold getDD at p
 split at p
 ·rename_i n k z
  cases rvs with
  | cons hk t=>
   cases t with
   | cons hz t2=>
    cases t2
    rename_i kv zv
    cases rx with
    | ref e=>
     rename_i a
     cases q1:S[n]? with
     | none=>rw [q1] at p;exact p.elim
     | some o=>
      rw [q1] at p
      cases o with
      | dct kvs=>
       obtain ⟨ks,h1,h2⟩:=rp.ats n _ a q1 e
       dsimp only at p
       cases q2:keyOf k with
       | none=>rw [q2] at p;exact p.elim
       | some key=>
        rw [q2] at p
        dsimp only at p
        have hy:=keyOf_at hk q2
        subst hy
        refine ⟨a,_,zv,valV ks key,rfl,.inl rfl,DGet.k h1,?_⟩
        cases q3:valD kvs key with
        | some d=>
         obtain ⟨w,e3,r3⟩:=kvs_val h2 q3
         rw [q3] at p
         rw [e3]
         exact p μ H (Lat.refl _ _) rp _ r3
        | none=>
         rw [q3] at p
         rw [kvs_none h2 q3]
         exact p μ H (Lat.refl _ _) rp _ hz
      | lst _=>exact p.elim
      | exc _ _=>exact p.elim
 ·rename_i n k
  cases rvs with
  | cons hk t=>
   cases t
   rename_i kv
   cases rx with
   | ref e=>
    rename_i a
    cases q1:S[n]? with
    | none=>rw [q1] at p;exact p.elim
    | some o=>
     rw [q1] at p
     cases o with
     | dct kvs=>
      obtain ⟨ks,h1,h2⟩:=rp.ats n _ a q1 e
      dsimp only at p
      cases q2:keyOf k with
      | none=>rw [q2] at p;exact p.elim
      | some key=>
       rw [q2] at p
       dsimp only at p
       have hy:=keyOf_at hk q2
       subst hy
       refine ⟨a,_,.non,valV ks key,rfl,.inr ⟨rfl,rfl⟩,DGet.k h1,?_⟩
       cases q3:valD kvs key with
       | some d=>
        obtain ⟨w,e3,r3⟩:=kvs_val h2 q3
        rw [q3] at p
        rw [e3]
        exact p μ H (Lat.refl _ _) rp _ r3
       | none=>
        rw [q3] at p
        rw [kvs_none h2 q3]
        exact p μ H (Lat.refl _ _) rp _ .non
     | lst _=>exact p.elim
     | exc _ _=>exact p.elim
 ·exact p.elim
end
end L3
end
section
set_option maxHeartbeats 4000000
namespace HT
open PySem PySem.Spec PyProof.Rows
end HT
namespace L3
open PySem PySem.Spec PyProof.Rows L2
end L3
end

section
set_option maxHeartbeats 1000000
namespace L2
open PySem PySem.Spec PyProof.Rows
end L2
namespace L3
open PySem PySem.Spec PyProof.Rows L2
end L3
end

section
set_option maxHeartbeats 1000000
namespace L3
open PySem PySem.Spec PyProof.Rows L2
noncomputable def CXr (P:Program) (w:World) (K:PySem.W.Frag):List PySem.Env->Hp->Shared->XK->Value->Shared->Prop:=λouter H s E e s'=>
 ∃ a C d tb H',e=.ref a/\s'.os=s.os/\AllBare s'.gens/\Un (frs outer) [] H H' s.heap s'.heap/\HOk P w H' s'.heap/\Fx K H' a C d tb/\E e none H'
noncomputable abbrev CXd (P:Program) (w:World) (K:PySem.W.Frag):CXT:=⟨CXr P w K,false⟩
section
variable {K:PySem.W.Frag} {cl:Nat->Addr} {xe xe':Addr->Hp->Prop} {α β:Type} {μ:Mp} {H H':Hp} {S:Sto} {a C:Addr} {d tb:Option Addr} {P:Program} {w:World} {h:Heap}
theorem Post.ximp {r:R α} {G:α->Sto->Mp->Hp->Prop} (p:Post K cl xe μ H r G) (k:∀ n S μ' H' a,r=.exn n S->Lat μ H μ' H'->Rep K cl μ' S H'->μ'.pl[n]?=some a->xe a H'->xe' a H'):Post K cl xe' μ H r G:=by
 cases r with
 | ok a S=>exact p
 | exn n S=>exact λμ' H' a l r e=>k n S μ' H' a rfl l r e (p μ' H' a l r e)
 | bad=>exact p
noncomputable def nx (m:M α):M α:=λS=>match m S with
 | .exn _ _=>.bad
 | r=>r
theorem Post.nx {m:M α} {G:α->Sto->Mp->Hp->Prop} (p:Post K cl xe μ H (nx m S) G):Post K cl xe' μ H (m S) G:=by
 unfold L3.nx at p
 cases e:m S with
 | ok a S1=>rw [e] at p;exact p
 | exn n S1=>rw [e] at p;exact p.elim
 | bad=>rw [e] at p;exact p
theorem Rep.mv {n:Nat} (r:Rep K cl μ S H) (hk:HOk P w H h) (e:μ.pl[n]?=some a) (fx:H a=some (ExcB tb a C d)) (m:Mv H a C d H'):Lat μ H μ H'/\Rep K cl μ S H':=by
 have am:a∈μ.pl:=List.mem_of_getElem? e
 have l:Lat μ H μ H':=⟨λ_ _ h=>h,λb o q nb=>m.1 b o (λz=>nb (z▸am)) q,λ_ h=>.inl h,rfl⟩
 refine ⟨l,r.len,r.nd,λi o b e1 e2=>?_,λb mb=>let ⟨h1,u,h2⟩:=r.res b mb;⟨h1,u,l.oth _ _ h2 h1⟩⟩
 have ho:=r.ats i o b e1 e2
 by_cases hb:b=a
 ·subst hb
  cases o with
  | lst ds=>obtain ⟨xs,q,_⟩:=ho;rw [fx] at q;simp [ExcB] at q
  | dct kvs=>obtain ⟨xs,q,_⟩:=ho;rw [fx] at q;simp [ExcB] at q
  | exc c fs=>
   obtain ⟨xc,gs,q,fr,o⟩:=ho
   obtain ⟨tb',m2⟩:=m.2
   obtain ⟨vs,q1,_⟩:=(hk b _ fx).1
   rcases o with ⟨z,e2⟩ | ⟨d',h1,h2,e2,e3⟩
   ·obtain ⟨vs2,q2,_⟩:=(hk b _ e2).1
    rw [q1] at q2;cases q2
    exact ⟨xc,gs,Paired.mono (λ_ _ ⟨z,w⟩=>⟨z,w.later l⟩) q,tb',.inl ⟨z,m2⟩⟩
   ·obtain ⟨vs2,q2,_⟩:=(hk b _ e2).1
    rw [q1] at q2;cases q2
    exact ⟨xc,gs,Paired.mono (λ_ _ ⟨z,w⟩=>⟨z,w.later l⟩) q,tb',.inr ⟨d',h1,h2,m2,m.1 d' _ h1 e3⟩⟩
 ·obtain ⟨u,q⟩:=ho.some
  exact ho.later l (by rw [q];exact m.1 b u hb q)
end
noncomputable def xOf (X:Cx) (a:Addr) (H:Hp):Prop:=∀ (pins:List (Addr×Obj)) (σ:L2.St) (s:Shared) (C:Addr) (d tb:Option Addr),L2.Inv X pins σ H s->Fx X.K H a C d tb->X.xe (.ref a) s
noncomputable def spX (K:PySem.W.Frag) (cl:Nat->Addr) (n:Nat) (run:List D->M D):Sp:=λvs H Q E=>vs.length=n/\∃ μ S ds,RDs K μ H ds vs/\Rep K cl μ S H/\Post K cl (xeOf E) μ H (run ds S) λd _ μ' H'=>∀ v,RD K μ' H' d v->Q v H'
section
variable {K:PySem.W.Frag} {cl:Nat->Addr} {xe xe':Addr->Hp->Prop} {α:Type} {μ:Mp} {H:Hp}
theorem Post.up {r:R α} {G:α->Sto->Mp->Hp->Prop} (p:Post K cl xe μ H r G) (k:∀ a H',xe a H'->xe' a H'):Post K cl xe' μ H r G:=p.ximp λ_ _ _ H' a _ _ _ _ h=>k a H' h
theorem Post.x0 {r:R α} {G:α->Sto->Mp->Hp->Prop} (p:Post K cl (xeOf E0) μ H r G):Post K cl xe μ H r G:=p.up λ_ _ z=>False.elim z
end
noncomputable abbrev x0:Addr->Hp->Prop:=xeOf E0
section
variable {X:Cx} {cl:Nat->Addr} {xe:Addr->Hp->Prop} {e tg:Expr} {es:List Expr}
theorem PE.x0 {f:Env->M D} (h:PE X e (tD X.K cl xe f)):PE X e (tD X.K cl x0 f):=PE.imp h λσ H Q ⟨μ,S,ρ,eo,rp,p⟩=>⟨μ,S,ρ,eo,rp,p.x0⟩
theorem PTL.x0 {f:Env->M Bool} (h:PTL X es (tBo X.K cl xe f)):PTL X es (tBo X.K cl x0 f):=λpins s σ H Q I ⟨μ,S,ρ,eo,rp,p⟩=>h pins s σ H Q I ⟨μ,S,ρ,eo,rp,p.x0⟩
theorem PI.x0 {f:Env->M (Src×Nat)} (h:PI X tg e (tIt X.K cl xe f)):PI X tg e (tIt X.K cl x0 f):=PI.imp h λσ H Q ⟨μ,S,ρ,eo,rp,p⟩=>⟨μ,S,ρ,eo,rp,p.x0⟩
theorem PSs.x0 {sts:List Stmt} {f:Env->M Fl} (h:PSs X sts (sD X.K cl xe f)):PSs X sts (sD X.K cl x0 f):=PSs.imp h λD σ H ⟨μ,S,ρ,eo,rp,p⟩=>⟨μ,S,ρ,eo,rp,p.x0⟩
theorem newl_nx {fs:Env->M (List D)} (h:PE X e (tNewL X.K cl x0 fs)):PE X e (tD X.K cl xe λρ=>bind (nx (fs ρ)) λds=>ret (.lst ds)):=PE.imp h λσ H Q ⟨μ,S,ρ,eo,rp,p⟩=>
 ⟨μ,S,ρ,eo,rp,p.bind.nx.imp λds S1 μ1 H1 l1 r1 p1 acc ys hl rds=>p1.ret μ1 H1 (Lat.refl _ _) r1 _ (.lst hl rds)⟩
theorem passX:Passes (CXd X.prog X.w X.K) X (λev _ H=>∀ a,ev=.ref a->xOf X a H):=λpins σ H s e s' I ⟨a,C,d,tb,H',he,os,bare,un,hok,fx,q⟩=>by
 subst he
 exact q a rfl pins σ s' C d tb (I.call' (ch:=[]) os un hok bare λb z=>absurd z (by simp)) fx
theorem pd_callX {k n:Nat} {a:Addr} {fd:FuncData} {ps:List Str} {x:Str} {p pos:Pos} {fs:Env->M (List D)} {run:List D->M D} (F:FnOk X.prog X.w X.K X.mg X.base (CXd X.prog X.w X.K) k a fd ps (spX X.K cl n run)) (hr:Room false k X.A) (hg:Gl X x) (hm:X.mg x=some (.ref a)) (hk:PySem.W.keepIn X.K (.ref a)=true) (hb:Binds X.K fd ps [])
  (ha:PA X (e :: es) (tDs X.K cl (xOf X) fs)) (hdb:(x==("__debug__" : Str))=false) (hs:(e :: es).all noStar=true) :
  PE X (.Call (.Name x p) (e :: es) [] pos) (tD X.K cl (xOf X) λρ=>bind (fs ρ) λds=>if ds.length=n then run ds else bad):=by
 rw [List.all_cons,Bool.and_eq_true] at hs
 exact PE.imp (pe_call F hr hg hm hk hb .nil passX ha hdb (star_of hs.1) (stars_of hs.2)) λσ H Q ⟨μ,S,ρ,eo,rp,p⟩=>
  ⟨μ,S,ρ,eo,rp,p.bind.imp λds S1 μ1 H1 l1 r1 p1 vs rvs=>by
   by_cases hd:ds.length=n
   ·rw [if_pos hd] at p1
    exact ⟨by rw [List.append_nil,<- rvs.length];exact hd,μ1,S1,ds,by rw [List.append_nil];exact rvs,r1,p1.up λa H' h a' z=>by cases z;exact h⟩
   ·rw [if_neg hd] at p1;exact p1.elim⟩
theorem pd_callX0 {k:Nat} {a:Addr} {fd:FuncData} {ps:List Str} {x:Str} {p pos:Pos} {run:List D->M D} (F:FnOk X.prog X.w X.K X.mg X.base (CXd X.prog X.w X.K) k a fd ps (spX X.K cl 0 run)) (hr:Room false k X.A) (hg:Gl X x) (hm:X.mg x=some (.ref a)) (hk:PySem.W.keepIn X.K (.ref a)=true) (hb:Binds X.K fd ps [])
  (hdb:(x==("__debug__" : Str))=false):PE X (.Call (.Name x p) [] [] pos) (tD X.K cl (xOf X) λρ=>run []):=PE.imp (pe_call0 F hr hg hm hk hb .nil passX hdb) λσ H Q ⟨μ,S,ρ,eo,rp,p⟩=>⟨rfl,μ,S,[],.nil,rp,p.up λa H' h a' z=>by cases z;exact h⟩
end
inductive G where
 | val (d:D) | fn (i n:Nat) | err (c:Nat) (fs:List Str) | dct (kvs:List (Str×D))
structure Gm where
 gl:List (Str×G)
 sub:Nat->Nat->Bool
 flds:List Str
 qs:List Nat:=[]
structure Lc where
 N:List Str
 sc:Scope
 fr:Bool
 mu:List Str
noncomputable def quiet (lc:Lc):Bool:=lc.mu.contains ("~" : Str)
structure Ev where
 e:Lc->Expr->Env->M D
 t:Lc->Expr->Env->M Bool
 s:Lc->Stmt->Env->M Fl
 i:Lc->Expr->Expr->Env->M (Src×Nat)
structure EvK where
 e:Lc->Expr->Env->∀ {α:Type},(D->M α)->M α
 t:Lc->Expr->Env->∀ {α:Type},(Bool->M α)->M α
 s:Lc->Stmt->Env->∀ {α:Type},(Fl->M α)->M α
 i:Lc->Expr->Expr->Env->∀ {α:Type},(Src×Nat->M α)->M α
structure EqK (r:Ev) (q:EvK):Prop where
 e:∀ lc e ρ {α:Type} (k:D->M α),q.e lc e ρ k=bind (r.e lc e ρ) k
 t:∀ lc e ρ {α:Type} (k:Bool->M α),q.t lc e ρ k=bind (r.t lc e ρ) k
 s:∀ lc e ρ {α:Type} (k:Fl->M α),q.s lc e ρ k=bind (r.s lc e ρ) k
 i:∀ lc g e ρ {α:Type} (k:Src×Nat->M α),q.i lc g e ρ k=bind (r.i lc g e ρ) k
theorem bind_bad {α β:Type} (k:α->M β):bind bad k=bad:=rfl
theorem bind_ite {α β:Type} {c:Prop} [Decidable c] (a b:M α) (k:α->M β):bind (if c then a else b) k=if c then bind a k else bind b k:=by split <;> rfl
theorem bind_id {α:Type} (m:M α):bind m ret=m:=by
 funext S;unfold bind ret;cases m S <;> rfl
noncomputable def idxOf:List Str->Str->Option Nat
 | [],_=>none
 | y :: ys,x=>if y=x then some 0 else (idxOf ys x).map (· + 1)
theorem idxOf_ok:∀ {N:List Str} {x:Str} {i:Nat},idxOf N x=some i->N[i]?=some x
 | [],_,_,e=>by cases e
 | y :: ys,x,i,e=>by
  unfold idxOf at e
  split at e
  ·rename_i h;cases e;simp [h]
  ·cases q:idxOf ys x with
   | none=>rw [q] at e;cases e
   | some j=>rw [q] at e;cases e;simpa using idxOf_ok q
noncomputable def visB (sc:Scope) (x:Str):Bool:=decide (sc.names.lookup x=some .local)||decide (sc.names.lookup x=some .cell)||decide (sc.names.lookup x=some .free)
noncomputable def locB (sc:Scope) (x:Str):Bool:=decide (sc.names.lookup x=some .local)||decide (sc.names.lookup x=some .cell)
noncomputable def glB (sc:Scope) (x:Str):Bool:=decide (sc.names.lookup x=some .globalImplicit)
noncomputable def okName (x:Str):Bool:=!(x==("__debug__" : Str))&&!(x==("__classdict__" : Str))&&!(x==("__name__" : Str))
theorem visB_ok {sc:Scope} {x:Str} (h:visB sc x=true):Vis sc x:=by
 simpa [visB,Vis,or_assoc] using h
theorem locB_ok {sc:Scope} {x:Str} (h:locB sc x=true):L2.Loc sc x:=by
 simpa [locB,L2.Loc] using h
theorem okName_ok {x:Str} (h:okName x=true):(x==("__debug__" : Str))=false/\(x==("__classdict__" : Str))=false/\x ≠ "__name__":=by
 simpa [okName,and_assoc] using h
structure Tx where
 P:Program
 w:World
 K:PySem.W.Frag
 mg:Str->Option Value
 base:Heap
 cl:Nat->Addr
noncomputable def bnames:List Str:=["len","tuple","list","repr","isinstance","range","int","bool","str","dict","ValueError","all","any","sum","max","min","sorted","set","enumerate","abs","zip"]
noncomputable abbrev CXq (q:Bool):CXT:=⟨λ_ _ _ _ _ _=>False,q⟩
structure FnX (T:Tx) (k i n:Nat) (x:Str) (run:List D->M D):Prop where
 ex:∃ (a:Addr) (fd:FuncData) (ps:List Str),ps.length=n/\FnOk T.P T.w T.K T.mg T.base (CXd T.P T.w T.K) k a fd ps (spX T.K T.cl n run)/\T.mg x=some (.ref a)/\PySem.W.keepIn T.K (.ref a)=true/\Binds T.K fd ps []
structure FnAt (T:Tx) (k i n:Nat) (x:Str) (run:List D->M D):Prop where
 ex:∃ (a:Addr) (fd:FuncData) (ps:List Str),ps.length=n/\FnOk T.P T.w T.K T.mg T.base (CXq true) k a fd ps (spD T.K T.cl n run)/\T.mg x=some (.ref a)/\PySem.W.keepIn T.K (.ref a)=true/\Binds T.K fd ps []
structure ErrAt (T:Tx) (x:Str) (c:Nat) (fs:List Str):Prop where
 xc:XC T.K (T.cl c)
 mg_:T.mg x=some (.ref (T.cl c))
 ex:∃ (f:Addr) (fd:FuncData) (ps:List Str),PySem.W.findIn T.K (.ref (T.cl c)) "__init__" = some (some (.ref f))/\PySem.W.isFn T.K (.ref f)=true/\Binds T.K fd ps [] /\
  match fs with
  | []=>FnOk T.P T.w T.K T.mg T.base CX0 2 f fd ps (Hn.spHE T.K)
  | [g]=>FnOk T.P T.w T.K T.mg T.base CX0 2 f fd ps (Hn.sp1 T.K g)
  | [g,g2]=>FnOk T.P T.w T.K T.mg T.base CX0 2 f fd ps (Hn.sp2 T.K g g2)
  | _=>False
noncomputable def DctAt (T:Tx) (x:Str) (kvs:List (Str×D)):Prop:=∃ (a:Addr) (es:Array DictEntry) (n:Nat),T.mg x=some (.ref a)/\T.K.lookup a=some ⟨.type "dict",none,.dict es n,#[]⟩/\PySem.W.KeysLit T.w.params es.toList/\∀ k d,kvs.lookup k=some d->∃ u v,PySem.W.nsIn T.K a k=some (some u)/\RelV v u/\∀ μ H,RD T.K μ H d v
structure TxOk (T:Tx) (Γ:Gm) (k:Nat) (C:Nat->List D->M D):Prop where
 blt:∀ x∈bnames,Γ.gl.lookup x=none->T.mg x=none
 val:∀ x d,Γ.gl.lookup x=some (.val d)->∃ u v,T.mg x=some u/\RelV v u/\∀ μ H,RD T.K μ H d v
 fn:∀ x i n,Γ.gl.lookup x=some (.fn i n)->i∉Γ.qs->FnX T k i n x (C i)
 fnq:∀ x i n,Γ.gl.lookup x=some (.fn i n)->i∈Γ.qs->FnAt T k i n x (C i)
 err:∀ x c fs,Γ.gl.lookup x=some (.err c fs)->ErrAt T x c fs/\(∀ g∈fs,NoAttr T.K (T.cl c) g)
 sub:∀ x c c0 fs,Γ.gl.lookup x=some (.err c0 fs)->XC T.K (T.cl c)->PySem.W.kitOne T.K (.ref (T.cl c)) (.ref (T.cl c0))=some (Γ.sub c c0)
 subV:∀ c,XC T.K (T.cl c)->PySem.W.kitOne T.K (.ref (T.cl c)) (.type "ValueError")=some true
 subT:∀ c,XC T.K (T.cl c)->∀ t∈tys,PySem.W.kitOne T.K (.ref (T.cl c)) (.type t)=some false
 fld:∀ g∈Γ.flds,∀ c,XC T.K (T.cl c)->NoAttr T.K (T.cl c) g
 dct:∀ x kvs,Γ.gl.lookup x=some (.dct kvs)->DctAt T x kvs
 k3:3<=k
structure CxOk (T:Tx) (k:Nat) (lc:Lc) (X:Cx):Prop where
 prog:X.prog=T.P
 w:X.w=T.w
 K:X.K=T.K
 mg:X.mg=T.mg
 base:X.base=T.base
 N:X.N=lc.N
 nd:lc.N.Nodup
 sc:X.env.scope=lc.sc
 calm:quiet lc=false->X.calm=true
 room:Room (quiet lc) k X.A
 po:PassesOwn (model X.prog X.w) X.A X.env X.xe
 fn:X.fn=λ_=>lc.fr
 kd:lc.sc.kind=.function
 own:lc.fr=true->quiet lc=false->X.stack=X.env :: X.outer/\X.env.frame=some X.env.locals
structure EvOk (T:Tx) (k:Nat) (r:Ev):Prop where
 e:∀ lc X,CxOk T k lc X->∀ e,PE X e (tD T.K T.cl (xOf X) (r.e lc e))
 t:∀ lc X,CxOk T k lc X->∀ e,PT X e (tBo T.K T.cl (xOf X) (r.t lc e))
 s:∀ lc X,CxOk T k lc X->lc.fr=true->∀ st,PS X st (sD T.K T.cl (xOf X) (r.s lc st))
 i:∀ lc X,CxOk T k lc X->∀ g e,PI X g e (tIt T.K T.cl (xOf X) (r.i lc g e))
section
variable {T:Tx} {k:Nat} {r:Ev} {Γ:Gm} {C:Nat->List D->M D} {lc:Lc} {X:Cx} {pos:Pos}
theorem EvOk.ex (R:EvOk T k r) (h:CxOk T k lc X) (e:Expr):PE X e (tD X.K T.cl (xOf X) (r.e lc e)):=by rw [h.K];exact R.e lc X h e
theorem EvOk.tx (R:EvOk T k r) (h:CxOk T k lc X) (e:Expr):PT X e (tBo X.K T.cl (xOf X) (r.t lc e)):=by rw [h.K];exact R.t lc X h e
theorem EvOk.ix (R:EvOk T k r) (h:CxOk T k lc X) (g e:Expr):PI X g e (tIt X.K T.cl (xOf X) (r.i lc g e)):=by rw [h.K];exact R.i lc X h g e
theorem EvOk.sx (R:EvOk T k r) (h:CxOk T k lc X) (hf:lc.fr=true) (st:Stmt):PS X st (sD X.K T.cl (xOf X) (r.s lc st)):=by rw [h.K];exact R.s lc X h hf st
theorem CxOk.u64 (h:CxOk T k lc X):X.A.units+64<cLine:=h.room.units
theorem CxOk.u80 (h:CxOk T k lc X):X.A.units+80<cLine:=by have:=h.room.un;omega
theorem CxOk.u1 (h:CxOk T k lc X):X.A.units+1<cLine:=hu_of h.room
theorem CxOk.gl (h:CxOk T k lc X) {x:Str} (hg:glB lc.sc x=true):Gl X x:=by
 show X.env.kindOf x=_
 unfold PySem.Env.kindOf
 rw [h.sc]
 exact of_decide_eq_true hg
theorem TxOk.none (TX:TxOk T Γ k C) (h:CxOk T k lc X) {x:Str} (hx:x∈bnames) (e:Γ.gl.lookup x=none):X.mg x=none:=by rw [h.mg];exact TX.blt x hx e
theorem CxOk.nd' (h:CxOk T k lc X):X.N.Nodup:=by rw [h.N];exact h.nd
theorem CxOk.fn1 (h:CxOk T k lc X) (hf:lc.fr=true) {x:Str}:X.fn x=true:=by rw [h.fn];exact hf
theorem CxOk.room0 (h:CxOk T k lc X) (hq:quiet lc=false):Room false k X.A:=by have:=h.room;rw [hq] at this;exact this
end
noncomputable abbrev Cf:=Nat->List D->M D
structure RuE:Type 1 where
 is:Gm->Lc->Expr->Bool
 run:Ev->Gm->Cf->Lc->Expr->Env->M D
 ok:∀ {T:Tx} {k:Nat} {r:Ev} {Γ:Gm} {C:Cf} {lc:Lc} {X:Cx} (e:Expr),EvOk T k r->TxOk T Γ k C->CxOk T k lc X->is Γ lc e=true->PE X e (tD X.K T.cl (xOf X) (run r Γ C lc e))
 runK:EvK->Gm->Cf->Lc->Expr->Env->∀ {α:Type},(D->M α)->M α
 eq:∀ {r:Ev} {q:EvK} {Γ:Gm} {C:Cf} {lc:Lc} (e:Expr) (ρ:Env) {α:Type} (k:D->M α),EqK r q->runK q Γ C lc e ρ k=bind (run r Γ C lc e ρ) k
structure RuT:Type 1 where
 is:Gm->Lc->Expr->Bool
 run:Ev->Gm->Cf->Lc->Expr->Env->M Bool
 ok:∀ {T:Tx} {k:Nat} {r:Ev} {Γ:Gm} {C:Cf} {lc:Lc} {X:Cx} (e:Expr),EvOk T k r->TxOk T Γ k C->CxOk T k lc X->is Γ lc e=true->PT X e (tBo X.K T.cl (xOf X) (run r Γ C lc e))
 runK:EvK->Gm->Cf->Lc->Expr->Env->∀ {α:Type},(Bool->M α)->M α
 eq:∀ {r:Ev} {q:EvK} {Γ:Gm} {C:Cf} {lc:Lc} (e:Expr) (ρ:Env) {α:Type} (k:Bool->M α),EqK r q->runK q Γ C lc e ρ k=bind (run r Γ C lc e ρ) k
structure RuS:Type 1 where
 is:Gm->Lc->Stmt->Bool
 run:Ev->Gm->Cf->Lc->Stmt->Env->M Fl
 ok:∀ {T:Tx} {k:Nat} {r:Ev} {Γ:Gm} {C:Cf} {lc:Lc} {X:Cx} (e:Stmt),EvOk T k r->TxOk T Γ k C->CxOk T k lc X->lc.fr=true->is Γ lc e=true->PS X e (sD X.K T.cl (xOf X) (run r Γ C lc e))
 runK:EvK->Gm->Cf->Lc->Stmt->Env->∀ {α:Type},(Fl->M α)->M α
 eq:∀ {r:Ev} {q:EvK} {Γ:Gm} {C:Cf} {lc:Lc} (e:Stmt) (ρ:Env) {α:Type} (k:Fl->M α),EqK r q->runK q Γ C lc e ρ k=bind (run r Γ C lc e ρ) k
structure RuI:Type 1 where
 is:Gm->Lc->Expr->Expr->Bool
 run:Ev->Gm->Cf->Lc->Expr->Env->M (Src×Nat)
 ok:∀ {T:Tx} {k:Nat} {r:Ev} {Γ:Gm} {C:Cf} {lc:Lc} {X:Cx} (g e:Expr),EvOk T k r->TxOk T Γ k C->CxOk T k lc X->is Γ lc g e=true->PI X g e (tIt X.K T.cl (xOf X) (run r Γ C lc e))
 runK:EvK->Gm->Cf->Lc->Expr->Env->∀ {α:Type},(Src×Nat->M α)->M α
 eq:∀ {r:Ev} {q:EvK} {Γ:Gm} {C:Cf} {lc:Lc} (e:Expr) (ρ:Env) {α:Type} (k:Src×Nat->M α),EqK r q->runK q Γ C lc e ρ k=bind (run r Γ C lc e ρ) k
structure Rules:Type 1 where
 es:List RuE
 ts:List RuT
 ss:List RuS
 is:List RuI
section
variable (Rs:Rules) (Γ:Gm) (C:Cf)
noncomputable def step (r:Ev):Ev:=
 ⟨λlc e=>match Rs.es.find? (λR=>R.is Γ lc e) with
  | some R=>R.run r Γ C lc e
  | none=>λ_=>bad,
 λlc e=>match Rs.ts.find? (λR=>R.is Γ lc e) with
  | some R=>R.run r Γ C lc e
  | none=>λ_=>bad,
 λlc e=>match Rs.ss.find? (λR=>R.is Γ lc e) with
  | some R=>R.run r Γ C lc e
  | none=>λ_=>bad,
 λlc g e=>match Rs.is.find? (λR=>R.is Γ lc g e) with
  | some R=>R.run r Γ C lc e
  | none=>λ_=>bad⟩
noncomputable def badEv:Ev:=⟨λ_ _ _=>bad,λ_ _ _=>bad,λ_ _ _=>bad,λ_ _ _ _=>bad⟩
noncomputable def ev:Nat->Ev
 | 0=>badEv
 | n+1=>step Rs Γ C (ev n)
noncomputable def stepK (q:EvK):EvK:=
 ⟨λlc e ρ _ k=>match Rs.es.find? (λR=>R.is Γ lc e) with
  | some R=>R.runK q Γ C lc e ρ k
  | none=>bad,
 λlc e ρ _ k=>match Rs.ts.find? (λR=>R.is Γ lc e) with
  | some R=>R.runK q Γ C lc e ρ k
  | none=>bad,
 λlc e ρ _ k=>match Rs.ss.find? (λR=>R.is Γ lc e) with
  | some R=>R.runK q Γ C lc e ρ k
  | none=>bad,
 λlc g e ρ _ k=>match Rs.is.find? (λR=>R.is Γ lc g e) with
  | some R=>R.runK q Γ C lc e ρ k
  | none=>bad⟩
noncomputable def badK:EvK:=⟨λ_ _ _ _ _=>bad,λ_ _ _ _ _=>bad,λ_ _ _ _ _=>bad,λ_ _ _ _ _ _=>bad⟩
noncomputable def evK:Nat->EvK
 | 0=>badK
 | n+1=>stepK Rs Γ C (evK n)
end
section
variable {Rs:Rules} {T:Tx} {k:Nat} {r:Ev} {q:EvK} {Γ:Gm} {C:Cf} {lc:Lc} {X:Cx}
theorem step_ok (TX:TxOk T Γ k C) (R:EvOk T k r):EvOk T k (step Rs Γ C r):=by
 refine ⟨λlc X h e=>?_,λlc X h e=>?_,λlc X h hf e=>?_,λlc X h g e=>?_⟩
 ·rw [<- h.K]
  show PE X e (tD X.K T.cl (xOf X) (match Rs.es.find? (λR=>R.is Γ lc e) with
   | some R=>R.run r Γ C lc e
   | none=>λ_=>bad))
  cases hf:Rs.es.find? (λR=>R.is Γ lc e) with
  | none=>exact pd_bad
  | some R0=>exact R0.ok e R TX h (by have:=List.find?_some hf;exact this)
 ·rw [<- h.K]
  show PT X e (tBo X.K T.cl (xOf X) (match Rs.ts.find? (λR=>R.is Γ lc e) with
   | some R=>R.run r Γ C lc e
   | none=>λ_=>bad))
  cases hf:Rs.ts.find? (λR=>R.is Γ lc e) with
  | none=>exact pb_bad
  | some R0=>exact R0.ok e R TX h (by have:=List.find?_some hf;exact this)
 ·rw [<- h.K]
  show PS X e (sD X.K T.cl (xOf X) (match Rs.ss.find? (λR=>R.is Γ lc e) with
   | some R=>R.run r Γ C lc e
   | none=>λ_=>bad))
  cases hq:Rs.ss.find? (λR=>R.is Γ lc e) with
  | none=>exact ps_bad
  | some R0=>exact R0.ok e R TX h hf (by have:=List.find?_some hq;exact this)
 ·rw [<- h.K]
  show PI X g e (tIt X.K T.cl (xOf X) (match Rs.is.find? (λR=>R.is Γ lc g e) with
   | some R=>R.run r Γ C lc e
   | none=>λ_=>bad))
  cases hf:Rs.is.find? (λR=>R.is Γ lc g e) with
  | none=>exact pit_bad
  | some R0=>exact R0.ok g e R TX h (by have:=List.find?_some hf;exact this)
theorem badEv_ok:EvOk T k badEv:=⟨λlc X h e=>by rw [<- h.K];exact pd_bad,λlc X h e=>by rw [<- h.K];exact pb_bad,λlc X h _ st=>by rw [<- h.K];exact ps_bad,λlc X h g e=>by rw [<- h.K];exact pit_bad⟩
theorem ev_ok (TX:TxOk T Γ k C):∀ n,EvOk T k (ev Rs Γ C n)
 | 0=>badEv_ok
 | n+1=>step_ok TX (ev_ok TX n)
theorem step_eq (h:EqK r q):EqK (step Rs Γ C r) (stepK Rs Γ C q):=by
 refine ⟨λlc e ρ _ k=>?_,λlc e ρ _ k=>?_,λlc e ρ _ k=>?_,λlc g e ρ _ k=>?_⟩
 ·show (match Rs.es.find? (λ(R:RuE)=>R.is Γ lc e) with
   | some R=>R.runK q Γ C lc e ρ k
   | none=>bad)=bind ((match Rs.es.find? (λ(R:RuE)=>R.is Γ lc e) with
   | some R=>R.run r Γ C lc e
   | none=>λ_=>bad) ρ) k
  cases Rs.es.find? (λ(R:RuE)=>R.is Γ lc e) with
  | none=>rfl
  | some R0=>exact R0.eq e ρ k h
 ·show (match Rs.ts.find? (λ(R:RuT)=>R.is Γ lc e) with
   | some R=>R.runK q Γ C lc e ρ k
   | none=>bad)=bind ((match Rs.ts.find? (λ(R:RuT)=>R.is Γ lc e) with
   | some R=>R.run r Γ C lc e
   | none=>λ_=>bad) ρ) k
  cases Rs.ts.find? (λ(R:RuT)=>R.is Γ lc e) with
  | none=>rfl
  | some R0=>exact R0.eq e ρ k h
 ·show (match Rs.ss.find? (λ(R:RuS)=>R.is Γ lc e) with
   | some R=>R.runK q Γ C lc e ρ k
   | none=>bad)=bind ((match Rs.ss.find? (λ(R:RuS)=>R.is Γ lc e) with
   | some R=>R.run r Γ C lc e
   | none=>λ_=>bad) ρ) k
  cases Rs.ss.find? (λ(R:RuS)=>R.is Γ lc e) with
  | none=>rfl
  | some R0=>exact R0.eq e ρ k h
 ·show (match Rs.is.find? (λ(R:RuI)=>R.is Γ lc g e) with
   | some R=>R.runK q Γ C lc e ρ k
   | none=>bad)=bind ((match Rs.is.find? (λ(R:RuI)=>R.is Γ lc g e) with
   | some R=>R.run r Γ C lc e
   | none=>λ_=>bad) ρ) k
  cases Rs.is.find? (λ(R:RuI)=>R.is Γ lc g e) with
  | none=>rfl
  | some R0=>exact R0.eq e ρ k h
theorem ev_eq:∀ n,EqK (ev Rs Γ C n) (evK Rs Γ C n)
 | 0=>⟨λ_ _ _ _ _=>rfl,λ_ _ _ _ _=>rfl,λ_ _ _ _ _=>rfl,λ_ _ _ _ _ _=>rfl⟩
 | n+1=>step_eq (ev_eq n)
end
section
variable (r:Ev) (q:EvK) (lc:Lc)
noncomputable def argsE:List Expr->Env->M (List D)
 | [],_=>ret []
 | e :: es,ρ=>bind (r.e lc e ρ) λd=>bind (argsE es ρ) λds=>ret (d :: ds)
noncomputable def argsK {α:Type}:List Expr->Env->(List D->M α)->M α
 | [],_,k=>k []
 | e :: es,ρ,k=>q.e lc e ρ λd=>argsK es ρ λds=>k (d :: ds)
noncomputable def blkE:List Stmt->Env->M Fl
 | [],ρ=>ret (.nx ρ)
 | st :: sts,ρ=>seqF (r.s lc st) (blkE sts) ρ
noncomputable def blkK {α:Type}:List Stmt->Env->(Fl->M α)->M α
 | [],ρ,k=>k (.nx ρ)
 | st :: sts,ρ,k=>q.s lc st ρ λfl=>match fl with
  | .nx ρ'=>blkK sts ρ' k
  | fl=>k fl
end
section
variable {T:Tx} {k:Nat} {r:Ev} {q:EvK} {Γ:Gm} {C:Cf} {lc:Lc} {X:Cx} {pos:Pos}
theorem args_eq (h:EqK r q):∀ (es:List Expr) (ρ:Env) {α:Type} (k:List D->M α),argsK q lc es ρ k=bind (argsE r lc es ρ) k
 | [],_,_,_=>rfl
 | e :: es,ρ,_,k=>by
  show q.e lc e ρ (λd=>argsK q lc es ρ λds=>k (d :: ds))=bind (bind (r.e lc e ρ) λd=>bind (argsE r lc es ρ) λds=>ret (d :: ds)) k
  rw [h.e,bind_assoc]
  congr;funext d
  rw [args_eq h,bind_assoc];rfl
theorem blk_eq (h:EqK r q):∀ (sts:List Stmt) (ρ:Env) {α:Type} (k:Fl->M α),blkK q lc sts ρ k=bind (blkE r lc sts ρ) k
 | [],_,_,_=>rfl
 | st :: sts,ρ,_,k=>by
  show (q.s lc st ρ λfl=>match fl with
   | .nx ρ'=>blkK q lc sts ρ' k
   | fl=>k fl)=bind (bind (r.s lc st ρ) λfl=>match fl with
   | .nx ρ'=>blkE r lc sts ρ'
   | fl=>ret fl) k
  rw [h.s,bind_assoc]
  congr;funext fl
  cases fl with
  | nx ρ'=>exact blk_eq h sts ρ' k
  | bk ρ'=>rfl
  | ct ρ'=>rfl
  | rt d=>rfl
theorem args_ok (R:EvOk T k r) (h:CxOk T k lc X):∀ {es:List Expr},es.all noStar=true->PA X es (tDs X.K T.cl (xOf X) (argsE r lc es))
 | [],_=>pds_nil
 | e :: es,hs=>by
  rw [List.all_cons,Bool.and_eq_true] at hs
  exact pds_cons (R.ex h e) (args_ok R h hs.2) hs.1
theorem blk_ok (R:EvOk T k r) (h:CxOk T k lc X) (hf:lc.fr=true):∀ {sts:List Stmt},PSs X sts (sD X.K T.cl (xOf X) (blkE r lc sts))
 | []=>pds_nil'
 | st :: sts=>pds_seq (R.sx h hf st) (blk_ok R h hf)
end
noncomputable def constE (c:Const):M D:=match c with
 | .int i=>ret (.int i)
 | .bool b=>ret (.bl b)
 | .none=>ret .non
 | .str x=>ret (.str x)
 | _=>bad
noncomputable def constK {α:Type} (c:Const) (k:D->M α):M α:=match c with
 | .int i=>k (.int i)
 | .bool b=>k (.bl b)
 | .none=>k .non
 | .str x=>k (.str x)
 | _=>bad
noncomputable def rConst:RuE where
 is _ _ e:=match e with
  | .Constant _ _ _=>true
  | _=>false
 run _ _ _ _ e _:=match e with
  | .Constant c _ _=>constE c
  | _=>bad
 ok e R TX h hi:=by
  cases e with
  | Constant c n p=>
   show PE _ _ (tD _ _ _ λ_=>constE c)
   cases c <;> first
    | exact pd_const pe_int λ_ _=>.int _
    | exact pd_const pe_bl λ_ _=>.bl _
    | exact pd_const pe_non λ_ _=>.non
    | exact pd_const pe_str λ_ _=>.str _
    | exact pd_bad
  | _=>exact pd_bad
 runK _ _ _ _ e _ _ k:=match e with
  | .Constant c _ _=>constK c k
  | _=>bad
 eq e ρ _ k h:=by
  cases e with
  | Constant c n p=>cases c <;> rfl
  | _=>rfl
noncomputable def nameE (Γ:Gm) (lc:Lc) (x:Str) (ρ:Env):M D:=match idxOf lc.N x with
 | some i=>if visB lc.sc x=true then getD i ρ else bad
 | none=>if glB lc.sc x=true then (match Γ.gl.lookup x with
  | some (.val d)=>ret d
  | _=>bad) else bad
noncomputable def getK {α:Type} (i:Nat) (ρ:Env) (k:D->M α):M α:=match ρ[i]? with
 | some (some d)=>k d
 | _=>bad
noncomputable def nameK {α:Type} (Γ:Gm) (lc:Lc) (x:Str) (ρ:Env) (k:D->M α):M α:=match idxOf lc.N x with
 | some i=>if visB lc.sc x=true then getK i ρ k else bad
 | none=>if glB lc.sc x=true then (match Γ.gl.lookup x with
  | some (.val d)=>k d
  | _=>bad) else bad
theorem name_ok {T:Tx} {k:Nat} {Γ:Gm} {C:Cf} {lc:Lc} {X:Cx} {pos:Pos} (TX:TxOk T Γ k C) (h:CxOk T k lc X) {x:Str} (hn:okName x=true):PE X (.Name x pos) (tD X.K T.cl (xOf X) (nameE Γ lc x)):=by
 unfold nameE
 obtain ⟨n1,n2,n3⟩:=okName_ok hn
 cases e:idxOf lc.N x with
 | some i=>
  by_cases hv:visB lc.sc x=true
  ·simp only [if_pos hv]
   exact pd_var (pe_var (by rw [h.N];exact idxOf_ok e) (by rw [h.sc];exact visB_ok hv) n1 n2)
  ·simp only [if_neg hv];exact pd_bad
 | none=>
  by_cases hv:glB lc.sc x=true
  ·simp only [if_pos hv]
   cases e2:Γ.gl.lookup x with
   | none=>exact pd_bad
   | some g=>
    cases g with
    | val d=>
     obtain ⟨u,v,e3,rv,rd⟩:=TX.val x d e2
     exact pd_const (pe_glob (u:=u) (h.gl hv) (by rw [h.mg];exact e3) rv n1) λμ H=>by rw [h.K];exact rd μ H
    | fn i n=>exact pd_bad
    | err c fs=>exact pd_bad
    | dct kvs=>exact pd_bad
  ·simp only [if_neg hv];exact pd_bad
theorem name_eq (Γ:Gm) (lc:Lc) (x:Str) (ρ:Env) {α:Type} (k:D->M α):nameK Γ lc x ρ k=bind (nameE Γ lc x ρ) k:=by
 unfold nameK nameE
 cases idxOf lc.N x with
 | some i=>
  simp only []
  split
  ·unfold getK getD
   cases ρ[i]? with
   | none=>rfl
   | some o=>cases o <;> rfl
  ·rfl
 | none=>
  simp only []
  split
  ·cases Γ.gl.lookup x with
   | none=>rfl
   | some g=>cases g <;> rfl
  ·rfl
noncomputable def rName:RuE where
 is _ _ e:=match e with
  | .Name x _=>okName x
  | _=>false
 run _ Γ _ lc e ρ:=match e with
  | .Name x _=>nameE Γ lc x ρ
  | _=>bad
 ok e R TX h hi:=by
  cases e with
  | Name x p=>exact name_ok TX h hi
  | _=>exact pd_bad
 runK _ Γ _ lc e ρ _ k:=match e with
  | .Name x _=>nameK Γ lc x ρ k
  | _=>bad
 eq e ρ _ k h:=by
  cases e with
  | Name x p=>exact name_eq _ _ x ρ k
  | _=>rfl
noncomputable def binD (op:Operator):D->D->M D:=match op with
 | .Add=>addD
 | .Sub=>subD
 | .Mult=>mulD
 | .Mod=>modD
 | .FloorDiv=>fdivD
 | .Pow=>powD
 | _=>λ_ _=>bad
noncomputable def cmpD (op:CmpOp):D->D->M D:=match op with
 | .Eq=>eqD false
 | .NotEq=>eqD true
 | .Lt=>ordD λi j=>decide (i<j)
 | .LtE=>ordD λi j=>decide (i<=j)
 | .Gt=>ordD λi j=>decide (j<i)
 | .GtE=>ordD λi j=>decide (j<=i)
 | .In=>inD false
 | .NotIn=>inD true
 | .Is=>isD false
 | .IsNot=>isD true
theorem bin_ok {X:Cx} {cl:Nat->Addr} {xe:Addr->Hp->Prop} (op:Operator):OpR X (binaryOp op) (rP2 X.K cl xe (binD op)):=by
 cases op <;> first
  | exact p_add
  | exact p_sub
  | exact p_mul
  | exact p_mod
  | exact p_fdiv
  | exact p_pow
  | exact λpins s σ H x y v u Q I rx ry ⟨μ,S,d,e,rd,re,rp,p⟩=>p.elim
theorem cmp_ok {T:Tx} {k:Nat} {lc:Lc} {X:Cx} {cl:Nat->Addr} {xe:Addr->Hp->Prop} (h:CxOk T k lc X) (op:CmpOp):OpR X (compareOp op) (rP2 X.K cl xe (cmpD op)):=by
 cases op
 case Eq=>exact p_eq h.u64
 case NotEq=>exact p_ne h.u64
 case Lt=>exact p_ord op_lt
 case LtE=>exact p_ord op_le
 case Gt=>exact p_ord op_gt
 case GtE=>exact p_ord op_ge
 case In=>exact p_in false h.u80
 case NotIn=>exact p_in true h.u80
 case Is=>exact p_is false
 case IsNot=>exact p_is true
noncomputable def rBin:RuE where
 is _ _ e:=match e with
  | .BinOp _ _ _ _=>true
  | _=>false
 run r _ _ lc e ρ:=match e with
  | .BinOp a op b _=>bind (r.e lc a ρ) λx=>bind (r.e lc b ρ) λy=>binD op x y
  | _=>bad
 ok e R TX h hi:=by
  cases e with
  | BinOp a op b p=>exact pd_bin (R.ex h _) (R.ex h _) (bin_ok _)
  | _=>exact pd_bad
 runK q _ _ lc e ρ _ k:=match e with
  | .BinOp a op b _=>q.e lc a ρ λx=>q.e lc b ρ λy=>bind (binD op x y) k
  | _=>bad
 eq e ρ _ k h:=by
  cases e with
  | BinOp a op b p=>simp only [h.e,bind_assoc]
  | _=>rfl
noncomputable def rNeg:RuE where
 is _ _ e:=match e with
  | .UnaryOp .USub _ _=>true
  | _=>false
 run r _ _ lc e ρ:=match e with
  | .UnaryOp .USub a _=>bind (r.e lc a ρ) negD
  | _=>bad
 ok e R TX h hi:=by
  split at hi
  ·exact pd_neg (R.ex h _)
  ·cases hi
 runK q _ _ lc e ρ _ k:=match e with
  | .UnaryOp .USub a _=>q.e lc a ρ λd=>bind (negD d) k
  | _=>bad
 eq e ρ _ k h:=by
  split
  ·simp only [h.e,bind_assoc]
  ·first
   | rfl
   | (rename_i hn;split;exact (hn _ _ rfl).elim;rfl)
section
variable (r:Ev) (q:EvK) (lc:Lc)
noncomputable def andB:List Expr->Env->M Bool
 | [],_=>bad
 | [a],ρ=>r.t lc a ρ
 | a :: b :: es,ρ=>bind (r.t lc a ρ) λq=>if q=true then andB (b :: es) ρ else ret false
noncomputable def orB:List Expr->Env->M Bool
 | [],_=>bad
 | [a],ρ=>r.t lc a ρ
 | a :: b :: es,ρ=>bind (r.t lc a ρ) λq=>if q=true then ret true else orB (b :: es) ρ
noncomputable def andBK {α:Type}:List Expr->Env->(Bool->M α)->M α
 | [],_,_=>bad
 | [a],ρ,k=>q.t lc a ρ k
 | a :: b :: es,ρ,k=>q.t lc a ρ λc=>if c=true then andBK (b :: es) ρ k else k false
noncomputable def orBK {α:Type}:List Expr->Env->(Bool->M α)->M α
 | [],_,_=>bad
 | [a],ρ,k=>q.t lc a ρ k
 | a :: b :: es,ρ,k=>q.t lc a ρ λc=>if c=true then k true else orBK (b :: es) ρ k
end
section
variable {T:Tx} {k:Nat} {r:Ev} {q:EvK} {Γ:Gm} {C:Cf} {lc:Lc} {X:Cx} {pos:Pos}
theorem andB_ok (R:EvOk T k r) (h:CxOk T k lc X):∀ {es:List Expr},PW X (.BoolOp .And es pos) (tBo X.K T.cl (xOf X) (andB r lc es))
 | []=>pw_bad
 | [a]=>pb_and1 (R.tx h a)
 | a :: b :: es=>pb_and (R.tx h a) (andB_ok R h)
theorem orB_ok (R:EvOk T k r) (h:CxOk T k lc X):∀ {es:List Expr},PW X (.BoolOp .Or es pos) (tBo X.K T.cl (xOf X) (orB r lc es))
 | []=>pw_bad
 | [a]=>pb_or1 (R.tx h a)
 | a :: b :: es=>pb_or (R.tx h a) (orB_ok R h)
theorem andB_eq (h:EqK r q):∀ (es:List Expr) (ρ:Env) {α:Type} (k:Bool->M α),andBK q lc es ρ k=bind (andB r lc es ρ) k
 | [],_,_,_=>rfl
 | [a],ρ,_,k=>h.t lc a ρ k
 | a :: b :: es,ρ,_,k=>by simp only [andBK,andB,h.t,bind_assoc,bind_ite,andB_eq h (b :: es),bind_ret]
theorem orB_eq (h:EqK r q):∀ (es:List Expr) (ρ:Env) {α:Type} (k:Bool->M α),orBK q lc es ρ k=bind (orB r lc es ρ) k
 | [],_,_,_=>rfl
 | [a],ρ,_,k=>h.t lc a ρ k
 | a :: b :: es,ρ,_,k=>by simp only [orBK,orB,h.t,bind_assoc,bind_ite,orB_eq h (b :: es),bind_ret]
end
noncomputable def rCmp:RuE where
 is _ _ e:=match e with
  | .Compare _ [_] [b] _=>noSet b
  | _=>false
 run r _ _ lc e ρ:=match e with
  | .Compare a [op] [b] _=>bind (r.e lc a ρ) λx=>bind (r.e lc b ρ) λy=>cmpD op x y
  | _=>bad
 ok e R TX h hi:=by
  split at hi
  ·exact pd_cmp (R.ex h _) (R.ex h _) (cmp_ok h _) (noMark_of hi)
  ·cases hi
 runK q _ _ lc e ρ _ k:=match e with
  | .Compare a [op] [b] _=>q.e lc a ρ λx=>q.e lc b ρ λy=>bind (cmpD op x y) k
  | _=>bad
 eq e ρ _ k h:=by
  split
  ·simp only [h.e,bind_assoc]
  ·first
   | rfl
   | (rename_i hn;split;exact (hn _ _ _ _ rfl).elim;rfl)
noncomputable def rIf:RuE where
 is _ _ e:=match e with
  | .IfExp _ _ _ _=>true
  | _=>false
 run r _ _ lc e ρ:=match e with
  | .IfExp c a b _=>bind (r.t lc c ρ) λq=>if q=true then r.e lc a ρ else r.e lc b ρ
  | _=>bad
 ok e R TX h hi:=by
  cases e with
  | IfExp c a b p=>exact pd_if (R.tx h _) (R.ex h _) (R.ex h _)
  | _=>exact pd_bad
 runK q _ _ lc e ρ _ k:=match e with
  | .IfExp c a b _=>q.t lc c ρ λz=>if z=true then q.e lc a ρ k else q.e lc b ρ k
  | _=>bad
 eq e ρ _ k h:=by
  cases e with
  | IfExp c a b p=>simp only [h.e,h.t,bind_assoc,bind_ite]
  | _=>rfl
noncomputable def rTup:RuE where
 is _ _ e:=match e with
  | .Tuple es _ _=>es.all noStar
  | _=>false
 run r _ _ lc e ρ:=match e with
  | .Tuple es _ _=>bind (argsE r lc es ρ) tupD
  | _=>bad
 ok e R TX h hi:=by
  cases e with
  | Tuple es n p=>exact pd_tup (args_ok R h hi)
  | _=>exact pd_bad
 runK q _ _ lc e ρ _ k:=match e with
  | .Tuple es _ _=>argsK q lc es ρ λds=>bind (tupD ds) k
  | _=>bad
 eq e ρ _ k h:=by
  cases e with
  | Tuple es n p=>simp only [args_eq h,bind_assoc]
  | _=>rfl
noncomputable def rLst:RuE where
 is _ _ e:=match e with
  | .List es _=>es.all noStar
  | _=>false
 run r _ _ lc e ρ:=match e with
  | .List es _=>bind (argsE r lc es ρ) lstD
  | _=>bad
 ok e R TX h hi:=by
  cases e with
  | List es p=>exact pd_lst (args_ok R h hi)
  | _=>exact pd_bad
 runK q _ _ lc e ρ _ k:=match e with
  | .List es _=>argsK q lc es ρ λds=>bind (lstD ds) k
  | _=>bad
 eq e ρ _ k h:=by
  cases e with
  | List es p=>simp only [args_eq h,bind_assoc]
  | _=>rfl
noncomputable def pairsE (r:Ev) (lc:Lc):List (Option Expr)->List Expr->List ((Env->M D)×(Env->M D))
 | some k :: ks,v :: vs=>(r.e lc k,r.e lc v) :: pairsE r lc ks vs
 | _,_=>[]
noncomputable def pairsK (q:EvK) (lc:Lc) {α:Type}:List (Option Expr)->List Expr->Env->(List (D×D)->M α)->M α
 | some x :: ks,v :: vs,ρ,k=>q.e lc x ρ λa=>q.e lc v ρ λb=>pairsK q lc ks vs ρ λps=>k ((a,b) :: ps)
 | _,_,_,k=>k []
theorem pairs_ok {T:Tx} {k:Nat} {r:Ev} {lc:Lc} {X:Cx} {pos:Pos} (R:EvOk T k r) (h:CxOk T k lc X):∀ {ks:List (Option Expr)} {vs:List Expr},ks.all (·.isSome)=true->ks.length=vs.length->PPs X pos ks vs ((pairsE r lc ks vs).map λfg=>(tD X.K T.cl (xOf X) fg.1,tD X.K T.cl (xOf X) fg.2))
 | [],[],_,_=>pps_nil
 | [],_ :: _,_,hl=>by simp at hl
 | _ :: _,[],_,hl=>by simp at hl
 | none :: _,_ :: _,ha,_=>by simp at ha
 | some k :: ks,v :: vs,ha,hl=>pps_cons (R.ex h k) (R.ex h v) (pairs_ok R h (by simpa using ha) (by simpa using hl))
theorem pairs_eq {r:Ev} {q:EvK} {lc:Lc} (h:EqK r q):∀ (ks:List (Option Expr)) (vs:List Expr) (ρ:Env) {α:Type} (k:List (D×D)->M α),pairsK q lc ks vs ρ k=bind (pairsM (pairsE r lc ks vs) ρ) k
 | [],_,_,_,_=>rfl
 | none :: _,_,_,_,_=>rfl
 | some _ :: _,[],_,_,_=>rfl
 | some x :: ks,v :: vs,ρ,_,k=>by
  simp only [pairsK,pairsE,pairsM,h.e,bind_assoc]
  congr;funext a
  congr;funext b
  rw [pairs_eq h ks vs ρ];rfl
noncomputable def rDct:RuE where
 is _ _ e:=match e with
  | .Dict ks vs _=>ks.all (·.isSome)&&decide (ks.length=vs.length)&&decide (0<ks.length)&&decide (ks.length<=15)
  | _=>false
 run r _ _ lc e ρ:=match e with
  | .Dict ks vs _=>bind (pairsM (pairsE r lc ks vs) ρ) dctD
  | _=>bad
 ok e R TX h hi:=by
  cases e with
  | Dict ks vs p=>
   simp only [Bool.and_eq_true,decide_eq_true_eq] at hi
   exact pd_dict (pairs_ok R h hi.1.1.1 hi.1.1.2) hi.1.1.1 hi.1.1.2 (by intro z;rw [z] at hi;simp at hi) hi.2
  | _=>exact pd_bad
 runK q _ _ lc e ρ _ k:=match e with
  | .Dict ks vs _=>pairsK q lc ks vs ρ λps=>bind (dctD ps) k
  | _=>bad
 eq e ρ _ k h:=by
  cases e with
  | Dict ks vs p=>simp only [pairs_eq h,bind_assoc]
  | _=>rfl
noncomputable def rIx:RuE where
 is _ _ e:=match e with
  | .Subscript _ i _=>noSlice i
  | _=>false
 run r _ _ lc e ρ:=match e with
  | .Subscript a i _=>bind (r.e lc a ρ) λx=>bind (r.e lc i ρ) λy=>ixD x y
  | _=>bad
 ok e R TX h hi:=by
  cases e with
  | Subscript a i p=>exact pd_ix (R.ex h _) (R.ex h _) (p_ix h.u1) (plainIx_of hi)
  | _=>exact pd_bad
 runK q _ _ lc e ρ _ k:=match e with
  | .Subscript a i _=>q.e lc a ρ λx=>q.e lc i ρ λy=>bind (ixD x y) k
  | _=>bad
 eq e ρ _ k h:=by
  cases e with
  | Subscript a i p=>simp only [h.e,bind_assoc]
  | _=>rfl
noncomputable def partE (r:Ev) (lc:Lc) (o:Option Expr) (ρ:Env):M (Option Int):=match o with
 | none=>ret none
 | some e=>bind (r.e lc e ρ) intM
noncomputable def partK (q:EvK) (lc:Lc) {α:Type} (o:Option Expr) (ρ:Env) (k:Option Int->M α):M α:=match o with
 | none=>k none
 | some e=>q.e lc e ρ λd=>bind (intM d) k
theorem part_eq {r:Ev} {q:EvK} {lc:Lc} (h:EqK r q) (o:Option Expr) (ρ:Env) {α:Type} (k:Option Int->M α):partK q lc o ρ k=bind (partE r lc o ρ) k:=by
 cases o with
 | none=>rfl
 | some e=>simp only [partK,partE,h.e,bind_assoc]
theorem part_ok {T:Tx} {k:Nat} {r:Ev} {lc:Lc} {X:Cx} (R:EvOk T k r) (h:CxOk T k lc X) {o:Option Expr}:PO X o (tPt X.K T.cl (xOf X) (partE r lc o)):=by
 cases o with
 | none=>exact pp_none
 | some e=>exact pp_some (R.ex h e)
noncomputable def rSl:RuE where
 is _ _ e:=match e with
  | .Subscript _ (.Slice _ _ none _) _=>true
  | _=>false
 run r _ _ lc e ρ:=match e with
  | .Subscript a (.Slice lo hi none _) _=>bind (r.e lc a ρ) λd=>bind (partE r lc lo ρ) λl=>bind (partE r lc hi ρ) λu=>slD d l u
  | _=>bad
 ok e R TX h hi:=by
  split at hi
  ·exact pd_sl (R.ex h _) (part_ok R h) (part_ok R h)
  ·cases hi
 runK q _ _ lc e ρ _ k:=match e with
  | .Subscript a (.Slice lo hi none _) _=>q.e lc a ρ λd=>partK q lc lo ρ λl=>partK q lc hi ρ λu=>bind (slD d l u) k
  | _=>bad
 eq e ρ _ k h:=by
  split
  ·simp only [h.e,part_eq h,bind_assoc]
  ·first
   | rfl
   | (rename_i hn;split;exact (hn _ _ _ _ _ rfl).elim;rfl)
noncomputable def rRev:RuE where
 is _ _ e:=match e with
  | .Subscript _ (.Slice none none (some _) _) _=>true
  | _=>false
 run r _ _ lc e ρ:=match e with
  | .Subscript a (.Slice none none (some st) _) _=>bind (r.e lc a ρ) λx=>bind (r.e lc st ρ) λy=>revD x y
  | _=>bad
 ok e R TX h hi:=by
  split at hi
  ·exact pd_rev (R.ex h _) (R.ex h _)
  ·cases hi
 runK q _ _ lc e ρ _ k:=match e with
  | .Subscript a (.Slice none none (some st) _) _=>q.e lc a ρ λx=>q.e lc st ρ λy=>bind (revD x y) k
  | _=>bad
 eq e ρ _ k h:=by
  split
  ·simp only [h.e,bind_assoc]
  ·first
   | rfl
   | (rename_i hn;split;exact (hn _ _ _ _ rfl).elim;rfl)
noncomputable def tBool:RuT where
 is _ _ e:=match e with
  | .BoolOp _ _ _=>true
  | _=>false
 run r _ _ lc e ρ:=match e with
  | .BoolOp .And es _=>andB r lc es ρ
  | .BoolOp .Or es _=>orB r lc es ρ
  | _=>bad
 ok e R TX h hi:=by
  cases e with
  | BoolOp op es p=>cases op;exact (andB_ok R h).pt;exact (orB_ok R h).pt
  | _=>exact pb_bad
 runK q _ _ lc e ρ _ k:=match e with
  | .BoolOp .And es _=>andBK q lc es ρ k
  | .BoolOp .Or es _=>orBK q lc es ρ k
  | _=>bad
 eq e ρ _ k h:=by
  cases e with
  | BoolOp op es p=>cases op;exact andB_eq h es ρ k;exact orB_eq h es ρ k
  | _=>rfl
noncomputable def tCmp:RuT where
 is _ _ e:=match e with
  | .Compare _ [_] [b] _=>noSet b
  | _=>false
 run r _ _ lc e ρ:=match e with
  | .Compare a [op] [b] _=>bind (r.e lc a ρ) λx=>bind (r.e lc b ρ) λy=>bind (cmpD op x y) asB
  | _=>bad
 ok e R TX h hi:=by
  split at hi
  ·exact pb_cmp (R.ex h _) (R.ex h _) (cmp_ok h _) (noMark_of hi)
  ·cases hi
 runK q _ _ lc e ρ _ k:=match e with
  | .Compare a [op] [b] _=>q.e lc a ρ λx=>q.e lc b ρ λy=>bind (cmpD op x y) λd=>bind (asB d) k
  | _=>bad
 eq e ρ _ k h:=by
  split
  ·simp only [h.e,bind_assoc]
  ·first
   | rfl
   | (rename_i hn;split;exact (hn _ _ _ _ rfl).elim;rfl)
noncomputable def fnIs (Γ:Gm) (x:Str) (p:Nat->Nat->Bool):Bool:=match Γ.gl.lookup x with
 | some (.fn i n)=>p i n
 | _=>false
theorem fnIs_ok {Γ:Gm} {x:Str} {p:Nat->Nat->Bool} (h:fnIs Γ x p=true):∃ i n,Γ.gl.lookup x=some (.fn i n)/\p i n=true:=by
 unfold fnIs at h
 split at h
 ·rename_i i n e;exact ⟨i,n,e,h⟩
 ·cases h
noncomputable def rFn:RuE where
 is Γ lc e:=match e with
  | .Call (.Name x _) es [] _=>okName x&&glB lc.sc x&&es.all noStar&&!quiet lc&&fnIs Γ x λi n=>decide (es.length=n)&&decide (i∉Γ.qs)
  | _=>false
 run r Γ C lc e ρ:=match e with
  | .Call (.Name x _) es [] _=>(match Γ.gl.lookup x with
   | some (.fn i n)=>bind (argsE r lc es ρ) λds=>if ds.length=n then C i ds else bad
   | _=>bad)
  | _=>bad
 ok {T k r Γ C lc X} e R TX h hi:=by
  split at hi
  ·rename_i x p es pos
   simp only [Bool.and_eq_true,Bool.not_eq_true'] at hi
   obtain ⟨⟨⟨⟨c1,c2⟩,c3⟩,c4⟩,c5⟩:=hi
   obtain ⟨n1,n2,n3⟩:=okName_ok c1
   obtain ⟨i,n,e1,c6⟩:=fnIs_ok c5
   simp only [Bool.and_eq_true,decide_eq_true_eq] at c6
   obtain ⟨a,fd,ps,f1,f2,f3,f4,f5⟩:=(TX.fn x i n e1 c6.2).ex
   have F:FnOk X.prog X.w X.K X.mg X.base (CXd X.prog X.w X.K) k a fd ps (spX X.K T.cl n (C i)):=by rw [h.prog,h.w,h.K,h.mg,h.base];exact f2
   have hk:PySem.W.keepIn X.K (.ref a)=true:=by rw [h.K];exact f4
   have hb:Binds X.K fd ps []:=by rw [h.K];exact f5
   have hm:X.mg x=some (.ref a):=by rw [h.mg];exact f3
   show PE X _ (tD X.K T.cl (xOf X) λρ=>(match Γ.gl.lookup x with
    | some (.fn i n)=>bind (argsE r lc es ρ) λds=>if ds.length=n then C i ds else bad
    | _=>bad))
   rw [e1]
   match es,c3,c6 with
   | [],_,c6=>
    have:n=0:=c6.1.symm
    subst this
    exact pd_callX0 F (h.room0 c4) (h.gl c2) hm hk hb n1
   | e :: es,c3,_=>exact pd_callX F (h.room0 c4) (h.gl c2) hm hk hb (args_ok R h c3) n1 c3
  ·cases hi
 runK q Γ C lc e ρ _ k:=match e with
  | .Call (.Name x _) es [] _=>(match Γ.gl.lookup x with
   | some (.fn i n)=>argsK q lc es ρ λds=>if ds.length=n then bind (C i ds) k else bad
   | _=>bad)
  | _=>bad
 eq {r q Γ C lc} e ρ _ k h:=by
  split
  ·rename_i x p es pos
   cases Γ.gl.lookup x with
   | none=>rfl
   | some g=>cases g <;> first | rfl | simp only [args_eq h,bind_assoc,bind_ite,bind_bad]
  ·first
   | rfl
   | (rename_i hn;split;exact (hn _ _ _ _ rfl).elim;rfl)
noncomputable def bltIs (x:Str) (ld:Bool) (Γ:Gm) (lc:Lc) (e:Expr):Bool:=match e with
 | .Call (.Name f _) (a :: es) [] _=>decide (f=x)&&(a :: es).all noStar&&(Γ.gl.lookup x).isNone&&glB lc.sc x&&!(ld&&quiet lc)
 | _=>false
noncomputable def bltE (g:List D->M D) (r:Ev) (lc:Lc) (e:Expr) (ρ:Env):M D:=match e with
 | .Call (.Name _ _) (a :: es) [] _=>bind (argsE r lc (a :: es) ρ) g
 | _=>bad
noncomputable def bltK (g:List D->M D) (q:EvK) (lc:Lc) (e:Expr) (ρ:Env) {α:Type} (k:D->M α):M α:=match e with
 | .Call (.Name _ _) (a :: es) [] _=>argsK q lc (a :: es) ρ λds=>bind (g ds) k
 | _=>bad
theorem blt_eq (g:List D->M D) {r:Ev} {q:EvK} {lc:Lc} (e:Expr) (ρ:Env) {α:Type} (k:D->M α) (h:EqK r q):bltK g q lc e ρ k=bind (bltE g r lc e ρ) k:=by
 unfold bltK bltE
 split
 ·simp only [args_eq h,bind_assoc]
 ·first
  | rfl
  | (rename_i hn;split;exact (hn _ _ _ _ _ rfl).elim;rfl)
theorem bltIs_ok {x:Str} {ld:Bool} {Γ:Gm} {lc:Lc} {e:Expr} (h:bltIs x ld Γ lc e=true):∃ p a es pos,e=.Call (.Name x p) (a :: es) [] pos/\(a :: es).all noStar=true/\Γ.gl.lookup x=none/\glB lc.sc x=true/\(ld=true->quiet lc=false):=by
 unfold bltIs at h
 split at h
 ·simp only [Bool.and_eq_true,decide_eq_true_eq,Option.isNone_iff_eq_none,Bool.not_eq_true'] at h
  obtain ⟨⟨⟨⟨rfl,h2⟩,h3⟩,h4⟩,h5⟩:=h
  refine ⟨_,_,_,_,rfl,h2,h3,h4,λz=>?_⟩
  rw [z] at h5
  simpa using h5
 ·cases h
noncomputable def rBf (x:Str) (id:String) (ld:Bool) (g:List D->M D) (hx:x∈bnames/\x ≠ "__name__"/\(x==("__debug__" : Str))=false) (hv:bootBuiltins x=some (.builtin id))
  (hc:∀ {T:Tx} {k:Nat} {lc:Lc} {X:Cx} {cl:Nat->Addr} {xe:Addr->Hp->Prop},CxOk T k lc X->(ld=true->X.calm=true)->CallR X (.builtin id) (rPs X.K cl xe g)):RuE where
 is:=bltIs x ld
 run r _ _ lc e ρ:=bltE g r lc e ρ
 ok {T k r Γ C lc X} e R TX h hi:=by
  obtain ⟨p,a,es,pos,rfl,h1,h2,h3,h4⟩:=bltIs_ok hi
  exact pd_callB (hc h λz=>h.calm (h4 z)) (h.gl h3) (TX.none h hx.1 h2) hv (args_ok R h h1) hx.2.1 hx.2.2 h1
 runK q _ _ lc e ρ _ k:=bltK g q lc e ρ k
 eq e ρ _ k h:=blt_eq g e ρ k h
noncomputable def rBt (x:Str) (id:String) (ld:Bool) (g:List D->M D) (hx:x∈bnames/\x ≠ "__name__"/\(x==("__debug__" : Str))=false) (hv:bootBuiltins x=some (.type id))
  (hc:∀ {T:Tx} {k:Nat} {lc:Lc} {X:Cx} {cl:Nat->Addr} {xe:Addr->Hp->Prop},CxOk T k lc X->(ld=true->X.calm=true)->CallR X (.type id) (rPs X.K cl xe g)):RuE where
 is:=bltIs x ld
 run r _ _ lc e ρ:=bltE g r lc e ρ
 ok {T k r Γ C lc X} e R TX h hi:=by
  obtain ⟨p,a,es,pos,rfl,h1,h2,h3,h4⟩:=bltIs_ok hi
  exact pd_callT (hc h λz=>h.calm (h4 z)) (h.gl h3) (TX.none h hx.1 h2) hv (args_ok R h h1) hx.2.1 hx.2.2 h1
 runK q _ _ lc e ρ _ k:=bltK g q lc e ρ k
 eq e ρ _ k h:=blt_eq g e ρ k h
noncomputable def rLen:RuE:=rBf "len" "len" false (one lenD) (by decide) PySem.boot_len λ_ _=>c_len
noncomputable def rTuple:RuE:=rBt "tuple" "tuple" false (one tupleD) (by decide) rfl λ_ _=>c_tuple
noncomputable def rList:RuE:=rBt "list" "list" false (one listD) (by decide) rfl λ_ _=>c_list
noncomputable def rRepr:RuE:=rBf "repr" "repr" false (one reprD) (by decide) rfl λh _=>c_repr h.room.gd h.u64
noncomputable def rSorted:RuE:=rBf "sorted" "sorted" false (one sortedD) (by decide) rfl λ_ _=>c_sorted
noncomputable def rgIs (n:Nat) (Γ:Gm) (lc:Lc) (e:Expr):Bool:=match e with
 | .Call (.Name f _) es [] _=>decide (f = "range")&&decide (es.length=n)&&es.all noStar&&(Γ.gl.lookup ("range" : Str)).isNone&&glB lc.sc "range"
 | _=>false
noncomputable def rgE (n:Nat) (r:Ev) (lc:Lc) (e:Expr) (ρ:Env):M (Src×Nat):=match e with
 | .Call (.Name _ _) es [] _=>bind (argsE r lc es ρ) λds=>if ds.length=n then srcRg ds else bad
 | _=>bad
noncomputable def rgK (n:Nat) (q:EvK) (lc:Lc) (e:Expr) (ρ:Env) {α:Type} (k:Src×Nat->M α):M α:=match e with
 | .Call (.Name _ _) es [] _=>argsK q lc es ρ λds=>if ds.length=n then bind (srcRg ds) k else bad
 | _=>bad
theorem rg_eq (n:Nat) {r:Ev} {q:EvK} {lc:Lc} (e:Expr) (ρ:Env) {α:Type} (k:Src×Nat->M α) (h:EqK r q):rgK n q lc e ρ k=bind (rgE n r lc e ρ) k:=by
 unfold rgK rgE
 split
 ·simp only [args_eq h,bind_assoc,bind_ite,bind_bad]
 ·first
  | rfl
  | (rename_i hn;split;exact (hn _ _ _ _ rfl).elim;rfl)
noncomputable def iRange1:RuI where
 is Γ lc _ e:=rgIs 1 Γ lc e
 run r _ _ lc e ρ:=rgE 1 r lc e ρ
 ok {T k r Γ C lc X} g e R TX h hi:=by
  unfold rgIs at hi
  split at hi
  ·rename_i f p es pos
   simp only [Bool.and_eq_true,decide_eq_true_eq,Option.isNone_iff_eq_none] at hi
   obtain ⟨⟨⟨⟨rfl,h1⟩,h2⟩,h3⟩,h4⟩:=hi
   match es,h1,h2 with
   | [a],_,h2=>exact pit_range1 (h.gl h4) (TX.none h (by decide) h3) (args_ok R h h2) (by simpa using h2)
  ·cases hi
 runK q _ _ lc e ρ _ k:=rgK 1 q lc e ρ k
 eq e ρ _ k h:=rg_eq 1 e ρ k h
noncomputable def iSeq:RuI where
 is _ _ _ _:=true
 run r _ _ lc e ρ:=bind (r.e lc e ρ) srcD
 ok g e R TX h hi:=pit_seq (R.ex h e)
 runK q _ _ lc e ρ _ k:=q.e lc e ρ λd=>bind (srcD d) k
 eq e ρ _ k h:=by simp only [h.e,bind_assoc]
noncomputable def relabS (scope sc:Scope):Scope:={ scope with names:=scope.names.map λ(n,k)=>if (k==.free&&sc.kind==.function&&sc.names.lookup n==some .cell) then (n,NameKind.cell) else (n,k) }
theorem relabS_ok (scope:Scope) (env:PySem.Env):relabel scope env=relabS scope env.scope:=rfl
noncomputable def frees (scope:Scope):List Str:=(scope.names.filter λy=>y.2==.free).map (·.1)
noncomputable def compOkL (lc:Lc) (scope:Scope) (xs:List Str):Bool:=
 decide (scope.kind=.function)&&scope.names.all (λy=>decide (y.2≠.cell))&&scope.names.all (λy=>decide (y.2=.local->scope.names.lookup y.1=some .local))
  && scope.names.all (λy=>decide (y.2=.free->scope.names.lookup y.1=some .free/\(lc.sc.names.lookup y.1=some .cell\/lc.sc.names.lookup y.1=some .free)))
  && (frees scope).all (λz=>decide (scope.names.lookup z=some .free))&&decide ((xs++frees scope).Nodup)&&xs.all (λx=>decide (scope.names.lookup x=some .local))&&!quiet lc
theorem mapO_len {α β:Type} {f:α->Option β}:∀ {xs:List α} {ys:List β},mapO f xs=some ys->ys.length=xs.length
 | [],_,e=>by cases e;rfl
 | x :: xs,ys,e=>by
  simp only [mapO] at e
  cases e1:f x with
  | none=>rw [e1] at e;cases e
  | some y=>
   cases e2:mapO f xs with
   | none=>rw [e1,e2] at e;cases e
   | some ys'=>rw [e1,e2] at e;cases e;simp [mapO_len e2]
theorem mapO_get {α β:Type} {f:α->Option β}:∀ {xs:List α} {ys:List β} {j:Nat} {y:β},mapO f xs=some ys->ys[j]?=some y->∃ x,xs[j]?=some x/\f x=some y
 | [],_,_,_,e,h=>by cases e;simp at h
 | x :: xs,ys,j,y,e,h=>by
  simp only [mapO] at e
  cases e1:f x with
  | none=>rw [e1] at e;cases e
  | some z=>
   cases e2:mapO f xs with
   | none=>rw [e1,e2] at e;cases e
   | some ys'=>
    rw [e1,e2] at e;cases e
    cases j with
    | zero=>simp at h;subst h;exact ⟨x,rfl,e1⟩
    | succ j=>simpa using mapO_get (j:=j) (y:=y) e2 (by simpa using h)
noncomputable def lcCompL (lc:Lc) (scope:Scope) (xs:List Str):Lc:=⟨xs++frees scope,relabS scope lc.sc,false,[]⟩
noncomputable def testsE (r:Ev) (lc:Lc) (ifs:List Expr) (ρ:Env):M Bool:=match ifs with
 | []=>ret true
 | [c]=>r.t lc c ρ
 | _=>bad
noncomputable def testsK (q:EvK) (lc:Lc) (ifs:List Expr) (ρ:Env):M Bool:=match ifs with
 | []=>ret true
 | [c]=>q.t lc c ρ ret
 | _=>bad
theorem tests_eq {r:Ev} {q:EvK} {lc:Lc} (h:EqK r q) (ifs:List Expr) (ρ:Env):testsK q lc ifs ρ=testsE r lc ifs ρ:=by
 match ifs with
 | []=>rfl
 | [c]=>simp only [testsK,testsE,h.t,bind_id]
 | _ :: _ :: _=>rfl
section
variable {T:Tx} {k:Nat} {r:Ev} {q:EvK} {Γ:Gm} {C:Cf} {lc:Lc} {X:Cx}
theorem tests_ok (R:EvOk T k r) (h:CxOk T k lc X) {ifs:List Expr}:PTL X ifs (tBo X.K T.cl (xOf X) (testsE r lc ifs)):=by
 match ifs with
 | []=>exact ptl_noneD
 | [c]=>exact ptl_one (R.tx h c)
 | _ :: _ :: _=>exact λ_ _ _ _ _ _ ⟨_,_,_,_,_,p⟩=>p.elim
theorem comp_text (h:CxOk T k lc X) {scope:Scope} {xs:List Str} {caps:List Nat} (hc:compOkL lc scope xs=true) (hm:mapO (idxOf lc.N) (frees scope)=some caps):CompText X.N X.env (xs++frees scope) xs.length caps scope/\(xs++frees scope).Nodup/\(∀ x∈xs,scope.names.lookup x=some .local)/\quiet lc=false/\scope.kind=.function:=by
 simp only [compOkL,Bool.and_eq_true,decide_eq_true_eq,List.all_eq_true,Bool.not_eq_true'] at hc
 obtain ⟨⟨⟨⟨⟨⟨⟨h1,h2⟩,h3⟩,h4⟩,h5⟩,h6⟩,h7⟩,h8⟩:=hc
 refine ⟨⟨h1,h2,h3,λy hy hk=>?_,λj i e=>?_,?_⟩,h6,h7,h8,h1⟩
 ·rw [h.sc];exact h4 y hy hk
 ·obtain ⟨z,e1,e2⟩:=mapO_get hm e
  refine ⟨z,by rw [h.N];exact idxOf_ok e2,?_,h5 z (List.mem_of_getElem? e1)⟩
  rw [List.getElem?_append_right (by omega)]
  simpa using e1
 ·simp [mapO_len hm,Nat.add_comm]
theorem comp_cx (h:CxOk T k lc X) (hq:quiet lc=false) {scope:Scope} {xs:List Str} (hk:scope.kind=.function) (hn:(xs++frees scope).Nodup) (pins:List (Addr×Obj)) (C:Addr) (fp:List Addr) (s:Shared) (H:Hp):CxOk T k (lcCompL lc scope xs) (cxComp X pins (xs++frees scope) scope C fp s H):=
 ⟨h.prog,h.w,h.K,h.mg,h.base,rfl,hn,by show relabel scope X.env=relabS scope lc.sc;rw [relabS_ok,h.sc],λ_=>h.calm hq,(by have:=h.room;rw [hq] at this;exact this),PassesOwn.never,rfl,hk,λz=>Bool.noConfusion z⟩
end
noncomputable def compM (src:Src) (t:D->M Bool) (f:D->M D):Nat->Nat->List D->M (List D)
 | 0,_,_=>bad
 | m+1,i,es=>λS=>match src i S with
  | none=>.bad
  | some none=>.ok es S
  | some (some d)=>bind (t d) (λb=>if b=true then bind (f d) (λy=>if es.length<sizeLine then compM src t f m (i+1) (es++[y]) else bad) else compM src t f m (i+1) es) S
theorem compM_eq (src:Src) (t:Env->M Bool) (f:Env->M D) (mk:D->Env):∀ m i es,compD src t f mk m i es=compM src (λd=>t (mk d)) (λd=>f (mk d)) m i es
 | 0,_,_=>rfl
 | m+1,i,es=>by
  funext S
  simp only [compD,compM,compM_eq src t f mk m]
  all_goals (cases src i S with
  | none=>rfl
  | some o=>cases o <;> rfl)
noncomputable def comp1E (r:Ev) (lc:Lc) (elt:Expr) (x:Str) (px:Pos) (iter:Expr) (ifs:List Expr) (scope:Scope) (ρ:Env):M (List D):=match mapO (idxOf lc.N) (frees scope) with
 | some caps=>nx (compL caps (r.i lc (.Name x px) iter) (testsE r (lcCompL lc scope [x]) ifs) (r.e (lcCompL lc scope [x]) elt) ρ)
 | none=>bad
noncomputable def comp1K (q:EvK) (lc:Lc) (elt:Expr) (x:Str) (px:Pos) (iter:Expr) (ifs:List Expr) (scope:Scope) (ρ:Env) {α:Type} (k:List D->M α):M α:=match mapO (idxOf lc.N) (frees scope) with
 | some caps=>bind (nx (q.i lc (.Name x px) iter ρ λsm=>compM sm.1 (λd=>testsK q (lcCompL lc scope [x]) ifs (some d :: capD caps ρ)) (λd=>q.e (lcCompL lc scope [x]) elt (some d :: capD caps ρ) ret) sm.2 0 [])) k
 | none=>bad
theorem comp1_eq {r:Ev} {q:EvK} {lc:Lc} (h:EqK r q) (elt:Expr) (x:Str) (px:Pos) (iter:Expr) (ifs:List Expr) (scope:Scope) (ρ:Env) {α:Type} (k:List D->M α):comp1K q lc elt x px iter ifs scope ρ k=bind (comp1E r lc elt x px iter ifs scope ρ) k:=by
 unfold comp1K comp1E
 cases mapO (idxOf lc.N) (frees scope) with
 | none=>rfl
 | some caps=>simp only [h.i,h.e,bind_id,tests_eq h,compL,compM_eq]
theorem comp1_ok {T:Tx} {k:Nat} {r:Ev} {lc:Lc} {X:Cx} (R:EvOk T k r) (h:CxOk T k lc X) {elt:Expr} {x:Str} {px pos:Pos} {iter:Expr} {ifs:List Expr} {scope:Scope} (hc:compOkL lc scope [x]=true) (hn:noSet iter=true) :
  PE X (.ListComp elt [⟨.Name x px,iter,ifs,0⟩] scope pos) (tD X.K T.cl (xOf X) λρ=>bind (comp1E r lc elt x px iter ifs scope ρ) λds=>ret (.lst ds)):=by
 unfold comp1E
 cases hm:mapO (idxOf lc.N) (frees scope) with
 | none=>exact pd_bad
 | some caps=>
  obtain ⟨t1,t2,t3,t4,t5⟩:=comp_text h hc hm
  refine newl_nx (pd_compP t1 (h.calm t4) t2 rfl (t3 x (by simp)) (PI.x0 (R.ix h _ _)) (λpins C fp s H=>?_) (λpins C fp s H=>?_) hn)
  ·exact PTL.x0 (tests_ok R (comp_cx h t4 t5 t2 pins C fp s H))
  ·exact PE.x0 (R.ex (comp_cx h t4 t5 t2 pins C fp s H) elt)
noncomputable def rComp1:RuE where
 is _ lc e:=match e with
  | .ListComp _ [⟨.Name x _,iter,_,0⟩] scope _=>compOkL lc scope [x]&&noSet iter
  | _=>false
 run r _ _ lc e ρ:=match e with
  | .ListComp elt [⟨.Name x px,iter,ifs,0⟩] scope _=>bind (comp1E r lc elt x px iter ifs scope ρ) λds=>ret (.lst ds)
  | _=>bad
 ok e R TX h hi:=by
  split at hi
  ·rw [Bool.and_eq_true] at hi
   exact comp1_ok R h hi.1 hi.2
  ·cases hi
 runK q _ _ lc e ρ _ k:=match e with
  | .ListComp elt [⟨.Name x px,iter,ifs,0⟩] scope _=>comp1K q lc elt x px iter ifs scope ρ λds=>k (.lst ds)
  | _=>bad
 eq e ρ _ k h:=by
  split
  ·simp only [comp1_eq h,bind_assoc,bind_ret]
  ·first
   | rfl
   | (rename_i hn;split;exact (hn _ _ _ _ _ _ _ rfl).elim;rfl)
noncomputable def mtIs (m:Str) (e:Expr):Bool:=match e with
 | .Call (.Attribute o n apos) (a :: es) [] cpos=>decide (n=m)&&noSuper o&&(a :: es).all noStar&&fewArgs (a :: es)&&(apos.endLine==cpos.line)
 | _=>false
theorem mtIs_ok {m:Str} {e:Expr} (h:mtIs m e=true):∃ o apos a es cpos,e=.Call (.Attribute o m apos) (a :: es) [] cpos/\noSuper o=true/\(a :: es).all noStar=true/\fewArgs (a :: es)=true/\(apos.endLine==cpos.line)=true:=by
 unfold mtIs at h
 split at h
 ·simp only [Bool.and_eq_true,decide_eq_true_eq] at h
  obtain ⟨⟨⟨⟨rfl,h1⟩,h2⟩,h3⟩,h4⟩:=h
  exact ⟨_,_,_,_,_,rfl,h1,h2,h3,h4⟩
 ·cases h
noncomputable def mtE {α:Type} (g:D->M α) (op:D->List D->M D) (r:Ev) (lc:Lc) (e:Expr) (ρ:Env):M D:=match e with
 | .Call (.Attribute o _ _) (a :: es) [] _=>bind (r.e lc o ρ) λx=>bind (g x) λ_=>bind (argsE r lc (a :: es) ρ) λds=>op x ds
 | _=>bad
noncomputable def mtK {α:Type} (g:D->M α) (op:D->List D->M D) (q:EvK) (lc:Lc) (e:Expr) (ρ:Env) {β:Type} (k:D->M β):M β:=match e with
 | .Call (.Attribute o _ _) (a :: es) [] _=>q.e lc o ρ λx=>bind (g x) λ_=>argsK q lc (a :: es) ρ λds=>bind (op x ds) k
 | _=>bad
theorem mt_eq {α:Type} (g:D->M α) (op:D->List D->M D) {r:Ev} {q:EvK} {lc:Lc} (e:Expr) (ρ:Env) {β:Type} (k:D->M β) (h:EqK r q):mtK g op q lc e ρ k=bind (mtE g op r lc e ρ) k:=by
 unfold mtK mtE
 split
 ·simp only [h.e,args_eq h,bind_assoc]
 ·first
  | rfl
  | (rename_i hn;split;exact (hn _ _ _ _ _ _ rfl).elim;rfl)
noncomputable def rMt {α:Type} (m:Str) (g:D->M α) (op:D->List D->M D)
  (ok:∀ {T:Tx} {k:Nat} {lc:Lc} {X:Cx} {xe:Addr->Hp->Prop} {o a:Expr} {es:List Expr} {apos cpos:Pos} {f:Env->M D} {fs:Env->M (List D)},CxOk T k lc X->PE X o (tD X.K T.cl xe f)->PA X (a :: es) (tDs X.K T.cl xe fs)->noSuper o=true->(a :: es).all noStar=true->fewArgs (a :: es)=true->(apos.endLine==cpos.line)=true->PE X (.Call (.Attribute o m apos) (a :: es) [] cpos) (tD X.K T.cl xe λρ=>bind (f ρ) λx=>bind (g x) λ_=>bind (fs ρ) λds=>op x ds)):RuE where
 is _ _ e:=mtIs m e
 run r _ _ lc e ρ:=mtE g op r lc e ρ
 ok {T k r Γ C lc X} e R TX h hi:=by
  obtain ⟨o,apos,a,es,cpos,rfl,c1,c2,c3,c4⟩:=mtIs_ok hi
  exact ok h (R.ex h o) (args_ok R h c2) c1 c2 c3 c4
 runK q _ _ lc e ρ _ k:=mtK g op q lc e ρ k
 eq e ρ _ k h:=mt_eq g op e ρ k h
noncomputable def rIndex:RuE:=rMt "index" sqK ixOfD λh ho ha c1 c2 c3 c4=>pd_index2 h.u80 ho ha c1 c2 c3 c4
noncomputable def rPop:RuE:=rMt "pop" lstOf popD λ_ ho ha c1 c2 c3 c4=>pd_meth PySem.F.plainAttrs_list PySem.F.slot_list_pop PySem.F.type_list_pop mt_popAt looks_list does_pop ho ha c1 c2 c3 c4
noncomputable def rGet:RuE:=rMt "get" dctOf getDD λh ho ha c1 c2 c3 c4=>pd_meth PySem.F.plainAttrs_dict PySem.F.slot_dict_get PySem.F.type_dict_get (mt_dget2 h.u1) looks_dict does_get ho ha c1 c2 c3 c4
end L3
end
section
set_option maxHeartbeats 1000000
namespace L3
open PySem PySem.Spec PyProof.Rows L2
noncomputable def sRet:RuS where
 is _ _ e:=match e with
  | .Return (some _) _=>true
  | _=>false
 run r _ _ lc e ρ:=match e with
  | .Return (some e) _=>bind (r.e lc e ρ) λd=>ret (.rt d)
  | _=>bad
 ok e R TX h hf hi:=by
  split at hi
  ·exact pds_ret (R.ex h _)
  ·cases hi
 runK q _ _ lc e ρ _ k:=match e with
  | .Return (some e) _=>q.e lc e ρ λd=>k (.rt d)
  | _=>bad
 eq e ρ _ k h:=by
  split
  ·simp only [h.e,bind_assoc,bind_ret]
  ·first
   | rfl
   | (rename_i hn;split;exact (hn _ _ rfl).elim;rfl)
noncomputable def sRetL:RuS where
 is _ lc e:=match e with
  | .Return (some (.List es _)) _=>decide (("return" : Str)∈lc.mu)&&es.all noStar
  | _=>false
 run r _ _ lc e ρ:=match e with
  | .Return (some (.List es _)) _=>bind (bind (argsE r lc es ρ) newL) λd=>ret (.rt d)
  | _=>bad
 ok e R TX h hf hi:=by
  split at hi
  ·rw [Bool.and_eq_true] at hi
   exact pds_ret (pd_lstP (args_ok R h hi.2))
  ·cases hi
 runK q _ _ lc e ρ _ k:=match e with
  | .Return (some (.List es _)) _=>argsK q lc es ρ λds=>bind (newL ds) λd=>k (.rt d)
  | _=>bad
 eq e ρ _ k h:=by
  split
  ·simp only [args_eq h,bind_assoc,bind_ret]
  ·first
   | rfl
   | (rename_i hn;split;exact (hn _ _ _ rfl).elim;rfl)
noncomputable def sIf:RuS where
 is _ _ e:=match e with
  | .If _ _ _ _=>true
  | _=>false
 run r _ _ lc e ρ:=match e with
  | .If c a b _=>bind (r.t lc c ρ) λq=>if q=true then blkE r lc a ρ else blkE r lc b ρ
  | _=>bad
 ok e R TX h hf hi:=by
  cases e with
  | If c a b p=>exact pds_if (R.tx h _) (blk_ok R h hf) (blk_ok R h hf)
  | _=>exact ps_bad
 runK q _ _ lc e ρ _ k:=match e with
  | .If c a b _=>q.t lc c ρ λz=>if z=true then blkK q lc a ρ k else blkK q lc b ρ k
  | _=>bad
 eq e ρ _ k h:=by
  cases e with
  | If c a b p=>simp only [h.t,blk_eq h,bind_assoc,bind_ite]
  | _=>rfl
noncomputable def nmIs (lc:Lc) (x:Str):Bool:=(idxOf lc.N x).isSome&&locB lc.sc x
noncomputable def putM (lc:Lc) (x:Str) (ρ:Env) (d:D):M Fl:=match idxOf lc.N x with
 | some i=>ret (.nx (ρ.set i (some d)))
 | none=>bad
noncomputable def putK (lc:Lc) (x:Str) (ρ:Env) (d:D) {α:Type} (k:Fl->M α):M α:=match idxOf lc.N x with
 | some i=>k (.nx (ρ.set i (some d)))
 | none=>bad
theorem put_eq (lc:Lc) (x:Str) (ρ:Env) (d:D) {α:Type} (k:Fl->M α):bind (putM lc x ρ d) k=putK lc x ρ d k:=by
 unfold putM putK
 cases idxOf lc.N x <;> rfl
theorem set_ok {T:Tx} {k:Nat} {lc:Lc} {X:Cx} {xe:Addr->Hp->Prop} {x:Str} {p pos:Pos} {e:Expr} {f:Env->M D} (h:CxOk T k lc X) (hf:lc.fr=true) (hn:nmIs lc x=true) (he:PE X e (tD X.K T.cl xe f)) (hc:noComp e=true):PS X (.Assign [.Name x p] e pos) (sD X.K T.cl xe λρ=>bind (f ρ) (putM lc x ρ)):=by
 rw [nmIs,Bool.and_eq_true,Option.isSome_iff_exists] at hn
 obtain ⟨⟨i,hi⟩,hl⟩:=hn
 have:=pds_set (pos:=pos) (pos':=p) h.nd' (by rw [h.N];exact idxOf_ok hi) (by rw [h.sc];exact locB_ok hl) he hc (.inl (h.fn1 hf))
 have e:putM lc x=λρ d=>ret (.nx (ρ.set i (some d))):=by funext ρ d;simp only [putM,hi]
 rw [e];exact this
noncomputable def sSet:RuS where
 is _ lc e:=match e with
  | .Assign [.Name x _] e _=>nmIs lc x&&noComp e
  | _=>false
 run r _ _ lc e ρ:=match e with
  | .Assign [.Name x _] e _=>bind (r.e lc e ρ) (putM lc x ρ)
  | _=>bad
 ok e R TX h hf hi:=by
  split at hi
  ·rw [Bool.and_eq_true] at hi
   exact set_ok h hf hi.1 (R.ex h _) hi.2
  ·cases hi
 runK q _ _ lc e ρ _ k:=match e with
  | .Assign [.Name x _] e _=>q.e lc e ρ λd=>putK lc x ρ d k
  | _=>bad
 eq e ρ _ k h:=by
  split
  ·simp only [h.e,bind_assoc,put_eq]
  ·first
   | rfl
   | (rename_i hn;split;exact (hn _ _ _ _ rfl).elim;rfl)
noncomputable def sSetL:RuS where
 is _ lc e:=match e with
  | .Assign [.Name x _] (.List es _) _=>nmIs lc x&&decide (x∈lc.mu)&&es.all noStar
  | _=>false
 run r _ _ lc e ρ:=match e with
  | .Assign [.Name x _] (.List es _) _=>bind (bind (argsE r lc es ρ) newL) (putM lc x ρ)
  | _=>bad
 ok e R TX h hf hi:=by
  split at hi
  ·rw [Bool.and_eq_true,Bool.and_eq_true] at hi
   exact set_ok h hf hi.1.1 (pd_lstP (args_ok R h hi.2)) rfl
  ·cases hi
 runK q _ _ lc e ρ _ k:=match e with
  | .Assign [.Name x _] (.List es _) _=>argsK q lc es ρ λds=>bind (newL ds) λd=>putK lc x ρ d k
  | _=>bad
 eq e ρ _ k h:=by
  split
  ·simp only [args_eq h,bind_assoc,put_eq]
  ·first
   | rfl
   | (rename_i hn;split;exact (hn _ _ _ _ _ rfl).elim;rfl)
noncomputable def namesE (lc:Lc):List Expr->Option (List Nat)
 | []=>some []
 | .Name x _ :: ts=>if locB lc.sc x=true then (match idxOf lc.N x,namesE lc ts with
   | some i,some is=>some (i :: is)
   | _,_=>none) else none
 | _=>none
theorem names_ok {T:Tx} {k:Nat} {lc:Lc} {X:Cx} (h:CxOk T k lc X) (hf:lc.fr=true):∀ {ts:List Expr} {is:List Nat},namesE lc ts=some is->NamesAt X ts is
 | [],is,e=>by cases e;exact True.intro
 | t :: ts,is,e=>by
  cases t with
  | Name x p=>
   simp only [namesE] at e
   by_cases hl:locB lc.sc x=true
   ·simp only [if_pos hl] at e
    cases e1:idxOf lc.N x with
    | none=>rw [e1] at e;cases e
    | some i=>
     cases e2:namesE lc ts with
     | none=>rw [e1,e2] at e;cases e
     | some is'=>
      rw [e1,e2] at e;cases e
      exact ⟨by rw [h.N];exact idxOf_ok e1,by rw [h.sc];exact locB_ok hl,.inl (h.fn1 hf),names_ok h hf e2⟩
   ·simp only [if_neg hl] at e;cases e
  | _=>simp only [namesE] at e;cases e
noncomputable def sItem:RuS where
 is _ _ e:=match e with
  | .Assign [.Subscript _ b _] e _=>noComp e&&noSlice b
  | _=>false
 run r _ _ lc e ρ:=match e with
  | .Assign [.Subscript a b _] e _=>bind (r.e lc e ρ) λv=>bind (r.e lc a ρ) λx=>bind (r.e lc b ρ) λy=>bind (setD x y v) λ_=>ret (.nx ρ)
  | _=>bad
 ok e R TX h hf hi:=by
  split at hi
  ·rw [Bool.and_eq_true] at hi
   exact pds_item h.u1 (R.ex h _) (R.ex h _) (R.ex h _) hi.1 hi.2
  ·cases hi
 runK q _ _ lc e ρ _ k:=match e with
  | .Assign [.Subscript a b _] e _=>q.e lc e ρ λv=>q.e lc a ρ λx=>q.e lc b ρ λy=>bind (setD x y v) λ_=>k (.nx ρ)
  | _=>bad
 eq e ρ _ k h:=by
  split
  ·simp only [h.e,bind_assoc,bind_ret]
  ·first
   | rfl
   | (rename_i hn;split;exact (hn _ _ _ _ _ rfl).elim;rfl)
noncomputable def tgE (lc:Lc) (tgt:Expr):Option (D->Env->Option Env):=match tgt with
 | .Name x _=>if locB lc.sc x=true then (idxOf lc.N x).map λi=>λd ρ=>some (ρ.set i (some d)) else none
 | .Tuple ts _ _=>(namesE lc ts).map tgTup
 | _=>none
theorem tg_ok {T:Tx} {k:Nat} {lc:Lc} {X:Cx} (h:CxOk T k lc X) (hf:lc.fr=true) (hq:quiet lc=false) {tgt:Expr} {tg:D->Env->Option Env} (e:tgE lc tgt=some tg):PG X tgt (tgOk X.K T.cl tg):=by
 unfold tgE at e
 split at e
 ·rename_i x p
  by_cases hl:locB lc.sc x=true
  ·simp only [if_pos hl] at e
   cases e1:idxOf lc.N x with
   | none=>rw [e1] at e;cases e
   | some i=>rw [e1] at e;cases e;exact pg_nameD h.nd' (by rw [h.N];exact idxOf_ok e1) (by rw [h.sc];exact locB_ok hl) (.inl (h.fn1 hf))
  ·simp only [if_neg hl] at e;cases e
 ·rename_i ts n p
  cases e1:namesE lc ts with
  | none=>rw [e1] at e;cases e
  | some is=>rw [e1] at e;cases e;exact pg_tupD (h.calm hq) h.nd' (names_ok h hf e1)
 ·cases e
noncomputable def sFor:RuS where
 is _ lc e:=match e with
  | .For _ iter _ [] _=>noSet iter&&!quiet lc
  | _=>false
 run r _ _ lc e ρ:=match e with
  | .For tgt iter body [] _=>(match tgE lc tgt with
   | some tg=>bind (r.i lc tgt iter ρ) λp=>forD p.1 tg (blkE r lc body) p.2 0 ρ
   | none=>bad)
  | _=>bad
 ok {T k r Γ C lc X} e R TX h hf hi:=by
  split at hi
  ·rename_i tgt iter body pos
   simp only [Bool.and_eq_true,Bool.not_eq_true'] at hi
   show PS X _ (sD X.K T.cl (xOf X) λρ=>(match tgE lc tgt with
    | some tg=>bind (r.i lc tgt iter ρ) λp=>forD p.1 tg (blkE r lc body) p.2 0 ρ
    | none=>bad))
   cases e:tgE lc tgt with
   | none=>exact ps_bad
   | some tg=>exact pds_for h.po (h.calm hi.2) (R.ix h _ _) (tg_ok h hf hi.2 e) (blk_ok R h hf) hi.1
  ·cases hi
 runK q _ _ lc e ρ _ k:=match e with
  | .For tgt iter body [] _=>(match tgE lc tgt with
   | some tg=>q.i lc tgt iter ρ λp=>bind (forD p.1 tg (λρ'=>blkK q lc body ρ' ret) p.2 0 ρ) k
   | none=>bad)
  | _=>bad
 eq {r q Γ C lc} e ρ _ k h:=by
  split
  ·rename_i tgt iter body pos
   cases tgE lc tgt with
   | none=>rfl
   | some tg=>
    have:(λρ'=>blkK q lc body ρ' ret)=blkE r lc body:=funext λρ'=>by rw [blk_eq h,bind_id]
    simp only [h.i,bind_assoc,this]
  ·first
   | rfl
   | (rename_i hn;split;exact (hn _ _ _ _ rfl).elim;rfl)
end L3
namespace L3
open PySem PySem.Spec PyProof.Rows L2
end L3
end

section
set_option maxHeartbeats 1000000
namespace L3
open PySem PySem.Spec PyProof.Rows L2
structure Fd where
 ps:List Str
 N:List Str
 sc:Scope
 body:List Stmt
 mu:List Str
noncomputable def startD (N:List Str) (ds:List D):Env:=ds.map some++List.replicate (N.length-ds.length) none
noncomputable def endD (fl:Fl):M D:=match fl with
 | .rt d=>ret d
 | .nx _=>ret .non
 | _=>bad
noncomputable abbrev lcOf (fd:Fd):Lc:=⟨fd.N,fd.sc,true,fd.mu⟩
noncomputable def runs (Rs:Rules) (Γ:Gm) (Tb:List Fd):Nat->Nat->List D->M D
 | 0,_,_=>bad
 | k+1,i,ds=>match Tb[i]? with
  | none=>bad
  | some fd=>if ds.length=fd.ps.length then bind (blkE (ev Rs Γ (runs Rs Γ Tb k) 40) (lcOf fd) fd.body (startD fd.N ds)) endD else bad
structure FnTx (T:Tx) (x:Str) (fd:Fd):Prop where
 ex:∃ (f:Addr) (da:FuncData) (qual:Str) (st:Stmt),Fun T.K x qual st f da/\defBody st=fd.body/\defScope st=fd.sc/\FnScope fd.N fd.ps fd.sc/\Binds T.K da fd.ps []/\T.mg x=some (.ref f)
theorem start_ok {K:PySem.W.Frag} {μ:Mp} {H:Hp} {N:List Str} {ds:List D} {vs:List V} (r:RDs K μ H ds vs):EnvOk K μ H (startD N ds) (L2.start N vs):=by
 unfold startD L2.start
 refine ⟨by simp [r.length],λi d e=>?_⟩
 by_cases hi:i<ds.length
 ·rw [List.getElem?_append_left (by simpa using hi),List.getElem?_map] at e
  cases q:ds[i]? with
  | none=>rw [q] at e;cases e
  | some d'=>
   rw [q] at e;cases e
   obtain ⟨v,e1,r1⟩:=r.get q
   refine ⟨v,?_,r1⟩
   rw [List.getElem?_append_left (by rw [List.length_map,<- r.length];exact hi),List.getElem?_map,e1];rfl
 ·rw [List.getElem?_append_right (by simpa using Nat.le_of_not_lt hi),List.getElem?_replicate] at e
  split at e <;> cases e
section
variable {P:Program} {w:World} {K:PySem.W.Frag} {mg:Str->Option Value} {base:Heap}
theorem fun_ok {CX:CXT} {x qual:Str} {st:Stmt} {f:Addr} {fd:FuncData} {N ps:List Str} {k:Nat} {sp:Sp} (F:Fun K x qual st f fd) (S:FnScope N ps (defScope st)) (len:∀ vs H Q E,sp vs H Q E->vs.length=ps.length)
  (hbody:∀ (cdv:Value) (A:Around) (outer:List PySem.Env) (s:Shared) (H:Hp) (vs:List V) (Q:VK) (E:XK),Room CX.q k (A.deeper (envOfC qual (defScope st) s.heap.objs.size f cdv))->sp vs H Q E ->
   ∃ t,PSs (cxOf CX P w K mg base N qual (defScope st) f cdv A outer s H E) (defBody st) t/\t { nx:=λ_ H'=>Q .non H',rt:=Q } (start N vs) H):FnOk P w K mg base CX (k+1) f fd ps sp:=by
 obtain ⟨oc,od,kV,doc,pm,an,cdv,ct,osl,rfl,lk,hcd⟩:=F.ex
 exact fn_of lk hcd S len λA outer s H vs Q E hr hsp=>hbody cdv A outer s H vs Q E hr hsp
theorem Post.fly {α:Type} {cl:Nat->Addr} {N:List Str} {qual:Str} {scope:Scope} {f:Addr} {cd:Value} {A:Around} {outer:List PySem.Env} {s:Shared} {H0 H:Hp} {E:XK} {μ:Mp} {r:R α} {G:α->Sto->Mp->Hp->Prop} (p:Post K cl (xeOf E) μ H r G) :
  Post K cl (xOf (cxOf (CXd P w K) P w K mg base N qual scope f cd A outer s H0 E)) μ H r G:=by
 cases r with
 | ok a S=>exact p
 | bad=>exact p
 | exn n S=>
  intro μ' H' a l rp e pins σ s' C d tb I fx
  refine wp_leaving (X:=cxOf (CXd P w K) P w K mg base N qual scope f cd A outer s H0 E) I I.ok.frames rfl rfl fx λH2 s2 T I2 fx2 m2=>?_
  obtain ⟨l2,r2⟩:=rp.mv I.hok e fx.at_ m2
  exact ⟨a,C,d,some T,H2,rfl,I2.os,I2.bare,I2.base,I2.hok,fx2,p μ' H2 a (l.trans l2) r2 e⟩
end
theorem FnOk.unX {P:Program} {w:World} {K:PySem.W.Frag} {mg:Str->Option Value} {base:Heap} {k n:Nat} {f:Addr} {fd:FuncData} {ps:List Str} {cl:Nat->Addr} {run:List D->M D} (F:FnOk P w K mg base (CXd P w K) k f fd ps (spX K cl n run)):FnOk P w K mg base (CXq false) k f fd ps (spD K cl n run):=
 ⟨λvs H Q E h=>F.len vs H Q E0 h,λA outer s H args us vs Q E hr e0 hb r h=>codeAny_mono (F.run A outer s H args us vs Q E0 hr e0 hb r h) λres s' hq=>by
  cases res with
  | ok fl=>cases fl <;> exact hq
  | error e=>obtain ⟨_,_,_,_,_,_,_,_,_,_,_,z⟩:=hq;exact z⟩
section
variable {Rs:Rules} {T:Tx} {Γ:Gm} {Tb:List Fd} {k i:Nat} {x qual:Str} {st:Stmt} {f:Addr} {da:FuncData} {fd:Fd}
theorem runs_atX (TX:TxOk T Γ (k+3) (runs Rs Γ Tb k)) (hi:Tb[i]?=some fd) (F:Fun T.K x qual st f da) (h1:defBody st=fd.body) (h2:defScope st=fd.sc) (S:FnScope fd.N fd.ps fd.sc) (hq:quiet (lcOf fd)=false) :
  FnOk T.P T.w T.K T.mg T.base (CXd T.P T.w T.K) (k+4) f da fd.ps (spX T.K T.cl fd.ps.length (runs Rs Γ Tb (k+1) i)):=by
 have S':FnScope fd.N fd.ps (defScope st):=by rw [h2];exact S
 refine fun_ok (k:=k+3) F S' (λvs H Q E h=>h.1) λcdv A outer s H vs Q E hr hsp=>?_
 obtain ⟨hl,μ,S0,ds,rds,rp,p⟩:=hsp
 have cx:CxOk T (k+3) (lcOf fd) (cxOf (CXd T.P T.w T.K) T.P T.w T.K T.mg T.base fd.N qual (defScope st) f cdv A outer s H E):=⟨rfl,rfl,rfl,rfl,rfl,rfl,S.nd,h2,λ_=>rfl,by rw [hq];exact hr,λe s' z=>wpAny_leaving_again (SameStack.refl _) z,rfl,S.kind,λ_ _=>⟨rfl,rfl⟩⟩
 have R:=ev_ok (Rs:=Rs) TX 40
 refine ⟨_,by rw [h1];exact blk_ok R cx rfl,?_⟩
 refine ⟨μ,S0,startD fd.N ds,start_ok rds,rp,?_⟩
 have hd:ds.length=fd.ps.length:=by rw [rds.length];exact hl
 simp only [runs,hi,if_pos hd] at p
 refine Post.fly (p.bind.imp λfl S1 μ1 H1 l1 r1 p1=>?_)
 cases fl with
 | nx ρ=>exact λσ _=>p1 μ1 H1 (Lat.refl _ _) r1 _ .non
 | rt d=>exact λv rv=>p1 μ1 H1 (Lat.refl _ _) r1 v rv
 | bk ρ=>exact False.elim p1
 | ct ρ=>exact False.elim p1
theorem runs_atQ (TX:TxOk T Γ (k+3) (runs Rs Γ Tb k)) (hi:Tb[i]?=some fd) (F:Fun T.K x qual st f da) (h1:defBody st=fd.body) (h2:defScope st=fd.sc) (S:FnScope fd.N fd.ps fd.sc) (hq:quiet (lcOf fd)=true) :
  FnOk T.P T.w T.K T.mg T.base (CXq true) (k+4) f da fd.ps (spD T.K T.cl fd.ps.length (runs Rs Γ Tb (k+1) i)):=by
 have S':FnScope fd.N fd.ps (defScope st):=by rw [h2];exact S
 refine fun_ok (k:=k+3) F S' (λvs H Q E h=>h.1) λcdv A outer s H vs Q E hr hsp=>?_
 obtain ⟨hl,μ,S0,ds,rds,rp,p⟩:=hsp
 have cx:CxOk T (k+3) (lcOf fd) (cxOf (CXq true) T.P T.w T.K T.mg T.base fd.N qual (defScope st) f cdv A outer s H E).nox:=⟨rfl,rfl,rfl,rfl,rfl,rfl,S.nd,h2,λz=>(by rw [hq] at z;exact absurd z (by decide)),by rw [hq];exact hr,PassesOwn.never,rfl,S.kind,λ_ z=>(by rw [hq] at z;exact absurd z (by decide))⟩
 have R:=ev_ok (Rs:=Rs) TX 40
 refine ⟨_,by rw [h1];exact PSs.nox (PSs.x0 (blk_ok R cx rfl)),?_⟩
 refine ⟨μ,S0,startD fd.N ds,start_ok rds,rp,?_⟩
 have hd:ds.length=fd.ps.length:=by rw [rds.length];exact hl
 simp only [runs,hi,if_pos hd] at p
 refine p.bind.imp λfl S1 μ1 H1 l1 r1 p1=>?_
 cases fl with
 | nx ρ=>exact λσ _=>p1 μ1 H1 (Lat.refl _ _) r1 _ .non
 | rt d=>exact λv rv=>p1 μ1 H1 (Lat.refl _ _) r1 v rv
 | bk ρ=>exact False.elim p1
 | ct ρ=>exact False.elim p1
theorem runs_at (TX:TxOk T Γ (k+3) (runs Rs Γ Tb k)) (hi:Tb[i]?=some fd) (F:Fun T.K x qual st f da) (h1:defBody st=fd.body) (h2:defScope st=fd.sc) (S:FnScope fd.N fd.ps fd.sc) (hq:quiet (lcOf fd)=false:=by rfl) :
  FnOk T.P T.w T.K T.mg T.base (CXq false) (k+4) f da fd.ps (spD T.K T.cl fd.ps.length (runs Rs Γ Tb (k+1) i)):=FnOk.unX (runs_atX TX hi F h1 h2 S hq)
noncomputable def qsOk (Γ:Gm) (Tb:List Fd):Bool:=(List.range Tb.length).all λi=>match Tb[i]? with
 | some fd=>quiet (lcOf fd)==Γ.qs.contains i
 | none=>false
theorem qsOk_at (h:qsOk Γ Tb=true) (hi:Tb[i]?=some fd):quiet (lcOf fd)=Γ.qs.contains i:=by
 unfold qsOk at h
 have:=(List.all_eq_true.mp h) i (List.mem_range.mpr (List.getElem?_eq_some_iff.mp hi).1)
 rw [hi] at this
 simpa using this
end
structure TxSt (T:Tx) (Γ:Gm):Prop where
 blt:∀ x∈bnames,Γ.gl.lookup x=none->T.mg x=none
 val:∀ x d,Γ.gl.lookup x=some (.val d)->∃ u v,T.mg x=some u/\RelV v u/\∀ μ H,RD T.K μ H d v
 err:∀ x c fs,Γ.gl.lookup x=some (.err c fs)->ErrAt T x c fs/\(∀ g∈fs,NoAttr T.K (T.cl c) g)
 sub:∀ x c c0 fs,Γ.gl.lookup x=some (.err c0 fs)->XC T.K (T.cl c)->PySem.W.kitOne T.K (.ref (T.cl c)) (.ref (T.cl c0))=some (Γ.sub c c0)
 subV:∀ c,XC T.K (T.cl c)->PySem.W.kitOne T.K (.ref (T.cl c)) (.type "ValueError")=some true
 subT:∀ c,XC T.K (T.cl c)->∀ t∈tys,PySem.W.kitOne T.K (.ref (T.cl c)) (.type t)=some false
 fld:∀ g∈Γ.flds,∀ c,XC T.K (T.cl c)->NoAttr T.K (T.cl c) g
 dct:∀ x kvs,Γ.gl.lookup x=some (.dct kvs)->DctAt T x kvs
noncomputable def FnsAt (T:Tx) (Γ:Gm) (Tb:List Fd):Prop:=∀ x i n,Γ.gl.lookup x=some (.fn i n)->∃ fd,Tb[i]?=some fd/\fd.ps.length=n/\FnTx T x fd
theorem TxSt.ok {T:Tx} {Γ:Gm} (h:TxSt T Γ) {k:Nat} {C:Cf} (f:∀ x i n,Γ.gl.lookup x=some (.fn i n)->i∉Γ.qs->FnX T (k+3) i n x (C i)) (fq:∀ x i n,Γ.gl.lookup x=some (.fn i n)->i∈Γ.qs->FnAt T (k+3) i n x (C i)):TxOk T Γ (k+3) C:=⟨h.blt,h.val,f,fq,h.err,h.sub,h.subV,h.subT,h.fld,h.dct,by omega⟩
theorem runs_ok {Rs:Rules} {T:Tx} {Γ:Gm} {Tb:List Fd} (h:TxSt T Γ) (fs:FnsAt T Γ Tb) (k:Nat) (hq:qsOk Γ Tb=true:=by rfl):TxOk T Γ (k+3) (runs Rs Γ Tb k):=by
 induction k with
 | zero=>
  have bad:∀ x i n,Γ.gl.lookup x=some (.fn i n)->∃ (a:Addr) (fd:FuncData) (ps:List Str),ps.length=n/\(∀ CX,FnOk T.P T.w T.K T.mg T.base CX 3 a fd ps (spX T.K T.cl n (runs Rs Γ Tb 0 i)))/\T.mg x=some (.ref a)/\PySem.W.keepIn T.K (.ref a)=true/\Binds T.K fd ps []:=λx i n e=>by
   obtain ⟨fd,h1,h2,h3⟩:=fs x i n e
   obtain ⟨f,da,qual,st,F,_,_,_,b,m⟩:=h3.ex
   refine ⟨f,da,fd.ps,h2,λCX=>⟨λvs H Q E h=>by rw [h2];exact h.1,λA outer s H args us vs Q E _ _ _ _ hsp=>?_⟩,m,F.kp,b⟩
   obtain ⟨_,μ,S,ds,_,_,p⟩:=hsp
   exact p.elim
  refine h.ok (λx i n e _=>?_) λx i n e _=>?_
  ·obtain ⟨a,fd,ps,h1,h2,h3⟩:=bad x i n e
   exact ⟨a,fd,ps,h1,h2 _,h3⟩
  ·obtain ⟨a,fd,ps,h1,h2,h3⟩:=bad x i n e
   exact ⟨a,fd,ps,h1,FnOk.imp (h2 _) (sp':=spD T.K T.cl n (runs Rs Γ Tb 0 i)) λvs H Q E ⟨_,μ,S,ds,_,_,p⟩=>p.elim,h3⟩
 | succ k TX=>
  refine h.ok (k:=k+1) (λx i n e hn=>?_) λx i n e m=>?_
  ·obtain ⟨fd,h1,h2,h3⟩:=fs x i n e
   subst h2
   obtain ⟨f,da,qual,st,F,g1,g2,S,b,m2⟩:=h3.ex
   exact ⟨f,da,fd.ps,rfl,runs_atX TX h1 F g1 g2 S (by rw [qsOk_at hq h1];simpa using hn),m2,F.kp,b⟩
  ·obtain ⟨fd,h1,h2,h3⟩:=fs x i n e
   subst h2
   obtain ⟨f,da,qual,st,F,g1,g2,S,b,m2⟩:=h3.ex
   exact ⟨f,da,fd.ps,rfl,runs_atQ TX h1 F g1 g2 S (by rw [qsOk_at hq h1];simpa using m),m2,F.kp,b⟩
noncomputable def runK (Rs:Rules) (Γ:Gm) (C:Cf) (fd:Fd) (ds:List D):M D:=if ds.length=fd.ps.length then blkK (evK Rs Γ C 40) ⟨fd.N,fd.sc,true,fd.mu⟩ fd.body (startD fd.N ds) endD else bad
theorem runs_eq {Rs:Rules} {Γ:Gm} {Tb:List Fd} {k i:Nat} {fd:Fd} (h:Tb[i]?=some fd) (ds:List D):runs Rs Γ Tb (k+1) i ds=runK Rs Γ (runs Rs Γ Tb k) fd ds:=by
 simp only [runs,h,runK]
 split
 ·rw [blk_eq (ev_eq 40)]
 ·rfl
noncomputable def parsOf (a:Arguments):List Str:=a.args.map (·.arg)
noncomputable def namesOf (ps:List Str) (sc:Scope):List Str:=ps++(sc.names.filter λy=>(y.2==.local||y.2==.cell)&&!ps.contains y.1).map (·.1)
noncomputable def fdOf (st:Stmt) (mu:List Str):Fd:=⟨parsOf (defArgs st),namesOf (parsOf (defArgs st)) (defScope st),defScope st,defBody st,mu⟩
noncomputable def scopeOk (fd:Fd):Bool:=decide (fd.sc.kind=.function)&&!fd.sc.isCoroutine&&!fd.sc.isGenerator&&decide fd.N.Nodup&&decide (fd.N.take fd.ps.length=fd.ps)&&fd.ps.all (λx=>locB fd.sc x)&&fd.sc.names.all (λy=>decide (y.2≠.free))
theorem scopeOk_ok {fd:Fd} (h:scopeOk fd=true):FnScope fd.N fd.ps fd.sc:=by
 simp only [scopeOk,Bool.and_eq_true,decide_eq_true_eq,List.all_eq_true,Bool.not_eq_true'] at h
 obtain ⟨⟨⟨⟨⟨⟨h1,h2⟩,h3⟩,h4⟩,h5⟩,h6⟩,h7⟩:=h
 exact ⟨h1,h2,h3,h4,h5,λx hx=>locB_ok (h6 x hx),h7⟩
end L3
end
section
set_option maxHeartbeats 1000000
namespace HT
open PySem PySem.Spec PyProof.Rows
end HT
namespace L2
open PySem PySem.Spec PyProof.Rows
end L2
namespace L3
open PySem PySem.Spec PyProof.Rows L2
end L3
end

section
set_option maxHeartbeats 1000000
namespace L3
open PySem PySem.Spec PyProof.Rows L2
end L3
end
section
set_option maxHeartbeats 4000000
namespace L2
open PySem PySem.Spec PyProof.Rows
theorem cells_no (h:Heap):∀ (names:List (Str×NameKind)) (n:Nat) (acc:List (Str×Addr)),names.filter (λy=>y.2==.cell)=[]->cellsFrom n names acc=acc/\pushCells h names=h
 | [],_,_,_=>⟨rfl,rfl⟩
 | (y,k) :: r,n,acc,e=>by
  unfold cellsFrom pushCells
  rw [List.filter_cons] at e
  cases hk:k==NameKind.cell with
  | true=>simp only [hk,if_true] at e;cases e
  | false=>
   simp only [hk,Bool.false_eq_true,if_false] at e ⊢
   exact cells_no h r n acc e
theorem cells_one {x:Str}:∀ (names:List (Str×NameKind)) (h:Heap) (n:Nat) (acc:List (Str×Addr)),names.filter (λy=>y.2==.cell)=[(x,.cell)]->cellsFrom n names acc=(x,n) :: acc/\pushCells h names=h.push { cls:=.type "cell",data:=.cell none }
 | [],_,_,_,e=>by cases e
 | (y,k) :: r,h,n,acc,e=>by
  unfold cellsFrom pushCells
  rw [List.filter_cons] at e
  cases hk:k==NameKind.cell with
  | true=>
   simp only [hk,if_true] at e ⊢
   injection e with e1 e2
   cases e1
   exact cells_no _ r _ _ e2
  | false=>
   simp only [hk,Bool.false_eq_true,if_false] at e ⊢
   exact cells_one r h n acc e
theorem wpAny_newEnvX {M:Model} {A:Around} {E:Value->Shared->Prop} {s:Shared} {scope:Scope} {globals:Addr} {closure:List (Str×Addr)} {qual:Str} {outer:Env} {builtins:Addr} {x:Str} {Q:Env->Shared->Prop} (one:scope.names.filter (λy=>y.2==.cell)=[(x,.cell)])
  (hQ:Q (newEnv scope s.heap.objs.size globals ((x,s.heap.objs.size+1) :: closure) qual none .none (some outer) builtins) { s with heap:=(s.heap.push { cls:=.type "dict",data:=.dict #[] }).push { cls:=.type "cell",data:=.cell none } }) :
  wpAny M A (newFunctionEnv scope globals closure [] qual none .none (some outer) builtins) Q E s:=by
 simp only [newFunctionEnv,Option.isSome_some,if_true]
 refine wpAny_bind (wpAny_alloc ?_)
 refine wpAny_bind (wpAny_layCells _ (λname kind cells=>by cases hkc:kind==NameKind.cell <;> simp [hkc]) _ _ _ _ ?_)
 obtain ⟨e1,e2⟩:=cells_one (x:=x) scope.names (s.heap.push { cls:=.type "dict",data:=.dict #[] }) (s.heap.objs.size+1) closure one
 rw [show ({ s with heap:=s.heap.push { cls:=.type "dict",data:=.dict #[] } }:Shared).heap.objs.size=s.heap.objs.size+1 from Heap.size_push ..,e1]
 dsimp only
 rw [e2,List.forIn_nil]
 exact wpAny_bind (wpAny_pure (wpAny_pure hQ))
noncomputable def cellsX (X:Cx) (scope:Scope) (x:Str) (C:Addr):List (Str×Addr):=(x,C+1) :: closOf X.env.cells scope.names
noncomputable def cxCompX (X:Cx) (pins:List (Addr×Obj)) (N':List Str) (scope:Scope) (x:Str) (C:Addr) (fp:List Addr) (s:Shared) (H:Hp) (f:Bool):Cx:={ cxComp X pins N' scope C fp s H with env:=compEnvC scope (cellsX X scope x C) C X.env,fn:=λy=>f&&(y==x) }
structure CompTextX (N:List Str) (env:Env) (N':List Str) (caps:List Nat) (scope:Scope) (x:Str):Prop where
 kind:scope.kind=.function
 one:scope.names.filter (λy=>y.2==.cell)=[(x,.cell)]
 xc:scope.names.lookup x=some .cell
 loc:∀ y∈scope.names,y.2=NameKind.local->scope.names.lookup y.1=some .local
 free:∀ y∈scope.names,y.2=NameKind.free->scope.names.lookup y.1=some .free/\(env.scope.names.lookup y.1=some .cell\/env.scope.names.lookup y.1=some .free)
 cps:∀ (j i:Nat),caps[j]?=some i->∃ x,N[i]?=some x/\N'[1+j]?=some x/\scope.names.lookup x=some .free
 len:N'.length=1+caps.length
theorem relabel_backX {scope:Scope} {env:Env} {x y:Str} {k:NameKind} (h:(relabel scope env).names.lookup y=some k) (hk:k=.cell\/k=.free) (hc:scope.names.filter (λy=>y.2==.cell)=[(x,.cell)]):y=x\/scope.names.lookup y=some .free:=by
 rw [relabel_lookup] at h
 cases e:scope.names.lookup y with
 | none=>rw [e] at h;cases h
 | some k'=>
  rw [e] at h
  have h':(rlF env (y,k')).2=k:=Option.some.inj h
  have hm:=mem_of_lookup e
  unfold rlF at h'
  split at h'
  ·rename_i hb
   simp only [Bool.and_eq_true,beq_iff_eq] at hb
   exact .inr (congrArg some hb.1.1)
  ·have h'':k'=k:=h'
   subst h''
   rcases hk with rfl | rfl
   ·have:(y,NameKind.cell)∈scope.names.filter (λy=>y.2==.cell):=List.mem_filter.mpr ⟨hm,rfl⟩
    rw [hc] at this
    have:=List.mem_singleton.mp this
    injection this with this
    exact .inl this
   ·exact .inr rfl
theorem relabel_cell {scope:Scope} {env:Env} {x:Str} (h:scope.names.lookup x=some .cell):(relabel scope env).names.lookup x=some .cell:=by
 rw [relabel_lookup,h]
 show some (rlF env (x,.cell)).2=_
 unfold rlF
 split <;> rfl
section
variable {X:Cx} {pins:List (Addr×Obj)} {σ:St} {H:Hp} {s:Shared} {N':List Str} {caps:List Nat} {scope:Scope} {fp:List Addr} {x:Str}
theorem cellsX_at {C:Addr} {y:Str} {c:Addr} (e:(cellsX X scope x C).lookup y=some c):(y=x/\c=C+1)\/(y≠x/\(closOf X.env.cells scope.names).lookup y=some c):=by
 unfold cellsX at e
 rw [List.lookup_cons] at e
 cases h:y==x with
 | true=>rw [h] at e;cases e;exact .inl ⟨by simpa using h,rfl⟩
 | false=>rw [h] at e;exact .inr ⟨by simpa using h,e⟩
theorem comp_okX (T:CompTextX X.N X.env N' caps scope x) (I:Inv X pins σ H s) (hf:∀ b∈fp,FpOk X pins H b) {C:Addr} (hC:s.heap.objs.size<=C) (hlt:∀ b∈fp,b<s.heap.objs.size) (f:Bool):(cxCompX X pins N' scope x C fp s H f).Ok:=by
 have fr:∀ x∈scope.names,x.2=NameKind.free->∃ c,X.env.cells.lookup x.1=some c:=λx hx hk=>I.ok.has x.1 (T.free x hx hk).2
 have snd:∀ x c,(closOf X.env.cells scope.names).lookup x=some c->X.env.cells.lookup x=some c:=clos_sound scope.names [] fr λx c e=>by simp at e
 have clt:∀ x c,(closOf X.env.cells scope.names).lookup x=some c->c<s.heap.objs.size:=λx c e=>by
  obtain ⟨v,o,ho,_⟩:=I.cell x c (snd x c e)
  exact Heap.lt_size ho
 refine ⟨I.mod,?_,I.ok.glob,I.ok.blt,hC,λy z c a b=>?_,λy hy=>?_,λy c hfn e=>?_,I.ok.hd,I.ok.frames,.inl rfl,λb hb=>⟨?_,λy c e=>?_⟩,I.bs,?_,λb o e hb=>?_,λb hb hfs=>?_,I.stack,I.stkFree⟩
 ·exact T.kind
 ·rcases cellsX_at a with ⟨a1,a2⟩ | ⟨a1,a2⟩ <;> rcases cellsX_at b with ⟨b1,b2⟩ | ⟨b1,b2⟩
  ·rw [a1,b1]
  ·have:=clt _ _ b2
   rw [a2] at this
   exact absurd hC (Nat.not_le_of_gt (Nat.lt_of_succ_lt this))
  ·have:=clt _ _ a2
   rw [b2] at this
   exact absurd hC (Nat.not_le_of_gt (Nat.lt_of_succ_lt this))
  ·exact I.ok.inj y z c (snd y c a2) (snd z c b2)
 ·have h:y=x\/scope.names.lookup y=some .free:=by
   rcases hy with hx | hx
   ·exact relabel_backX hx (.inl rfl) T.one
   ·exact relabel_backX hx (.inr rfl) T.one
  show ∃ c,(cellsX X scope x C).lookup y=some c
  unfold cellsX
  rw [List.lookup_cons]
  cases q:y==x with
  | true=>exact ⟨_,rfl⟩
  | false=>
   rcases h with h | h
   ·rw [h] at q;simp at q
   ·exact Option.isSome_iff_exists.mp (clos_has scope.names [] y (mem_of_lookup h))
 ·have hfn:(f&&(y==x))=true:=hfn
  rw [Bool.and_eq_true] at hfn
  have:y=x:=by simpa using hfn.2
  rcases cellsX_at e with ⟨_,a2⟩ | ⟨a1,_⟩
  ·show s.heap.objs.size<=c
   rw [a2];exact Nat.le_trans hC (Nat.le_succ _)
  ·exact absurd this a1
 ·exact Nat.ne_of_lt (Nat.lt_of_lt_of_le (hlt b hb) hC)
 ·rcases cellsX_at e with ⟨_,a2⟩ | ⟨_,a2⟩
  ·rw [a2]
   intro z
   have:=hlt b hb
   rw [<- z] at this
   exact absurd hC (Nat.not_le_of_gt (Nat.lt_of_succ_lt this))
  ·exact (hf b hb).2.2.2.2.1 y c (snd y c a2)
 ·exact Nat.le_trans I.ok.bsz I.sz
 ·rcases (hf b hb).2.2.2.1 with z | z
  ·exact I.ok.noex b o e z
  ·exact absurd (Nat.lt_of_lt_of_le (Heap.lt_size (I.ok.bs b o e).1) z) (Nat.lt_irrefl _)
 ·rcases List.mem_cons.mp (I.stkSub b hfs) with z | z
  ·exact (hf b hb).2.1 z
  ·exact (hf b hb).2.2.1 z
theorem comp_startX (T:CompTextX X.N X.env N' caps scope x) (I:Inv X pins σ H s) (hf:∀ b∈fp,FpOk X pins H b) (hlt:∀ b∈fp,b<s.heap.objs.size) {h':Heap} {m:Str->Option Value} {t:Nat}
  (hn:h'.Ns (s.heap.objs.size+1) m) (hk:∀ b o,s.heap.get? b=some o->h'.get? b=some o) (ha:h'.get? s.heap.objs.size=some { cls:=.type "list",data:=.seq #[] }) (hcl:h'.IsCell (s.heap.objs.size+1+1) none) :
  Inv (cxCompX X pins N' scope x (s.heap.objs.size+1) fp s H false) [] (none :: capd caps σ) (upd H s.heap.objs.size (.lst [])) { s with heap:=h',toks:=t }:=by
 have ok:=comp_okX T I hf (C:=s.heap.objs.size+1) (Nat.le_succ _) hlt false
 have fr:∀ x∈scope.names,x.2=NameKind.free->∃ c,X.env.cells.lookup x.1=some c:=λx hx hk=>I.ok.has x.1 (T.free x hx hk).2
 have snd:∀ x c,(closOf X.env.cells scope.names).lookup x=some c->X.env.cells.lookup x=some c:=clos_sound scope.names [] fr λx c e=>by simp at e
 have nacc:H s.heap.objs.size=none:=I.hok.fresh (Nat.le_refl _)
 refine ⟨ok,rfl,I.bare,Un.laid hk (Nat.le_refl _) nacc,⟨m,hn,λi y v e1 e2 e3=>?_⟩,λy c e=>?_,?_,λy c e=>?_,λp hp=>?_,I.hok.laid hk (Nat.le_refl _) ⟨Nat.zero_le _,[],_,.nil,ha⟩,?_⟩
 ·cases i with
  | zero=>simp at e2
  | succ i=>
   have e2:(capd caps σ)[i]?=some (some v):=e2
   obtain ⟨j,hj,hv⟩:=capd_get e2
   obtain ⟨z,h1,h2,h3⟩:=T.cps _ _ hj
   rw [Nat.add_comm] at h2
   have hxy:z=y:=Option.some.inj (h2.symm.trans e1)
   subst hxy
   have hvis:=(T.free (z,.free) (mem_of_lookup h3) rfl).2
   obtain ⟨mX,hnX,hlX⟩:=I.loc
   obtain ⟨u,r,l⟩:=hlX j z v h1 hv (by rcases hvis with w | w;exact .inr (.inl w);exact .inr (.inr w))
   refine ⟨u,r,?_⟩
   rcases l with ⟨hk',_⟩ | ⟨_,c,hc,hcell⟩
   ·have hk'':X.env.scope.names.lookup z=some .local:=hk'
    rcases hvis with w | w
    ·rw [hk''] at w;cases w
    ·rw [hk''] at w;cases w
   ·obtain ⟨c',hc'⟩:=Option.isSome_iff_exists.mp (clos_has (cells:=X.env.cells) scope.names [] z (mem_of_lookup h3))
    have:c'=c:=Option.some.inj ((snd z c' hc').symm.trans hc)
    subst this
    obtain ⟨oc,ho,hd⟩:=hcell
    have zx:(z==x)=false:=by
     refine beq_eq_false_iff_ne.mpr λw=>?_
     rw [w,T.xc] at h3;cases h3
    refine .inr ⟨relabel_names h3,c',?_,oc,hk _ _ ho,hd⟩
    show (cellsX X scope x (s.heap.objs.size+1)).lookup z=some c'
    unfold cellsX
    rw [List.lookup_cons,zx];exact hc'
 ·rcases cellsX_at e with ⟨_,a2⟩ | ⟨_,a2⟩
  ·subst a2;exact ⟨_,hcl⟩
  ·obtain ⟨v,oc,ho,hd⟩:=I.cell y c (snd y c a2)
   exact ⟨v,oc,hk _ _ ho,hd⟩
 ·show upd H s.heap.objs.size (.lst []) (s.heap.objs.size+1)=none
  rw [upd_ne (Nat.succ_ne_self _)]
  exact I.hok.fresh (Nat.le_succ _)
 ·rcases cellsX_at e with ⟨_,a2⟩ | ⟨_,a2⟩
  ·rw [a2,upd_ne (Nat.ne_of_gt (Nat.lt_succ_of_lt (Nat.lt_succ_self _)))]
   exact I.hok.fresh (Nat.le_trans (Nat.le_succ _) (Nat.le_succ _))
  ·obtain ⟨v,oc,ho,hd⟩:=I.cell y c (snd y c a2)
   rw [upd_ne (Nat.ne_of_lt (Heap.lt_size ho))]
   exact I.freeC y c (snd y c a2)
 ·have hp':p∈X.pn++pins:=by
   have:p∈(X.pn++pins)++[]:=hp
   rwa [List.append_nil] at this
  obtain ⟨e,n,ne,nf,d⟩:=I.pin p hp'
  refine ⟨hk _ _ e,?_,Nat.ne_of_lt (Nat.lt_succ_of_lt (Heap.lt_size e)),λhb=>?_,d⟩
  ·rw [upd_ne (Nat.ne_of_lt (Heap.lt_size e))];exact n
  ·rcases List.mem_cons.mp (I.stkSub p.1 hb) with z | z
   ·exact ne z
   ·exact nf z
 ·show _=N'.length
  rw [T.len,List.length_cons]
  unfold capd
  rw [List.length_map];omega
theorem inv_fn {C:Addr} {s0:Shared} {H0 H':Hp} {σ':St} {ps:List (Addr×Obj)} {s':Shared} {f g:Bool} (ok:(cxCompX X pins N' scope x C fp s0 H0 g).Ok) (I:Inv (cxCompX X pins N' scope x C fp s0 H0 f) ps σ' H' s'):Inv (cxCompX X pins N' scope x C fp s0 H0 g) ps σ' H' s':=
 ⟨ok,I.os,I.bare,I.base,I.loc,I.cell,I.free,I.freeC,I.pin,I.hok,I.len⟩
theorem pg_x (T:CompTextX X.N X.env N' caps scope x) (hN:N'.Nodup) (hx0:N'[0]?=some x) {px:Pos} {s2:Shared} {H2:Hp} (I2:Inv X pins σ H2 s2) (hlt:∀ b∈fp,b<s2.heap.objs.size) (hf:∀ b∈fp,FpOk X pins H2 b):PG (cxCompX X pins N' scope x (s2.heap.objs.size+1) fp s2 H2 false) (.Name x px) (gName 0):=by
 intro ps s' σ' H' v u Q I r h
 have okT:=comp_okX T I2 hf (C:=s2.heap.objs.size+1) (Nat.le_succ _) hlt true
 have:=pg_name (X:=cxCompX X pins N' scope x (s2.heap.objs.size+1) fp s2 H2 true) (pos:=px) (i:=0) hN hx0 (.inr (relabel_cell T.xc)) (.inl (by show (true&&(x==x))=true;simp)) ps s' σ' H' v u Q (inv_fn okT I) r h
 exact thn this λ_ s7 ⟨σ7,H7,I7,q⟩=>⟨σ7,H7,inv_fn I.ok I7,q⟩
end
theorem pe_compX {X:Cx} {elt iter:Expr} {x:Str} {px:Pos} {ifs:List Expr} {scope:Scope} {pos:Pos} {N':List Str} {caps:List Nat} {wi:TI} {tc:TT} {te:TE}
  (T:CompTextX X.N X.env N' caps scope x) (hc:X.calm=true) (hN:N'.Nodup) (hx0:N'[0]?=some x) (hi:PI X (.Name x px) iter wi)
  (ht:∀ pins C fp s H,PTL (cxCompX X pins N' scope x C fp s H false) ifs tc) (he:∀ pins C fp s H,PE (cxCompX X pins N' scope x C fp s H false) elt te)
  (hs:∀ x,foldedSetIterable iter X.env x=pure x:=by intro _;rfl):PE X (.ListComp elt [⟨.Name x px,iter,ifs,0⟩] scope pos) (tComp caps wi tc te):=by
 intro pins s σ H Q I h
 have fr:∀ x∈scope.names,x.2=NameKind.free->∃ c,X.env.cells.lookup x.1=some c:=λx hx hk=>I.ok.has x.1 (T.free x hx hk).2
 rw [eval_ListComp]
 refine wpAny_comprehension_free (use:=none) rfl hs (closureFor_eq fr) T.kind T.loc ?_
 refine thn (hi pins s σ H _ I h) λv s1 h1=>thn h1 λitv s2 h2=>?_
 obtain ⟨it,fp,tn,J,H2,rfl,I2,Tn,st2,f2,h2⟩:=h2
 obtain ⟨W,⟨m0,w0⟩,turn⟩:=h2 s2.heap.objs.size (I2.hok.fresh (Nat.le_refl _))
 have hlt:∀ b∈fp,b<s2.heap.objs.size:=λb hb=>let ⟨o,e,_⟩:=Tn.obj _ _ st2 b hb;Heap.lt_size e
 refine wpAny_newObj_type (wpAny_newEnvX T.one ?_)
 dsimp only
 have hC:(s2.heap.push { cls:=.type "list",dict:=none,data:=.seq ([]:List Value).toArray }).objs.size=s2.heap.objs.size+1:=Heap.size_push ..
 obtain ⟨h₁,eh⟩:∃ h₁,h₁=((s2.heap.push { cls:=.type "list",dict:=none,data:=.seq ([]:List Value).toArray }).push { cls:=.type "dict",data:=.dict #[] }).push { cls:=.type "cell",data:=.cell none }:=⟨_,rfl⟩
 rw [<- eh]
 have hns₁:h₁.Ns (s2.heap.objs.size+1) (λ_=>none):=by
  rw [eh,<- hC]
  exact (Heap.Ns.new _ (.type "dict")).keeps λb o e=>Heap.get?_push_of_some _ e
 have old:∀ b o,s2.heap.get? b=some o->h₁.get? b=some o:=λb o e=>by rw [eh];exact Heap.get?_push_of_some _ (Heap.get?_push_of_some _ (Heap.get?_push_of_some _ e))
 have hacc:h₁.get? s2.heap.objs.size=some { cls:=.type "list",data:=.seq #[] }:=by rw [eh];exact Heap.get?_push_of_some _ (Heap.get?_push_of_some _ (Heap.get?_push_size _ rfl))
 have hcl:h₁.IsCell (s2.heap.objs.size+1+1) none:=by
  refine ⟨{ cls:=.type "cell",data:=.cell none },?_,rfl⟩
  rw [eh]
  have e:((s2.heap.push { cls:=.type "list",dict:=none,data:=.seq ([]:List Value).toArray }).push { cls:=.type "dict",data:=.dict #[] }).objs.size=s2.heap.objs.size+1+1:=by rw [Heap.size_push,hC]
  rw [<- e]
  exact Heap.get?_push_size _ rfl
 have hst₁:tn 0 h₁:=Tn.keep _ _ _ st2 λb _ o e=>old b o e
 have I3:=comp_startX (t:=s2.toks) T I2 f2 hlt hns₁ old hacc hcl
 have stat:∀ {H':Hp},(∀ b∈fp,H' b=none)->∀ b∈fp,FpOk (cxCompX X pins N' scope x (s2.heap.objs.size+1) fp s2 H2 false) [] H' b:=λhn b hb=>by
  refine ⟨hn b hb,(I3.ok.exf b hb).1,I3.ok.exfs b hb,.inl hb,(I3.ok.exf b hb).2,λp hp=>?_⟩
  have hp':p∈X.pn++pins:=by
   have:p∈(X.pn++pins)++[]:=hp
   rwa [List.append_nil] at this
  exact (f2 b hb).2.2.2.2.2 p hp'
 have loop:∀ s3:Shared,s3={ s2 with heap:=h₁,toks:=s2.toks } ->
   codeAny (model X.prog X.w) X.A (.compLoop (.ListComp elt [⟨.Name x px,iter,ifs,0⟩] scope pos) 0 (.ref it) (.ref s2.heap.objs.size) (compEnvC scope (cellsX X scope x (s2.heap.objs.size+1)) (s2.heap.objs.size+1) X.env))
    (compPost (model X.prog X.w) X.A X.xe none (EP X pins σ Q) (.ref s2.heap.objs.size) (s2.heap.objs.size+1)) s3:=by
  rintro s3 rfl
  refine codeAny_compLoop_tests (λn s'=>∃ i ys H',Inv (cxCompX X pins N' scope x (s2.heap.objs.size+1) fp s2 H2 false) [] (none :: capd caps σ) H' s'/\tn i s'.heap/\(∀ b∈fp,H' b=none)/\W i n ys H') ?_ m0
   ⟨0,[],_,I3,hst₁,λb hb=>by rw [upd_ne (Nat.ne_of_lt (hlt b hb))];exact (f2 b hb).1,w0⟩ (λ_=>rfl)
  rintro n s4 ⟨i,ys,H4,I4,st4,fr4,w4⟩
  obtain ⟨hacc4,turn4⟩:=turn i n ys H4 w4
  refine wpAny_nox ?_
  rcases turn4 with ⟨stop,q⟩ | ⟨go,step⟩
  ·refine thn (Tn.done (cxCompX X pins N' scope x (s2.heap.objs.size+1) fp s2 H2 false) rfl rfl rfl hc i [] s4 _ H4 (λ_ _=>False) I4 (stat fr4) st4 stop) λr s5 ⟨hr,I5⟩=>?_
   subst hr
   obtain ⟨m5,hn5,_⟩:=id I5.loc
   refine ⟨m5,hn5,λh' hs'=>?_⟩
   refine ⟨.ref s2.heap.objs.size,H4,?_,rfl,q⟩
   refine I2.call' (ch:=fp) (s':={ s5 with heap:=h' }) I5.os (Un.sameBut I5.base hs' (Nat.le_succ _)) (I5.hok.sameBut I5.free hs') I5.bare λb hb=>?_
   have:=f2 b hb
   exact ⟨this.2.2.2.1,this.2.1,this.2.2.2.2.1,this.2.2.2.2.2⟩
  ·refine thn (Tn.item (cxCompX X pins N' scope x (s2.heap.objs.size+1) fp s2 H2 false) rfl rfl rfl hc i [] s4 _ H4 (λ_ _=>False) I4 (stat fr4) st4 go) λr s5 ⟨u,hr,h5⟩=>?_
   subst hr
   dsimp only
   refine wpAny_nox (wpAny_unpure (u:=letOwnedTupleGo (.Name x px) (.ref it) u) rfl (thn h5 λ_ s6 ⟨xv,H6,I6,r6,y6,st6,fr6⟩=>?_))
   have I6':=I6.pinned (stat fr6) (Tn.obj _ _ st6)
   refine thn (pg_x (pins:=pins) T hN hx0 I2 hlt f2 _ s6 _ H6 xv u (λσ2 H4=>σ2=some xv :: capd caps σ/\H4=H6) I6' r6 ⟨rfl,rfl⟩) λ_ s7 ⟨σ7,H7,I7,e7,e7'⟩=>?_
   subst e7 e7'
   have back:∀ {σ8:St} {H8:Hp} {s8:Shared},Inv (cxCompX X pins N' scope x (s2.heap.objs.size+1) fp s2 H2 false) ([]++pinsAt fp s6.heap) σ8 H8 s8->tn (i+1) s8.heap/\∀ b∈fp,H8 b=none:=λ{σ8 H8 s8} I8=>by
    refine ⟨Tn.keep _ _ _ st6 λb hb o e=>(I8.pin (b,o) (List.mem_append_right _ (List.mem_append_right _ (mem_pinsAt hb e)))).1,λb hb=>?_⟩
    obtain ⟨o,e,d⟩:=Tn.obj _ _ st6 b hb
    exact (I8.pin (b,o) (List.mem_append_right _ (List.mem_append_right _ (mem_pinsAt hb e)))).2.1
   refine wpAny_nox (thn (ht pins _ fp s2 H2 _ s7 _ _ _ I7 (step xv _ y6)) λb s8 ⟨H8,I8,q8⟩=>?_)
   have wk:∀ {H9:Hp} {s9:Shared},Inv (cxCompX X pins N' scope x (s2.heap.objs.size+1) fp s2 H2 false) ([]++pinsAt fp s6.heap) (some xv :: capd caps σ) H9 s9->Inv (cxCompX X pins N' scope x (s2.heap.objs.size+1) fp s2 H2 false) [] (none :: capd caps σ) H9 s9:=λ{H9 s9} I9=>
    I9.unpinned.weak rfl λj v e=>by
     cases j with
     | zero=>simp at e
     | succ j=>simpa using e
   cases b with
   | false=>
    obtain ⟨m',hm,w'⟩:=q8
    exact ⟨m',hm,i+1,ys,H8,wk I8,(back I8).1,(back I8).2,w'⟩
   | true=>
    refine wpAny_nox (thn (he pins _ fp s2 H2 _ s8 _ H8 _ I8 q8) λz s9 ⟨y,H9,I9,r9,hacc9,hl9,m',hm,w'⟩=>?_)
    refine wpAny_nox (thn (mt_append (X:=cxCompX X pins N' scope x (s2.heap.objs.size+1) fp s2 H2 false) _ s9 _ H9 (.ref s2.heap.objs.size) [y] (.ref s2.heap.objs.size) [z] (λ_ H'=>H'=upd H9 s2.heap.objs.size (.lst (ys++[y]))) I9 rfl (.cons r9 .nil) ⟨_,ys,y,rfl,rfl,hacc9,hl9,rfl⟩) λ_ s10 ⟨_,H10,I10,_,e10⟩=>?_)
    subst e10
    exact ⟨m',hm,i+1,ys++[y],_,wk I10,(back I10).1,(back I10).2,w'⟩
 have fin:=codeAny_compStart_list (loop _ rfl) (Tn.self _ 0 _ _ _ hst₁ (loop _ rfl))
 rw [<- hC] at fin
 exact fin
end L2
end
section
set_option maxHeartbeats 1000000
namespace L3
open PySem PySem.Spec PyProof.Rows L2
section
variable {X:Cx} {cl:Nat->Addr} {xe:Addr->Hp->Prop} {elt iter:Expr} {x:Str} {px pos:Pos} {ifs:List Expr} {scope:Scope} {N':List Str} {caps:List Nat} {fi:Env->M (Src×Nat)} {t:Env->M Bool} {f:Env->M D}
theorem pd_compX (T:CompTextX X.N X.env N' caps scope x) (hc:X.calm=true) (hN:N'.Nodup) (hx0:N'[0]?=some x) (hi:PI X (.Name x px) iter (tIt X.K cl xe fi))
  (ht:∀ pins C fp s H,PTL (cxCompX X pins N' scope x C fp s H false) ifs (tBo X.K cl xe t)) (he:∀ pins C fp s H,PE (cxCompX X pins N' scope x C fp s H false) elt (tD X.K cl xe f)) (hn:noSet iter=true) :
  PE X (.ListComp elt [⟨.Name x px,iter,ifs,0⟩] scope pos) (tNewL X.K cl xe (compL caps fi t f)):=
 PE.imp (pe_compX T hc hN hx0 hi ht he (folded_of hn)) λσ H Q ⟨μ,S,ρ,eo,rp,p⟩=>comp_reads eo rp p
end
noncomputable def compOkX (lc:Lc) (scope:Scope) (x:Str):Bool:=
 decide (scope.kind=.function)&&decide (scope.names.filter (λy=>y.2==.cell)=[(x,.cell)])&&decide (scope.names.lookup x=some .cell)&&scope.names.all (λy=>decide (y.2=.local->scope.names.lookup y.1=some .local))
  && scope.names.all (λy=>decide (y.2=.free->scope.names.lookup y.1=some .free/\(lc.sc.names.lookup y.1=some .cell\/lc.sc.names.lookup y.1=some .free)))
  && (frees scope).all (λz=>decide (scope.names.lookup z=some .free))&&decide (([x]++frees scope).Nodup)&&!quiet lc
section
variable {T:Tx} {k:Nat} {r:Ev} {q:EvK} {Γ:Gm} {C:Cf} {lc:Lc} {X:Cx}
theorem comp_textX (h:CxOk T k lc X) {scope:Scope} {x:Str} {caps:List Nat} (hc:compOkX lc scope x=true) (hm:mapO (idxOf lc.N) (frees scope)=some caps):CompTextX X.N X.env ([x]++frees scope) caps scope x/\([x]++frees scope).Nodup/\quiet lc=false/\scope.kind=.function:=by
 simp only [compOkX,Bool.and_eq_true,decide_eq_true_eq,List.all_eq_true,Bool.not_eq_true'] at hc
 obtain ⟨⟨⟨⟨⟨⟨⟨h1,h2⟩,h3⟩,h4⟩,h5⟩,h6⟩,h7⟩,h8⟩:=hc
 refine ⟨⟨h1,h2,h3,h4,λy hy hk=>?_,λj i e=>?_,?_⟩,h7,h8,h1⟩
 ·rw [h.sc];exact h5 y hy hk
 ·obtain ⟨z,e1,e2⟩:=mapO_get hm e
  refine ⟨z,by rw [h.N];exact idxOf_ok e2,?_,h6 z (List.mem_of_getElem? e1)⟩
  rw [List.getElem?_append_right (by simp)]
  simpa using e1
 ·simp [mapO_len hm,Nat.add_comm]
theorem comp_cxX (h:CxOk T k lc X) (hq:quiet lc=false) {scope:Scope} {x:Str} (hk:scope.kind=.function) (hn:([x]++frees scope).Nodup) (pins:List (Addr×Obj)) (C:Addr) (fp:List Addr) (s:Shared) (H:Hp):CxOk T k (lcCompL lc scope [x]) (cxCompX X pins ([x]++frees scope) scope x C fp s H false):=
 ⟨h.prog,h.w,h.K,h.mg,h.base,rfl,hn,by show relabel scope X.env=relabS scope lc.sc;rw [relabS_ok,h.sc],λ_=>h.calm hq,(by have:=h.room;rw [hq] at this;exact this),PassesOwn.never,rfl,hk,λz=>Bool.noConfusion z⟩
theorem compX_ok (R:EvOk T k r) (h:CxOk T k lc X) {elt:Expr} {x:Str} {px pos:Pos} {iter:Expr} {ifs:List Expr} {scope:Scope} (hc:compOkX lc scope x=true) (hn:noSet iter=true) :
  PE X (.ListComp elt [⟨.Name x px,iter,ifs,0⟩] scope pos) (tD X.K T.cl (xOf X) λρ=>bind (comp1E r lc elt x px iter ifs scope ρ) λds=>ret (.lst ds)):=by
 unfold comp1E
 cases hm:mapO (idxOf lc.N) (frees scope) with
 | none=>exact pd_bad
 | some caps=>
  obtain ⟨t1,t2,t4,t5⟩:=comp_textX h hc hm
  refine newl_nx (pd_compX t1 (h.calm t4) t2 rfl (PI.x0 (R.ix h _ _)) (λpins C fp s H=>?_) (λpins C fp s H=>?_) hn)
  ·exact PTL.x0 (tests_ok R (comp_cxX h t4 t5 t2 pins C fp s H))
  ·exact PE.x0 (R.ex (comp_cxX h t4 t5 t2 pins C fp s H) elt)
end
noncomputable def rCompX:RuE where
 is _ lc e:=match e with
  | .ListComp _ [⟨.Name x _,iter,_,0⟩] scope _=>compOkX lc scope x&&noSet iter
  | _=>false
 run r _ _ lc e ρ:=match e with
  | .ListComp elt [⟨.Name x px,iter,ifs,0⟩] scope _=>bind (comp1E r lc elt x px iter ifs scope ρ) λds=>ret (.lst ds)
  | _=>bad
 ok e R TX h hi:=by
  split at hi
  ·rw [Bool.and_eq_true] at hi
   exact compX_ok R h hi.1 hi.2
  ·cases hi
 runK q _ _ lc e ρ _ k:=match e with
  | .ListComp elt [⟨.Name x px,iter,ifs,0⟩] scope _=>comp1K q lc elt x px iter ifs scope ρ λds=>k (.lst ds)
  | _=>bad
 eq e ρ _ k h:=by
  split
  ·simp only [comp1_eq h,bind_assoc,bind_ret]
  ·first
   | rfl
   | (rename_i hn;split;exact (hn _ _ _ _ _ _ _ rfl).elim;rfl)
theorem bind_ok {α β:Type} {m:M α} {k:α->M β} {S S':Sto} {a:α} (e:m S=.ok a S'):bind m k S=k a S':=by unfold bind;rw [e]
theorem set_at {S:Sto} {p:Nat} {o o':O} (h:S[p]?=some o):(S.set p o')[p]?=some o':=List.getElem?_set_self (List.getElem?_eq_some_iff.mp h).1
theorem add_i (i j:Int) (S:Sto):addD (.int i) (.int j) S=.ok (.int (i+j)) S:=rfl
theorem mod_i {i j:Int} (h:0<j) (S:Sto):modD (.int i) (.int j) S=.ok (.int (i % j)) S:=by simp only [modD,if_pos h,ret]
theorem fdiv_i {i j:Int} (h:0<j) (h2:j<1073741824) (S:Sto):fdivD (.int i) (.int j) S=.ok (.int (i / j)) S:=by
 have hc:CDiv i j:=⟨h,h2⟩
 simp only [fdivD,if_pos hc,ret]
theorem mul_i {i j:Int} (h:CMul i j) (S:Sto):mulD (.int i) (.int j) S=.ok (.int (i * j)) S:=by simp only [mulD,if_pos h,ret]
theorem len_ints (ns:List Int) (S:Sto):lenD (.lst (ns.map D.int)) S=.ok (.int ns.length) S:=by
 show R.ok (D.int ((ns.map D.int).length:Nat)) S=_
 rw [List.length_map]
theorem ix_ints {ns:List Int} {a:Int} (ha:0<=a) (hn:0<ns.length) (S:Sto):∃ z:Int,ixD (.lst (ns.map D.int)) (.int (a % (ns.length:Int))) S=.ok (.int z) S:=by
 have hb:(0:Int)<(ns.length:Int):=by omega
 have h0:=Int.emod_nonneg a (Int.ne_of_gt hb)
 have h1:=Int.emod_lt_of_pos a hb
 obtain ⟨j,hj⟩:=Int.eq_ofNat_of_zero_le h0
 have hj':j<ns.length:=by omega
 refine ⟨ns[j],?_⟩
 rw [hj]
 show optM (atI (ns.map D.int) (j:Int)) S=_
 rw [atI_nat (v:=D.int ns[j]) (by rw [List.getElem?_map,List.getElem?_eq_getElem hj'];rfl)]
 rfl
theorem set_set {S:Sto} {p:Nat} {o o':O}:(S.set p o).set p o'=S.set p o':=List.set_set ..
theorem ne_self (x:Str) (S:Sto):cmpD .NotEq (.str x) (.str x) S=.ok (.bl false) S:=by
 show R.ok (D.bl (!decide (x=x))) S=_
 rw [decide_eq_true rfl];rfl
theorem asB_b (b:Bool) (S:Sto):asB (.bl b) S=.ok b S:=rfl
noncomputable def isBlt (o:Option (Option Value)) (x:String):Bool:=match o with
 | some (some (.builtin y))=>decide (y=x)
 | _=>false
noncomputable def isNo (o:Option (Option Value)):Bool:=match o with
 | some none=>true
 | _=>false
theorem isNo_ok {o:Option (Option Value)} (h:isNo o=true):o=some none:=by
 unfold isNo at h
 split at h
 ·rfl
 ·cases h
noncomputable def isB (o:Option Bool) (b:Bool):Bool:=match o with
 | some c=>c==b
 | none=>false
theorem isB_ok {o:Option Bool} {b:Bool} (h:isB o b=true):o=some b:=by
 unfold isB at h
 split at h
 ·rw [eq_of_beq h]
 ·cases h
noncomputable def xcB (K:PySem.W.Frag) (C:Addr):Bool:=
 isBlt (PySem.W.findIn K (.ref C) "__getattribute__") "BaseException.__getattribute__" && (isNo (PySem.W.findIn K (.ref C) "__getattr__")&&(isB (PySem.W.mroIn K C (.type "BaseException")) true&&(isB (PySem.W.mroIn K C (.type "object")) true &&
 (PySem.W.hasDictIn K C&&(isBlt (PySem.W.findIn K (.ref C) "__class__") "object.__class__" && (isBlt (PySem.W.specialIn K (.builtin "object.__class__") "__get__") "getset_descriptor.__get__" && (isB (PySem.W.takesIn K (.builtin "object.__class__")) true &&
 (excIn K C&&((PySem.W.clsIn K C).any (λcd=>valueMro cd.mro)&&(isBlt (PySem.W.findIn K (.ref C) "__setattr__") "object.__setattr__" && PySem.W.keepIn K (.ref C)))))))))))
noncomputable def clOf (cs:List Addr) (junk:Addr) (c:Nat):Addr:=cs.getD c junk
structure RowB (K:PySem.W.Frag) (Γ:Gm) (cs:List Addr) (junk:Addr):Prop where
 xc:cs.all (xcB K)=true
 jk:excIn K junk=false
 sub:((List.range cs.length).all λc=>(List.range cs.length).all λc0=>isB (PySem.W.kitOne K (.ref (clOf cs junk c)) (.ref (clOf cs junk c0))) (Γ.sub c c0))=true
 sV:(cs.all λC=>isB (PySem.W.kitOne K (.ref C) (.type "ValueError")) true)=true
 sT:(cs.all λC=>tys.all λt=>isB (PySem.W.kitOne K (.ref C) (.type t)) false)=true
 fl:(Γ.flds.all λg=>cs.all λC=>isNo (PySem.W.findIn K (.ref C) g))=true
 bl:(bnames.all λx=>(Γ.gl.lookup x).isSome||isNo (PySem.W.nsIn K mainGlobals x))=true
theorem cl_lt {K:PySem.W.Frag} {cs:List Addr} {junk:Addr} (jk:excIn K junk=false) {c:Nat} (h:XC K (clOf cs junk c)):c<cs.length/\clOf cs junk c∈cs:=by
 by_cases hc:c<cs.length
 ·refine ⟨hc,?_⟩
  unfold clOf
  rw [List.getD_eq_getElem?_getD,List.getElem?_eq_getElem hc]
  exact List.getElem_mem hc
 ·have e:clOf cs junk c=junk:=by
   unfold clOf
   rw [List.getD_eq_getElem?_getD,List.getElem?_eq_none (Nat.le_of_not_lt hc)];rfl
  rw [e] at h
  have:=h.ex
  rw [jk] at this
  cases this
theorem RowB.st {T:Tx} {Γ:Gm} {cs:List Addr} {junk:Addr} {h:Heap} (B:RowB T.K Γ cs junk) (X:T.K.In h) (G:h.Ns mainGlobals T.mg) (hc:T.cl=clOf cs junk) (hv:∀ x d,Γ.gl.lookup x=some (.val d)->∃ u v,T.mg x=some u/\RelV v u/\∀ μ H,RD T.K μ H d v)
  (he:∀ x c fs,Γ.gl.lookup x=some (.err c fs)->c<cs.length/\ErrAt T x c fs/\∀ g∈fs,g∈Γ.flds) (hd:∀ x kvs,Γ.gl.lookup x=some (.dct kvs)->DctAt T x kvs):TxSt T Γ:=by
 have mem:∀ c,XC T.K (T.cl c)->c<cs.length/\T.cl c∈cs:=λc xc=>by rw [hc] at xc ⊢;exact cl_lt B.jk xc
 have nf:∀ g∈Γ.flds,∀ c,XC T.K (T.cl c)->NoAttr T.K (T.cl c) g:=λg hg c xc=>by
  have:=(List.all_eq_true.mp B.fl) g hg
  exact isNo_ok ((List.all_eq_true.mp this) _ (mem c xc).2)
 refine ⟨λx hx hn=>?_,hv,λx c fs e=>?_,λx c c0 fs e xc=>?_,λc xc=>?_,λc xc t ht=>?_,nf,hd⟩
 ·have:=(List.all_eq_true.mp B.bl) x hx
  rw [hn] at this
  exact PySem.W.mg_none_of X G (isNo_ok this)
 ·obtain ⟨h1,h2,h3⟩:=he x c fs e
  exact ⟨h2,λg hg=>nf g (h3 g hg) c h2.xc⟩
 ·obtain ⟨h1,h2,h3⟩:=he x c0 fs e
  have a:=(List.all_eq_true.mp B.sub) c (List.mem_range.mpr (mem c xc).1)
  have b:=(List.all_eq_true.mp a) c0 (List.mem_range.mpr h1)
  rw [hc]
  exact isB_ok b
 ·exact isB_ok ((List.all_eq_true.mp B.sV) _ (mem c xc).2)
 ·have a:=(List.all_eq_true.mp B.sT) _ (mem c xc).2
  exact isB_ok ((List.all_eq_true.mp a) t ht)
noncomputable def spTrue (K:PySem.W.Frag):Sp:=λvs H Q _=>∃ (a:Addr) (ns:List Int),vs=[.ref a]/\SqL K H a (ns.map V.int)/\∀ H',Q (.bl true) H'
theorem spTrue_of {K:PySem.W.Frag} {cl:Nat->Addr} {run:List D->M D} (hr:∀ ns:List Int,∃ S',run [.scr (ns.map D.int)] []=.ok (.bl true) S'):∀ vs H Q E,spTrue K vs H Q E->spD K cl 1 run vs H Q E:=by
 rintro vs H Q E ⟨a,ns,rfl,hS,q⟩
 obtain ⟨S',e⟩:=hr ns
 refine ⟨rfl,⟨[],[]⟩,[],[.scr (ns.map D.int)],.cons (.scr ?_ (RDs.ints ns)) .nil,⟨rfl,by simp,λn o a e=>by simp at e,λa m=>by simp at m⟩,?_⟩
 ·rcases hS with h | h
  ·exact .inl ⟨h,by simp,by simp⟩
  ·exact .inr h
 ·rw [e]
  intro μ' H' l r v rv
  cases rv;exact q H'
theorem comp_inv {src:Src} {t:D->M Bool} {f:D->M D} {n:Nat} (I:Nat->Sto->List D->Prop) (hend:∀ S es,I n S es->src n S=some none)
  (step:∀ i S es,i<n->I i S es->∃ d b S1,src i S=some (some d)/\t d S=.ok b S1/\(if b=true then ∃ y S2,f d S1=.ok y S2/\es.length<sizeLine/\I (i+1) S2 (es++[y]) else I (i+1) S1 es)) :
  ∀ (k i:Nat) (S:Sto) (es:List D),k+i=n->I i S es->∃ es' S',compM src t f (k+1) i es S=.ok es' S'/\I n S' es'
 | 0,i,S,es,hk,h=>by
  have:i=n:=by omega
  subst this
  refine ⟨es,S,?_,h⟩
  simp only [compM,hend S es h]
 | k+1,i,S,es,hk,h=>by
  obtain ⟨d,b,S1,e1,e2,h2⟩:=step i S es (by omega) h
  have un:compM src t f (k+1+1) i es S=bind (t d) (λb=>if b=true then bind (f d) (λy=>if es.length<sizeLine then compM src t f (k+1) (i+1) (es++[y]) else bad) else compM src t f (k+1) (i+1) es) S:=by
   conv=>lhs;unfold compM
   simp only [e1]
  rw [un,bind_ok e2]
  cases b with
  | true=>
   rw [if_pos rfl] at h2 ⊢
   obtain ⟨y,S2,e3,hl,h3⟩:=h2
   rw [bind_ok e3,if_pos hl]
   exact comp_inv I hend step k (i+1) S2 _ (by omega) h3
  | false=>
   rw [if_neg Bool.false_ne_true] at h2 ⊢
   exact comp_inv I hend step k (i+1) S1 _ (by omega) h2
noncomputable def Ok {α:Type} (m:M α) (S:Sto) (Q:α->Sto->Prop):Prop:=∃ a S',m S=.ok a S'/\Q a S'
section
variable {α β:Type} {S S1:Sto} {m m':M α} {k:α->M β} {a:α} {Q Q':α->Sto->Prop} {P:β->Sto->Prop}
theorem Ok.ret (h:Q a S):Ok (ret a) S Q:=⟨a,S,rfl,h⟩
theorem Ok.of (e:m S=.ok a S1) (h:Q a S1):Ok m S Q:=⟨a,S1,e,h⟩
theorem Ok.bind (h:Ok m S λa S1=>Ok (k a) S1 P):Ok (L3.bind m k) S P:=by
 obtain ⟨a,S1,e,b,S2,e2,q⟩:=h
 exact ⟨b,S2,by rw [bind_ok e];exact e2,q⟩
theorem Ok.eq (e:m S=.ok a S1) (h:Ok (k a) S1 P):Ok (L3.bind m k) S P:=Ok.bind ⟨a,S1,e,h⟩
theorem Ok.mono (h:Ok m S Q) (i:∀ a S1,Q a S1->Q' a S1):Ok m S Q':=by
 obtain ⟨a,S1,e,q⟩:=h
 exact ⟨a,S1,e,i _ _ q⟩
theorem Ok.cg (e:m=m') (h:Ok m' S Q):Ok m S Q:=e▸h
theorem Ok.cgS (e:m S=m' S) (h:Ok m' S Q):Ok m S Q:=by
 obtain ⟨a,S1,e1,q⟩:=h
 exact ⟨a,S1,by rw [e];exact e1,q⟩
theorem Ok.ite {c:Prop} [Decidable c] {m1 m2:M α} (h1:c->Ok m1 S Q) (h2:¬ c->Ok m2 S Q):Ok (if c then m1 else m2) S Q:=by
 by_cases h:c
 ·rw [if_pos h];exact h1 h
 ·rw [if_neg h];exact h2 h
end
theorem Ok.comp {src:Src} {t:D->M Bool} {f:D->M D} {n:Nat} (I:Nat->Sto->List D->Prop) (hend:∀ S es,I n S es->src n S=some none)
  (step:∀ i S es,i<n->I i S es->∃ d,src i S=some (some d)/\Ok (t d) S λb S1=>if b=true then Ok (f d) S1 λy S2=>es.length<sizeLine/\I (i+1) S2 (es++[y]) else I (i+1) S1 es) {S:Sto} (h:I 0 S []) :
  Ok (compM src t f (n+1) 0 []) S λes S'=>I n S' es:=by
 obtain ⟨es,S',e,q⟩:=comp_inv (src:=src) (t:=t) (f:=f) (n:=n) I hend (λi S es hi h=>by
  obtain ⟨d,e1,b,S1,e2,q⟩:=step i S es hi h
  refine ⟨d,b,S1,e1,e2,?_⟩
  cases b with
  | true=>
   rw [if_pos rfl] at q ⊢
   obtain ⟨y,S2,e3,q1,q2⟩:=q
   exact ⟨y,S2,e3,q1,q2⟩
  | false=>
   rw [if_neg Bool.false_ne_true] at q ⊢
   exact q) n 0 S [] (by omega) h
 exact ⟨es,S',e,q⟩
noncomputable def FlI (I:L3.Env->Sto->Prop) (J:L3.Env->Sto->Prop) (R:D->Sto->Prop) (fl:Fl) (S:Sto):Prop:=match fl with
 | .nx ρ=>I ρ S
 | .ct ρ=>I ρ S
 | .bk ρ=>J ρ S
 | .rt d=>R d S
theorem Ok.for_ {src:Src} {tg:D->L3.Env->Option L3.Env} {body:L3.Env->M Fl} {n:Nat} (I:Nat->L3.Env->Sto->Prop) (J:L3.Env->Sto->Prop) (R:D->Sto->Prop) (hend:∀ ρ S,I n ρ S->src n S=some none)
  (step:∀ i ρ S,i<n->I i ρ S->∃ d ρ1,src i S=some (some d)/\tg d ρ=some ρ1/\Ok (body ρ1) S (FlI (I (i+1)) J R)) :
  ∀ (k i:Nat) (ρ:L3.Env) (S:Sto),k+i=n->I i ρ S->Ok (forD src tg body (k+1) i ρ) S λfl S'=>match fl with
   | .nx ρ'=>I n ρ' S'\/J ρ' S'
   | .rt d=>R d S'
   | _=>False
 | 0,i,ρ,S,hk,h=>by
  have:i=n:=by omega
  subst this
  exact ⟨.nx ρ,S,by simp only [forD,hend ρ S h],.inl h⟩
 | k+1,i,ρ,S,hk,h=>by
  obtain ⟨d,ρ1,e1,e2,h2⟩:=step i ρ S (by omega) h
  have un:forD src tg body (k+1+1) i ρ S=L3.bind (body ρ1) (λfl=>match fl with
    | .nx ρ2=>forD src tg body (k+1) (i+1) ρ2
    | .ct ρ2=>forD src tg body (k+1) (i+1) ρ2
    | .bk ρ2=>L3.ret (.nx ρ2)
    | .rt d=>L3.ret (.rt d)) S:=by
   conv=>lhs;unfold forD
   simp only [e1,e2]
   all_goals rfl
  refine Ok.cgS un (Ok.bind (h2.mono λfl S1 q=>?_))
  cases fl with
  | nx ρ2=>exact Ok.for_ I J R hend step k (i+1) ρ2 S1 (by omega) q
  | ct ρ2=>exact Ok.for_ I J R hend step k (i+1) ρ2 S1 (by omega) q
  | bk ρ2=>exact Ok.ret (.inr q)
  | rt d=>exact Ok.ret q
theorem comp_filterA {α:Type} {l:List α} {h g:α->D} {p:α->Bool} {t:D->M Bool} {f:D->M D} {S:Sto} (hl:l.length<sizeLine) (ht:∀ a∈l,t (h a) S=.ok (p a) S) (hf:∀ a∈l,p a=true->f (h a) S=.ok (g a) S):compM (srcL (l.map h)) t f (l.length+1) 0 [] S=.ok ((l.filter p).map g) S:=by
 obtain ⟨es,S',e,e1,e2⟩:=Ok.comp (src:=srcL (l.map h)) (t:=t) (f:=f) (n:=l.length) (λi S' es=>S'=S/\es=((l.take i).filter p).map g) (λS es _=>by show some (l.map h)[l.length]?=some none;rw [List.getElem?_eq_none (by simp)])
  (λi S' es hi ⟨h1,h2⟩=>by
   subst h1 h2
   refine ⟨h l[i],?_,p l[i],S',ht _ (List.getElem_mem hi),?_⟩
   ·show some (l.map h)[i]?=some (some (h l[i]))
    rw [List.getElem?_map,List.getElem?_eq_getElem hi];rfl
   ·have ta:l.take (i+1)=l.take i++[l[i]]:=List.take_succ_eq_append_getElem hi
    cases hp:p l[i] with
    | true=>
     dsimp only
     rw [if_pos rfl]
     refine ⟨g l[i],S',hf _ (List.getElem_mem hi) hp,?_,rfl,?_⟩
     ·rw [List.length_map]
      have:=List.length_filter_le p (l.take i)
      have:=List.length_take_le i l
      omega
     ·rw [ta,List.filter_append,List.map_append,List.filter_cons_of_pos hp];rfl
    | false=>
     dsimp only
     rw [if_neg Bool.false_ne_true]
     refine ⟨rfl,?_⟩
     rw [ta,List.filter_append,List.filter_cons_of_neg (by rw [hp];exact Bool.false_ne_true),List.filter_nil,List.append_nil]) (S:=S) ⟨rfl,rfl⟩
 rw [e]
 subst e1 e2
 rw [List.take_length]
noncomputable def Asc (x:Str):Prop:=∀ c∈x.cps.toList,c<128
noncomputable def bigI (j:Nat):Nat:=1000000000000000000000000000000000000000+j
mutual
noncomputable def Pln (j:Nat):D->Prop
 | .non=>True
 | .bl _=>True
 | .int i=>i.natAbs<=bigI j
 | .str x=>x.length<=45+j/\Asc x
 | .tup ds=>Plns j ds
 | .lst ds=>Plns j ds
 | .scr _=>False
 | .ref _=>False
noncomputable def Plns (j:Nat):List D->Prop
 | []=>True
 | d :: ds=>Pln j d/\Plns j ds
end
mutual
noncomputable def py:D->PyData
 | .non=>.none
 | .bl b=>.bool b
 | .int i=>.int i
 | .str x=>.str x
 | .tup ds=>.tuple (pys ds)
 | .lst ds=>.list (pys ds)
 | .scr _=>.none
 | .ref _=>.none
noncomputable def pys:List D->List PyData
 | []=>[]
 | d :: ds=>py d :: pys ds
end
mutual
noncomputable def dp:D->Nat
 | .tup ds=>dps ds+1
 | .lst ds=>dps ds+1
 | _=>0
noncomputable def dps:List D->Nat
 | []=>0
 | d :: ds=>max (dp d) (dps ds)
end
mutual
noncomputable def sz:D->Nat
 | .int _=>60
 | .str x=>10 * x.length+2
 | .tup ds=>szs ds+3
 | .lst ds=>szs ds+3
 | _=>5
noncomputable def szs:List D->Nat
 | []=>0
 | d :: ds=>sz d+2+szs ds
end
theorem Plns.of {j:Nat}:∀ {ds:List D},(∀ d∈ds,Pln j d)->Plns j ds
 | [],_=>trivial
 | d :: ds,h=>⟨h d (List.mem_cons_self ..),Plns.of λe he=>h e (List.mem_cons_of_mem _ he)⟩
mutual
theorem Pln.up {j:Nat}:∀ (d:D),Pln j d->Pln (j+1) d
 | .non,_=>trivial
 | .bl _,_=>trivial
 | .int i,h=>by have h:i.natAbs<=bigI j:=h;show i.natAbs<=bigI (j+1);unfold bigI at *;omega
 | .str x,h=>⟨by have:=h.1;omega,h.2⟩
 | .tup ds,h=>Plns.up ds h
 | .lst ds,h=>Plns.up ds h
 | .scr _,h=>h.elim
 | .ref _,h=>h.elim
theorem Plns.up {j:Nat}:∀ (ds:List D),Plns j ds->Plns (j+1) ds
 | [],_=>trivial
 | d :: ds,h=>⟨Pln.up d h.1,Plns.up ds h.2⟩
end
theorem dps_le {n:Nat}:∀ {ds:List D},(∀ d∈ds,dp d<=n)->dps ds<=n
 | [],_=>Nat.zero_le _
 | d :: ds,h=>by
  have:=h d (List.mem_cons_self ..)
  have:=dps_le (ds:=ds) λe he=>h e (List.mem_cons_of_mem _ he)
  show max (dp d) (dps ds)<=n;omega
mutual
theorem toPy_pl {j:Nat} (S:Sto):∀ (d:D) (n:Nat),Pln j d->dp d<n->toPy n S d=some (py d)
 | .non,n+1,_,_=>rfl
 | .bl _,n+1,_,_=>rfl
 | .int _,n+1,_,_=>rfl
 | .str _,n+1,_,_=>rfl
 | .tup ds,n+1,h,hn=>by
  show (mapO (toPy n S) ds).map PyData.tuple=_
  rw [toPys_pl S ds n h (by have:dps ds+1<n+1:=hn;omega)];rfl
 | .lst ds,n+1,h,hn=>by
  show (mapO (toPy n S) ds).map PyData.list=_
  rw [toPys_pl S ds n h (by have:dps ds+1<n+1:=hn;omega)];rfl
 | .scr _,_,h,_=>h.elim
 | .ref _,_,h,_=>h.elim
 | .non,0,_,h=>by omega
 | .bl _,0,_,h=>by omega
 | .int _,0,_,h=>by omega
 | .str _,0,_,h=>by omega
 | .tup _,0,_,h=>by omega
 | .lst _,0,_,h=>by omega
theorem toPys_pl {j:Nat} (S:Sto):∀ (ds:List D) (n:Nat),Plns j ds->dps ds<n->mapO (toPy n S) ds=some (pys ds)
 | [],n,_,_=>rfl
 | d :: ds,n,h,hn=>by
  have hn:max (dp d) (dps ds)<n:=hn
  simp only [mapO,toPy_pl S d n h.1 (by omega),toPys_pl S ds n h.2 (by omega)]
  rfl
end
mutual
theorem depth_pl:∀ d:D,(py d).depth<=dp d
 | .non=>by show PyData.depth .none<=_;simp [PyData.depth]
 | .bl b=>by show PyData.depth (.bool b)<=_;simp [PyData.depth]
 | .int i=>by show PyData.depth (.int i)<=_;simp [PyData.depth]
 | .str x=>by show PyData.depth (.str x)<=_;simp [PyData.depth]
 | .tup ds=>by show PyData.depth (.tuple (pys ds))<=dps ds+1;simp only [PyData.depth];have:=depths_pl ds;omega
 | .lst ds=>by show PyData.depth (.list (pys ds))<=dps ds+1;simp only [PyData.depth];have:=depths_pl ds;omega
 | .scr _=>by show PyData.depth .none<=_;simp [PyData.depth]
 | .ref _=>by show PyData.depth .none<=_;simp [PyData.depth]
theorem depths_pl:∀ ds:List D,PyData.depthAll (pys ds)<=dps ds
 | []=>by show PyData.depthAll []<=0;simp [PyData.depthAll]
 | d :: ds=>by
  have:=depth_pl d
  have:=depths_pl ds
  show PyData.depthAll (py d :: pys ds)<=max (dp d) (dps ds)
  simp only [PyData.depthAll]
  omega
end
theorem big_log {j:Nat} {i:Int} (h:i.natAbs<=bigI j) (hj:j<=1000):decide (i.natAbs.log2<1920)=true:=by
 refine decide_eq_true ?_
 by_cases z:i.natAbs=0
 ·rw [z];decide
 ·have:i.natAbs<2 ^ 140:=by unfold bigI at h;omega
  have:=(Nat.log2_lt z).mpr this
  omega
mutual
theorem show_pl {j:Nat} (hj:j<=1000):∀ d:D,Pln j d->(py d).showable=true/\(py d).hasDict=false/\(py d).shown.length<=sz d
 | .non,_=>⟨rfl,rfl,by show (PyData.shown .none).length<=5;decide⟩
 | .bl b,_=>⟨rfl,rfl,by show (PyData.shown (.bool b)).length<=5;cases b <;> decide⟩
 | .int i,h=>⟨big_log h hj,rfl,by
   have h:i.natAbs<=bigI j:=h
   have e:=int_text_length_le10 (k:=40) (a:=i) (by decide) (by unfold bigI at h;omega)
   show (Str.ofString (toString i)).length<=60
   rw [PySem.ofString_length];omega⟩
 | .str x,h=>⟨rfl,rfl,by
   show (PyData.shown (.str x)).length<=10 * x.length+2
   rw [PyData.shown_str]
   exact StrLaws.reprText_len x λc hc=>by have:=h.2 c hc;omega⟩
 | .tup ds,h=>by
  obtain ⟨a,b,c⟩:=shows_pl hj ds h
  refine ⟨by show PyData.showable (.tuple (pys ds))=true;simp only [PyData.showable];exact a,by show PyData.hasDict (.tuple (pys ds))=false;simp only [PyData.hasDict];exact b,?_⟩
  have h2:=tupleText_len_le (PyData.shownAll (pys ds))
  have h3:=PyData.shownAll_length (pys ds)
  show (PyData.shown (.tuple (pys ds))).length<=szs ds+3
  simp only [PyData.shown]
  omega
 | .lst ds,h=>by
  obtain ⟨a,b,c⟩:=shows_pl hj ds h
  refine ⟨by show PyData.showable (.list (pys ds))=true;simp only [PyData.showable];exact a,by show PyData.hasDict (.list (pys ds))=false;simp only [PyData.hasDict];exact b,?_⟩
  have h2:=listText_len_le (PyData.shownAll (pys ds))
  have h3:=PyData.shownAll_length (pys ds)
  show (PyData.shown (.list (pys ds))).length<=szs ds+3
  simp only [PyData.shown]
  omega
 | .scr _,h=>h.elim
 | .ref _,h=>h.elim
theorem shows_pl {j:Nat} (hj:j<=1000):∀ ds:List D,Plns j ds->PyData.showableAll (pys ds)=true/\PyData.hasDictAll (pys ds)=false/\((PyData.shownAll (pys ds)).map (·.length)).sum+2 * (pys ds).length<=szs ds
 | [],_=>⟨rfl,rfl,by show ((PyData.shownAll []).map (·.length)).sum+2 * 0<=0;simp [PyData.shownAll]⟩
 | d :: ds,h=>by
  obtain ⟨a,b,c⟩:=show_pl hj d h.1
  obtain ⟨a2,b2,c2⟩:=shows_pl hj ds h.2
  refine ⟨by show PyData.showableAll (py d :: pys ds)=true;simp only [PyData.showableAll,a,a2,Bool.and_self],by show PyData.hasDictAll (py d :: pys ds)=false;simp only [PyData.hasDictAll,b,b2,Bool.or_self],?_⟩
  show ((PyData.shownAll (py d :: pys ds)).map (·.length)).sum+2 * (py d :: pys ds).length<=sz d+2+szs ds
  simp only [PyData.shownAll,List.map_cons,List.sum_cons,List.length_cons]
  omega
end
structure Any (j N:Nat) (d:D):Prop where
 pl:Pln j d
 dp:dp d<=3+j
 sz:sz d<=N
theorem repr_any {j N:Nat} {d:D} (h:Any j N d) (hj:j<=40) (hN:N<=10000000) (S:Sto):reprD d S=.ok (.str (py d).shown) S:=by
 obtain ⟨a,b,c⟩:=show_pl (by omega) d h.pl
 have e:=toPy_pl S d 64 h.pl (by have:=h.dp;omega)
 have e2:reprD d S=(match toPy 64 S d with
  | some p=>(if Shows p then ret (D.str p.shown) else bad) S
  | none=>.bad):=rfl
 rw [e2,e]
 show (if Shows (py d) then ret (D.str (py d).shown) else bad) S=_
 rw [if_pos ⟨a,b,by have:=depth_pl d;have:=h.dp;omega,by have:=h.sz;rw [sizeLine_eq];omega⟩];rfl
theorem Pln.ups {j:Nat} {d:D} (h:Pln 0 d):Pln j d:=by
 induction j with
 | zero=>exact h
 | succ j ih=>exact ih.up
theorem toPy_is (n:Nat) (S:Sto):∀ ns:List Int,mapO (toPy (n+1) S) (ns.map D.int)=some (ns.map PyData.int)
 | []=>rfl
 | b :: bs=>by
  have e:toPy (n+1) S (.int b)=some (.int b):=rfl
  simp only [List.map_cons,mapO,e,toPy_is n S bs]
theorem lay_is:∀ ns:List Int,PyData.canLayAll0 (ns.map PyData.int)=true
 | []=>rfl
 | b :: bs=>by simp only [List.map_cons,PyData.canLayAll0,PyData.canLay0,lay_is bs,Bool.and_self]
theorem len_tup (ds:List D) (S:Sto):lenD (.tup ds) S=.ok (.int ds.length) S:=rfl
theorem src_tup (ds:List D) (S:Sto):srcD (.tup ds) S=.ok (srcL ds,ds.length+1) S:=rfl
theorem src_rg {n:Nat} (h:n<1000) (S:Sto):srcRg [.int (n:Int)] S=.ok (srcI 0 n,n+1) S:=by
 unfold srcRg
 have hn:(n:Int)<1000:=by omega
 have h0:(0:Int)<=n:=by omega
 have c:-(2 ^ 62)<=(n:Int)/\(n:Int)<2 ^ 62:=⟨Int.le_trans (by decide) h0,Int.lt_trans hn (by decide)⟩
 simp only [if_pos c,Int.toNat_natCast]
 rfl
theorem ix_t {ds:List D} {i:Nat} {d:D} (S:Sto) (h:ds[i]?=some d):ixD (.tup ds) (.int (i:Int)) S=.ok d S:=by
 show optM (atI ds (i:Int)) S=_
 rw [atI_nat h];rfl
theorem ix_l {ds:List D} {i:Nat} {d:D} (S:Sto) (h:ds[i]?=some d):ixD (.lst ds) (.int (i:Int)) S=.ok d S:=by
 show optM (atI ds (i:Int)) S=_
 rw [atI_nat h];rfl
theorem src_i0 (n i:Nat) (S:Sto):srcI 0 n i S=some ((List.range n).map λ(k:Nat)=>D.int (k:Int))[i]?:=by
 show some (if i<n then some (D.int (0+i)) else none)=_
 by_cases h:i<n
 ·rw [if_pos h,List.getElem?_map,List.getElem?_range h,Int.zero_add];rfl
 ·rw [if_neg h,List.getElem?_eq_none (by simpa using h)]
theorem ints_of (ns:List Int):intsOf (ns.map D.int)=some ns:=by
 induction ns with
 | nil=>rfl
 | cons n ns ih=>simp only [List.map_cons,intsOf,ih,Option.map_some]
theorem map_get {α β:Type} {f:α->β} {l:List α} {i:Nat} {a:α} (h:l[i]?=some a):(l.map f)[i]?=some (f a):=by rw [List.getElem?_map,h];rfl
theorem pop_r {S:Sto} {n j:Nat} {es:List D} {y:D} (e:S[n]?=some (.lst es)) (h:es[j]?=some y) (hs:j<1000):popD (.ref n) [.int (j:Int)] S=.ok y (S.set n (.lst (es.eraseIdx j))):=by
 have hj:=(List.getElem?_eq_some_iff.mp h).1
 have c:-(2 ^ 63)<=(j:Int)/\(j:Int)<2 ^ 63:=⟨Int.le_trans (by decide) (Int.natCast_nonneg j),Int.lt_trans (show (j:Int)<1000 by omega) (by decide)⟩
 have i:ixN es.length (j:Int)=some j:=by
  unfold ixN
  rw [if_pos (by omega)]
  simp only [Int.toNat_natCast]
  rw [if_pos (by omega)]
 simp only [popD,e,if_pos c,i,h]
theorem len_l (ds:List D) (S:Sto):lenD (.lst ds) S=.ok (.int ds.length) S:=rfl
end L3
end
section
set_option maxHeartbeats 1000000
namespace L3
open PySem PySem.Spec PyProof.Rows L2
theorem Ok.nx {α:Type} {m:M α} {S:Sto} {Q:α->Sto->Prop} (h:Ok m S Q):Ok (L3.nx m) S Q:=by
 obtain ⟨a,S1,e,q⟩:=h
 exact ⟨a,S1,by unfold L3.nx;rw [e],q⟩
theorem nx_ok {α:Type} {m:M α} {S S1:Sto} {a:α} (e:m S=.ok a S1):L3.nx m S=.ok a S1:=by unfold L3.nx;rw [e]
end L3
namespace L3
open PySem PySem.Spec PyProof.Rows L2
end L3
end

section
set_option maxHeartbeats 1000000
namespace L3
open PySem PySem.Spec PyProof.Rows L2
noncomputable def nxt {α:Type} (q:EvK) (lc:Lc) (sts:List Stmt) (k:Fl->M α):Fl->M α:=λfl=>match fl with
 | .nx ρ'=>blkK q lc sts ρ' k
 | fl=>k fl
section
variable {α:Type} {q:EvK} {lc:Lc} {st:Stmt} {sts:List Stmt} {ρ:L3.Env} {k:Fl->M α} {S:Sto} {Q:α->Sto->Prop} {P:Nat->Sto->Prop}
theorem Ok.first (h:Ok (q.s lc st ρ (nxt q lc sts k)) S Q):Ok (blkK q lc (st :: sts) ρ k) S Q:=h
theorem Ok.nxt (h:Ok (q.s lc st ρ (L3.nxt q lc sts k)) S Q):Ok (L3.nxt q lc (st :: sts) k (.nx ρ)) S Q:=h
theorem Ok.neg {c:Prop} [Decidable c] {a b:M α} (h:¬ c) (k:Ok b S Q):Ok (if c then a else b) S Q:=by rw [if_neg h];exact k
end
theorem nxb {α β:Type} {m:M α} {k:α->M β} {S S':Sto} {a:α} (e:m S=.ok a S'):L3.bind (L3.nx m) k S=k a S':=bind_ok (by unfold L3.nx;rw [e])
theorem szs_all {n:Nat}:∀ {ds:List D},(∀ d∈ds,sz d<=n)->szs ds<=(n+2) * ds.length
 | [],_=>Nat.le_refl _
 | d :: ds,h=>by
  have h1:=h d (by simp)
  have h2:=szs_all (ds:=ds) λx hx=>h x (by simp [hx])
  show sz d+2+szs ds<=(n+2) * (ds.length+1)
  rw [Nat.mul_add]
  omega
theorem cut_ints (ns:List Int):∃ ms:List Int,cutD (ns.map D.int) none (some 63)=ms.map D.int:=⟨(ns.drop (HT.sIx ns.length 0 none)).take (HT.sIx ns.length ns.length (some 63)-HT.sIx ns.length 0 none),by simp [cutD,List.map_drop,List.map_take]⟩
theorem sixL {n:Nat} (h:n<=6):n<sizeLine:=Nat.lt_of_le_of_lt h (by decide)
theorem src_end (n:Nat) (S:Sto):srcI 0 n n S=some none:=by
 show some (if n<n then _ else none)=some none
 rw [if_neg (Nat.lt_irrefl _)]
theorem src_at {n i:Nat} (h:i<n) (S:Sto):srcI 0 n i S=some (some (.int (i:Int))):=by rw [src_i0,map_get (List.getElem?_range h)]
structure Sml (n N:Nat) (d:D):Prop where
 pl:Pln 0 d
 dp:dp d<=n
 sz:sz d<=N
noncomputable def Smls (n N:Nat) (ds:List D):Prop:=∀ d∈ds,Sml n N d
theorem Smls.nil {n N:Nat}:Smls n N []:=λd h=>by cases h
theorem Smls.cons {n N:Nat} {d:D} {ds:List D} (h:Sml n N d) (hs:Smls n N ds):Smls n N (d :: ds):=λx hx=>by
 rcases List.mem_cons.mp hx with z | z
 ·rw [z];exact h
 ·exact hs x z
theorem Smls.map {α:Type} {n N:Nat} {f:α->D} {l:List α} (h:∀ a∈l,Sml n N (f a)):Smls n N (l.map f):=λx hx=>by
 obtain ⟨a,ha,rfl⟩:=List.mem_map.mp hx
 exact h a ha
theorem Sml.mono {n N n' N':Nat} {d:D} (h:Sml n N d) (h1:n<=n') (h2:N<=N'):Sml n' N' d:=⟨h.pl,Nat.le_trans h.dp h1,Nat.le_trans h.sz h2⟩
theorem Sml.up {n N n' N':Nat} {d:D} (h:Sml n N d) (h1:n<=n':=by decide) (h2:N<=N':=by decide):Sml n' N' d:=h.mono h1 h2
theorem Sml.tup {n N m:Nat} {ds:List D} (h:Smls n N ds) (hl:ds.length<=m):Sml (n+1) ((N+2) * m+3) (.tup ds):=by
 have s:=szs_all (n:=N) λd hd=>(h d hd).sz
 have d1:=dps_le (n:=n) λd hd=>(h d hd).dp
 refine ⟨Plns.of λd hd=>(h d hd).pl,by show dps ds+1<=n+1;omega,?_⟩
 show szs ds+3<=_
 have:=Nat.mul_le_mul_left (N+2) hl
 omega
theorem Sml.big {n N i:Nat} (h:i<=10000000000) (hN:60<=N:=by decide):Sml n N (.int (i:Int)):=⟨by
 show ((i:Int)).natAbs<=bigI 0
 have:bigI 0≥10000000000:=by decide +kernel
 omega,Nat.zero_le _,hN⟩
theorem Sml.bl {n N:Nat} {b:Bool} (hN:5<=N:=by decide):Sml n N (.bl b):=⟨trivial,Nat.zero_le _,hN⟩
theorem Sml.any {n N:Nat} {d:D} (h:Sml n N d) (hn:n<=43):Any 40 N d:=⟨h.pl.ups,by have:=h.dp;omega,h.sz⟩
theorem Sml.repr {n N:Nat} {d:D} (h:Sml n N d) (hn:n<=43:=by decide) (hN:N<=10000000:=by decide) (S:Sto):reprD d S=.ok (.str (py d).shown) S:=repr_any (h.any hn) (by omega) hN S
theorem lt_ii (a b:Int) (S:Sto):cmpD .Lt (.int a) (.int b) S=.ok (.bl (decide (a<b))) S:=rfl
theorem add_nn (a b:Nat) (S:Sto):addD (.int (a:Int)) (.int (b:Int)) S=.ok (.int ((a+b:Nat):Int)) S:=by
 show R.ok (D.int ((a:Int)+(b:Int))) S=_
 rw [show ((a:Int)+(b:Int))=((a+b:Nat):Int) by omega]
theorem nx_bind {α β:Type} {m:M α} {k:α->M β} {S:Sto} {Q:β->Sto->Prop} (h:Ok m S λa S1=>Ok (k a) S1 Q):Ok (L3.bind (L3.nx m) k) S Q:=Ok.bind (Ok.nx h)
theorem ok_ext {α:Type} {m:M α} {S:Sto} {a:α} (h:Ok m S λd S'=>d=a/\S'=S):m S=.ok a S:=by
 obtain ⟨d,S',e,rfl,rfl⟩:=h
 exact e
noncomputable def tapeEnd (p m cell:D):M D:=
 bind (modD cell (.int 998244353)) λa1=>bind (ixD p (.int 3)) λt=>bind (mulD (.int 7919) t) λb1=>bind (addD a1 b1) λc1=>bind (mulD c1 (.int 48271)) λc2=>bind (modD c2 (.int 2147483647)) λmixed=>
 bind (fdivD mixed (.int 13)) λe1=>bind (ixD p (.int 3)) λt=>bind (mulD (.int 104729) t) λf1=>bind (ixD p (.int 3)) λt2=>bind (mulD f1 t2) λf2=>bind (addD e1 f2) λe2=>bind (mulD e2 (.int 69621)) λe3=>bind (modD e3 (.int 2147483629)) λmixed2=>bind (fdivD mixed2 (.int 64)) λg1=>bind (modD g1 m) λg2=>ret g2
noncomputable def tapeIf (p m cell:D) (z:Bool):M D:=
 if z=true then bind (fdivD cell m) λv=>bind (setD p (.int 2) v) λ_=>bind (modD cell m) λd=>ret d
 else tapeEnd p m cell
noncomputable def tapeRest (p m cell:D):M D:=
 bind (ixD p (.int 1)) λx=>bind (addD x (.int 1)) λv=>bind (setD p (.int 1) v) λ_=>
 bind (powD (.int 10) (.int 18)) λy=>bind (cmpD .GtE cell y) λd=>bind (asB d) λc=>if c=true then (bind (ixD p (.int 1)) λa=>bind (ixD p (.int 0)) λcs=>bind (lenD cs) λn=>bind (cmpD .LtE a n) λd=>bind (asB d) λz=>tapeIf p m cell z) else tapeIf p m cell false
noncomputable def tapeM (p m:D):M D:=
 bind (ixD p (.int 3)) λx=>bind (addD x (.int 1)) λt=>bind (setD p (.int 3) t) λ_=>
 bind (ixD p (.int 2)) λx=>bind (cmpD .Gt x (.int 0)) λd=>bind (asB d) λz=>if z=true then
  bind (ixD p (.int 2)) λx=>bind (modD x m) λf=>bind (ixD p (.int 2)) λx=>bind (fdivD x m) λv=>bind (setD p (.int 2) v) λ_=>ret f
 else bind (ixD p (.int 0)) λc=>bind (cmpD .NotEq c (.lst [])) λd=>bind (asB d) λz=>if z=true then
   bind (ixD p (.int 0)) λc=>bind (ixD p (.int 1)) λi=>bind (ixD p (.int 0)) λc2=>bind (lenD c2) λn=>bind (modD i n) λj=>bind (ixD c j) λcell=>tapeRest p m cell
  else tapeRest p m (.int 3)
noncomputable def tapeD (ns:List Int) (a l t:Int):O:=.lst [.lst (ns.map D.int),.int a,.int l,.int t]
section
variable {S:Sto} {p:Nat} {ns:List Int} {a l t:Int} (h:S[p]?=some (tapeD ns a l t))
include h
theorem t_0:ixD (.ref p) (.int 0) S=.ok (.lst (ns.map D.int)) S:=by simp only [ixD,h,tapeD];rfl
theorem t_1:ixD (.ref p) (.int 1) S=.ok (.int a) S:=by simp only [ixD,h,tapeD];rfl
theorem t_2:ixD (.ref p) (.int 2) S=.ok (.int l) S:=by simp only [ixD,h,tapeD];rfl
theorem t_3:ixD (.ref p) (.int 3) S=.ok (.int t) S:=by simp only [ixD,h,tapeD];rfl
theorem t_s1 (v:Int):setD (.ref p) (.int 1) (.int v) S=.ok .non (S.set p (tapeD ns v l t)):=by simp only [setD,h,tapeD];rfl
theorem t_s2 (v:Int):setD (.ref p) (.int 2) (.int v) S=.ok .non (S.set p (tapeD ns a v t)):=by simp only [setD,h,tapeD];rfl
theorem t_s3 (v:Int):setD (.ref p) (.int 3) (.int v) S=.ok .non (S.set p (tapeD ns a l v)):=by simp only [setD,h,tapeD];rfl
end
theorem ne_nilL (ns:List Int) (S:Sto):cmpD .NotEq (.lst (ns.map D.int)) (.lst []) S=.ok (.bl (!ns.isEmpty)) S:=by
 show eqP true (.lst (ns.map D.int)) (.lst []) S=_
 have e:toPy 64 S (.lst (ns.map D.int))=some (.list (ns.map PyData.int)):=by
  show (mapO (toPy 63 S) (ns.map D.int)).map PyData.list=_
  rw [toPy_is 62 S ns];rfl
 unfold eqP
 rw [e]
 show (if PyData.canLay0 (.list (ns.map PyData.int))=true/\PyData.canLay0 (.list [])=true/\min (PyData.depth (.list (ns.map PyData.int))) (PyData.depth (.list []))<=60 then ret (D.bl (!PyData.eqv (.list (ns.map PyData.int)) (.list []))) else bad) S=_
 have hd:PyData.depth (.list [])<=60:=by simp [PyData.depth,PyData.depthAll]
 rw [if_pos ⟨by simp only [PyData.canLay0];exact lay_is ns,rfl,by omega⟩]
 cases ns with
 | nil=>rfl
 | cons n ns=>rfl
theorem tapeEnd_ok {S:Sto} {p:Nat} {ns:List Int} {a l t m c:Int} (h:S[p]?=some (tapeD ns a l t)) (hm:0<m) (ht:0<=t) (htb:t<2000000):∃ r:Int,tapeEnd (.ref p) (.int m) (.int c) S=.ok (.int r) S/\0<=r/\r<m:=by
 unfold tapeEnd
 rw [bind_ok (mod_i (by decide) S),bind_ok (t_3 h),bind_ok (mul_i (.inl ⟨by decide,by decide⟩) S),bind_ok (add_i _ _ S),bind_ok (mul_i (.inr ⟨by decide,by decide⟩) S),bind_ok (mod_i (by decide) S),bind_ok (fdiv_i (by decide) (by decide) S),
  bind_ok (t_3 h),bind_ok (mul_i (.inl ⟨by decide,by decide⟩) S),bind_ok (t_3 h),bind_ok (mul_i (.inr ⟨by omega,by omega⟩) S),bind_ok (add_i _ _ S),bind_ok (mul_i (.inr ⟨by decide,by decide⟩) S),bind_ok (mod_i (by decide) S),bind_ok (fdiv_i (by decide) (by decide) S),bind_ok (mod_i hm S)]
 exact ⟨_,rfl,Int.emod_nonneg _ (Int.ne_of_gt hm),Int.emod_lt_of_pos _ hm⟩
theorem tapeRest_ok {S:Sto} {p:Nat} {ns:List Int} {a l t m c:Int} (h:S[p]?=some (tapeD ns a l t)) (ha:0<=a) (hl:0<=l) (ht:0<=t) (htb:t<2000000) (hm:0<m) (hm2:m<1073741824) :
  ∃ r l',tapeRest (.ref p) (.int m) (.int c) S=.ok (.int r) (S.set p (tapeD ns (a+1) l' t))/\0<=r/\r<m/\0<=l':=by
 unfold tapeRest
 rw [bind_ok (t_1 h),bind_ok (add_i _ _ S),bind_ok (t_s1 h _)]
 have h1:=set_at (o':=tapeD ns (a+1) l t) h
 have hp:powD (.int 10) (.int 18) (S.set p (tapeD ns (a+1) l t))=.ok (.int 1000000000000000000) (S.set p (tapeD ns (a+1) l t)):=rfl
 rw [bind_ok hp]
 have hc:cmpD .GtE (.int c) (.int 1000000000000000000) (S.set p (tapeD ns (a+1) l t))=.ok (.bl (decide (1000000000000000000<=c))) (S.set p (tapeD ns (a+1) l t)):=rfl
 rw [bind_ok hc,bind_ok (show asB _ _=_ from rfl)]
 have fin:∀ z:Bool,(z=true->1000000000000000000<=c)->∃ r l',tapeIf (.ref p) (.int m) (.int c) z (S.set p (tapeD ns (a+1) l t))=.ok (.int r) (S.set p (tapeD ns (a+1) l' t))/\0<=r/\r<m/\0<=l':=λz hz=>by
  unfold tapeIf
  cases z with
  | true=>
   rw [if_pos rfl,bind_ok (fdiv_i hm hm2 _),bind_ok (t_s2 h1 _),bind_ok (mod_i hm _),set_set]
   exact ⟨_,c / m,rfl,Int.emod_nonneg _ (Int.ne_of_gt hm),Int.emod_lt_of_pos _ hm,Int.ediv_nonneg (Int.le_trans (by decide) (hz rfl)) (Int.le_of_lt hm)⟩
  | false=>
   rw [if_neg Bool.false_ne_true]
   obtain ⟨r,e,r1,r2⟩:=tapeEnd_ok (c:=c) h1 hm ht htb
   exact ⟨r,l,e,r1,r2,hl⟩
 by_cases hz:(1000000000000000000:Int)<=c
 ·rw [decide_eq_true hz,if_pos rfl,bind_ok (t_1 h1),bind_ok (t_0 h1),bind_ok (len_ints ns _)]
  have hc2:cmpD .LtE (.int (a+1)) (.int (ns.length:Int)) (S.set p (tapeD ns (a+1) l t))=.ok (.bl (decide (a+1<=(ns.length:Int)))) (S.set p (tapeD ns (a+1) l t)):=rfl
  rw [bind_ok hc2,bind_ok (show asB _ _=_ from rfl)]
  exact fin _ λ_=>hz
 ·rw [decide_eq_false hz,if_neg Bool.false_ne_true]
  exact fin _ λz=>by cases z
theorem tapeM_ok {S:Sto} {p:Nat} {ns:List Int} {a l t m:Int} (h:S[p]?=some (tapeD ns a l t)) (ha:0<=a) (hl:0<=l) (ht:0<=t) (htb:t<1000000) (hm:0<m) (hm2:m<1073741824) :
  ∃ r a' l',tapeM (.ref p) (.int m) S=.ok (.int r) (S.set p (tapeD ns a' l' (t+1)))/\0<=r/\r<m/\0<=a'/\0<=l':=by
 unfold tapeM
 rw [bind_ok (t_3 h),bind_ok (add_i _ _ S),bind_ok (t_s3 h _)]
 have h1:=set_at (o':=tapeD ns a l (t+1)) h
 have hc:cmpD .Gt (.int l) (.int 0) (S.set p (tapeD ns a l (t+1)))=.ok (.bl (decide (0<l))) (S.set p (tapeD ns a l (t+1))):=rfl
 rw [bind_ok (t_2 h1),bind_ok hc,bind_ok (show asB _ _=_ from rfl)]
 by_cases hz:0<l
 ·rw [decide_eq_true hz,if_pos rfl,bind_ok (t_2 h1),bind_ok (mod_i hm _),bind_ok (t_2 h1),bind_ok (fdiv_i hm hm2 _),bind_ok (t_s2 h1 _),set_set]
  exact ⟨_,a,l / m,rfl,Int.emod_nonneg _ (Int.ne_of_gt hm),Int.emod_lt_of_pos _ hm,ha,Int.ediv_nonneg hl (Int.le_of_lt hm)⟩
 ·rw [decide_eq_false hz,if_neg Bool.false_ne_true,bind_ok (t_0 h1),bind_ok (ne_nilL ns _),bind_ok (show asB _ _=_ from rfl)]
  have fin:∀ c:Int,∃ r a' l',tapeRest (.ref p) (.int m) (.int c) (S.set p (tapeD ns a l (t+1)))=.ok (.int r) (S.set p (tapeD ns a' l' (t+1)))/\0<=r/\r<m/\0<=a'/\0<=l':=λc=>by
   obtain ⟨r,l',e,q1,q2,q3⟩:=tapeRest_ok (c:=c) h1 ha hl (by omega) (by omega) hm hm2
   rw [set_set] at e
   exact ⟨r,a+1,l',e,q1,q2,by omega,q3⟩
  cases ns with
  | nil=>
   rw [show (!([]:List Int).isEmpty)=false from rfl,if_neg Bool.false_ne_true]
   exact fin 3
  | cons n0 ns0=>
   rw [show (!(n0 :: ns0).isEmpty)=true from rfl,if_pos rfl,bind_ok (t_0 h1),bind_ok (t_1 h1),bind_ok (t_0 h1),bind_ok (len_ints _ _)]
   have hn:0<((n0 :: ns0).length:Int):=by simp only [List.length_cons];omega
   rw [bind_ok (mod_i hn _)]
   obtain ⟨z,e⟩:=ix_ints (ns:=n0 :: ns0) ha (by omega) (S.set p (tapeD (n0 :: ns0) a l (t+1)))
   rw [bind_ok e]
   exact fin z
noncomputable def Ft (ns:List Int) (p N:Nat) (S:Sto):Prop:=∃ a l t:Int,S[p]?=some (tapeD ns a l t)/\0<=a/\0<=l/\0<=t/\t+N<1000000
theorem Ft.less {ns:List Int} {p N K:Nat} {S:Sto} (h:Ft ns p N S) (hm:K<=N):Ft ns p K S:=by
 obtain ⟨a,l,t,e,h1,h2,h3,h4⟩:=h
 exact ⟨a,l,t,e,h1,h2,h3,by omega⟩
theorem Ft.keep {ns:List Int} {p N:Nat} {S S':Sto} (h:Ft ns p N S) (e:S'[p]?=S[p]?):Ft ns p N S':=by
 obtain ⟨a,l,t,e1,h1⟩:=h
 exact ⟨a,l,t,by rw [e];exact e1,h1⟩
theorem tapeM_at {ns:List Int} {p N m:Nat} {S:Sto} (h:Ft ns p (N+1) S) (hm:0<m) (hm2:m<1000000):Ok (tapeM (.ref p) (.int (m:Int))) S λd S'=>∃ r:Nat,d=.int (r:Int)/\r<m/\Ft ns p N S'/\S'.length=S.length/\∀ q,q≠p->S'[q]?=S[q]?:=by
 obtain ⟨a,l,t,e,h1,h2,h3,h4⟩:=h
 obtain ⟨r,a',l',e1,r0,r1,ha,hl⟩:=tapeM_ok (m:=(m:Int)) e h1 h2 h3 (by omega) (by omega) (by omega)
 obtain ⟨r,rfl⟩:=Int.eq_ofNat_of_zero_le r0
 refine ⟨_,_,e1,r,rfl,by omega,⟨a',l',t+1,?_,ha,hl,by omega,by omega⟩,by simp,λq hq=>?_⟩
 ·rw [List.getElem?_set_self (List.getElem?_eq_some_iff.mp e).1]
 ·rw [List.getElem?_set_ne (Ne.symm hq)]
end L3
end
section
set_option maxHeartbeats 1000000
namespace L3.Rk
open PySem PySem.Spec PyProof.Rows L2
theorem idx_up (x:Int):∀ s:List Int,s.Pairwise (·<=·)->x∈s->s.findIdx? (λz=>z==x)=some (s.countP λz=>decide (z<x))
 | [],_,h=>by cases h
 | y :: s,hs,h=>by
  have hy:=List.pairwise_cons.mp hs
  rw [List.findIdx?_cons]
  by_cases q:y=x
  ·have c0:(y :: s).countP (λz=>decide (z<x))=0:=List.countP_eq_zero.mpr λz hz=>by
    rcases List.mem_cons.mp hz with e | e
    ·rw [e,q];simp
    ·have:=hy.1 z e
     simp;omega
   rw [c0,q];simp
  ·have hx:x∈s:=(List.mem_cons.mp h).resolve_left λz=>q z.symm
   have:=hy.1 x hx
   have e:(y==x)=false:=by simp [q]
   have c:decide (y<x)=true:=decide_eq_true (by omega)
   have cc:(y :: s).countP (λz=>decide (z<x))=s.countP (λz=>decide (z<x))+1:=List.countP_cons_of_pos c
   rw [e,idx_up x s hy.2 hx,cc]
   rfl
theorem cnt_srt (x:Int) (l:List Int):(srt l).countP (λz=>decide (z<x))=l.countP λz=>decide (z<x):=(srt_perm l).countP_eq _
theorem index_l {ns:List Int} {x:Int} {j:Nat} (hj:j<100000) (h:ns.findIdx? (λz=>z==x)=some j) (S:Sto):ixOfD (.lst (ns.map D.int)) [.int x] S=.ok (.int (j:Int)) S:=by
 have e:toPy 64 S (.lst (ns.map D.int))=some (.list (ns.map PyData.int)):=by
  show (mapO (toPy 63 S) (ns.map D.int)).map PyData.list=_
  rw [toPy_is 62 S ns];rfl
 show ixLs (.lst (ns.map D.int)) (.int x) S=_
 unfold ixLs
 rw [show toPy 64 S (.int x)=some (.int x) from rfl,e]
 simp only
 have hd:PyData.depth (.int x)=0:=by simp [PyData.depth]
 rw [if_pos ⟨rfl,lay_is ns,by rw [hd];omega⟩]
 have f:(ns.map PyData.int).findIdx? (λz=>PyData.eqv z (.int x))=some j:=by
  rw [List.findIdx?_map,<- h]
  congr 1
 rw [f]
 simp only
 rw [if_pos hj];rfl
theorem sorted_t {ns:List Int} (h:ns.length<64) (S:Sto):sortedD (.tup (ns.map D.int)) S=.ok (.lst ((srt ns).map D.int)) S:=by
 unfold sortedD
 rw [bind_ok (show seqOf (.tup (ns.map D.int)) S=.ok (ns.map D.int) S from rfl),ints_of]
 show (if ns.length<64 then ret (D.lst ((srt ns).map D.int)) else bad) S=_
 rw [if_pos h];rfl
noncomputable def rk (l:List Int) (x:Int):Nat:=l.countP λz=>decide (z<x)
theorem rk_lt {l:List Int} {x:Int} (h:x∈l):rk l x<l.length:=by
 have h1:rk l x<=l.length:=List.countP_le_length
 refine Nat.lt_of_le_of_ne h1 λe=>?_
 have:=List.countP_eq_length.mp e x h
 simp at this
theorem rk_mono (l:List Int) {x y:Int} (h:x<=y):rk l x<=rk l y:=List.countP_mono_left λz _ q=>by
 simp only [decide_eq_true_eq] at q ⊢
 omega
theorem rk_str:∀ {l:List Int} {x y:Int},x∈l->x<y->rk l x<rk l y
 | z :: l,x,y,h,q=>by
  unfold rk
  rw [List.countP_cons,List.countP_cons]
  rcases List.mem_cons.mp h with e | e
  ·subst e
   have:=rk_mono l (Int.le_of_lt q)
   unfold rk at this
   rw [if_neg (by simp),if_pos (by simpa using q)]
   omega
  ·have:=rk_str e q
   unfold rk at this
   by_cases c:z<x
   ·rw [if_pos (by simpa using c),if_pos (by simp;omega)];omega
   ·rw [if_neg (by simpa using c)];omega
theorem rk_iff {l:List Int} {x y:Int} (h:x∈l):rk l x<rk l y↔x<y:=by
 refine ⟨λq=>?_,rk_str h⟩
 by_cases c:x<y
 ·exact c
 ·have:=rk_mono l (show y<=x by omega);omega
theorem srt_rk {l:List Int} {x:Int} (h:x∈l):(srt l)[rk l x]?=some x:=by
 have ix:=idx_up x _ (srt_up l) ((srt_perm l).mem_iff.mpr h)
 rw [cnt_srt] at ix
 obtain ⟨h1,h2,_⟩:=List.findIdx?_eq_some_iff_getElem.mp ix
 show (srt l)[List.countP (λz=>decide (z<x)) l]?=some x
 rw [List.getElem?_eq_getElem h1]
 exact congrArg some (by simpa using h2)
theorem by_range (l:List Int):l=(List.range l.length).map λj=>l.getD j 0:=by
 apply List.ext_getElem
 ·simp
 ·intro i h1 h2
  simp [List.getElem_eq_getD,List.getD_eq_getElem?_getD,h1]
theorem rk_range (l:List Int) (x:Int):rk l x=(List.range l.length).countP λj=>decide (l.getD j 0<x):=by
 have:rk l x=((List.range l.length).map λj=>l.getD j 0).countP λz=>decide (z<x):=by rw [<- by_range];rfl
 rw [this,List.countP_map];rfl
noncomputable def rks (l:List Int):List Nat:=l.map (rk l)
theorem rks_at {l:List Int} {i:Nat} (h:i<l.length):(rks l)[i]?=some (rk l (l.getD i 0)):=by
 unfold rks
 rw [List.getElem?_map,List.getElem?_eq_getElem h,List.getD_eq_getElem?_getD,List.getElem?_eq_getElem h];rfl
theorem getD_mem {l:List Int} {i:Nat} (h:i<l.length):l.getD i 0∈l:=by
 rw [List.getD_eq_getElem?_getD,List.getElem?_eq_getElem h];exact List.getElem_mem h
theorem rks_iff {a b:List Int} (hl:a.length=b.length):rks a=rks b↔∀ i j,i<a.length->j<a.length->(a.getD i 0<a.getD j 0↔b.getD i 0<b.getD j 0):=by
 constructor
 ·intro e i j hi hj
  have e1:=rks_at hi
  have e2:=rks_at hj
  rw [e,rks_at (by omega)] at e1 e2
  have e1:=Option.some.inj e1
  have e2:=Option.some.inj e2
  rw [<- rk_iff (l:=a) (getD_mem hi),<- rk_iff (l:=b) (getD_mem (by omega)),e1,e2]
 ·intro h
  apply List.ext_getElem?
  intro i
  by_cases q:i<a.length
  ·rw [rks_at q,rks_at (by omega),rk_range,rk_range,<- hl]
   congr 1
   apply List.countP_congr
   intro j hj
   have hj:=List.mem_range.mp hj
   have:=h j i hj q
   simp only [decide_eq_true_eq]
   exact this
  ·rw [List.getElem?_eq_none (by unfold rks;rw [List.length_map];omega),List.getElem?_eq_none (by unfold rks;rw [List.length_map];omega)]
noncomputable def byRk (g num:List Int):List Int:=g.map λx=>num.getD (rk g x) 0
theorem up_lt {num:List Int} (u:num.Pairwise (· < ·)) {i j:Nat} (hi:i<num.length) (hj:j<num.length):num.getD i 0<num.getD j 0↔i<j:=by
 have e:∀ {i:Nat} (h:i<num.length),num.getD i 0=num[i]:=λh=>by rw [List.getD_eq_getElem?_getD,List.getElem?_eq_getElem h];rfl
 rw [e hi,e hj]
 have p:=List.pairwise_iff_getElem.mp u
 constructor
 ·intro q
  by_cases c:i<j
  ·exact c
  ·by_cases d:i=j
   ·subst d;omega
   ·have:=p j i hj hi (by omega);omega
 ·intro c;exact p i j hi hj c
theorem byRk_lt {g num:List Int} (hl:num.length=g.length) (u:num.Pairwise (· < ·)) {x y:Int} (hx:x∈g) (hy:y∈g):num.getD (rk g x) 0<num.getD (rk g y) 0↔x<y:=by
 rw [up_lt u (by rw [hl];exact rk_lt hx) (by rw [hl];exact rk_lt hy),rk_iff hx]
theorem byRk_rk {g num:List Int} (hl:num.length=g.length) (u:num.Pairwise (· < ·)) {x:Int} (hx:x∈g):rk (byRk g num) (num.getD (rk g x) 0)=rk g x:=by
 unfold byRk
 rw [rk,List.countP_map]
 unfold rk
 apply List.countP_congr
 intro z hz
 simp only [Function.comp,decide_eq_true_eq]
 exact byRk_lt hl u hz hx
theorem byRk_rks {g num:List Int} (hl:num.length=g.length) (u:num.Pairwise (· < ·)):rks (byRk g num)=rks g:=by
 unfold rks
 rw [show (byRk g num).map (rk (byRk g num))=g.map λx=>rk (byRk g num) (num.getD (rk g x) 0) by unfold byRk;rw [List.map_map];rfl]
 exact List.map_congr_left λx hx=>byRk_rk hl u hx
theorem byRk_back {g num:List Int} (hl:num.length=g.length) (u:num.Pairwise (· < ·)):byRk (byRk g num) (srt g)=g:=by
 have:byRk (byRk g num) (srt g)=g.map λx=>(srt g).getD (rk (byRk g num) (num.getD (rk g x) 0)) 0:=by
  conv=>lhs;unfold byRk
  rw [show (byRk g num)=g.map λx=>num.getD (rk g x) 0 from rfl,List.map_map];rfl
 rw [this]
 conv=>rhs;rw [<- List.map_id g]
 refine List.map_congr_left λx hx=>?_
 rw [byRk_rk hl u hx,List.getD_eq_getElem?_getD,srt_rk hx];rfl
theorem srt_str {l:List Int} (nd:l.Nodup):(srt l).Pairwise (· < ·):=by
 have u:=srt_up l
 have n:(srt l).Pairwise (·≠·):=(srt_perm l).nodup_iff.mpr nd
 exact (u.and n).imp λ{a b} ⟨h1,h2⟩=>by omega
end L3.Rk
end
section
set_option maxHeartbeats 1000000
namespace L3.K52
open PySem PySem.Spec PyProof.Rows L2
noncomputable def nth (l:List Stmt) (i:Nat):Stmt:=l.getD i (.Pass ⟨0,0,0,0⟩)
noncomputable def top (i:Nat):Stmt:=nth PySem.Challenge.pw_handnames_k52_great_names_changed.main.body i
noncomputable def forBody:Stmt->List Stmt
 | .For _ _ b _ _=>b
 | .While _ b _ _=>b
 | _=>[]
noncomputable abbrev z3_F:Fd:=fdOf (top 1) []
noncomputable abbrev z0_F:Fd:=fdOf (top 2) []
noncomputable abbrev z6_F:Fd:=fdOf (top 3) []
noncomputable abbrev z5_F:Fd:=fdOf (top 5) ["return"]
noncomputable abbrev z7_F:Fd:=fdOf (top 6) []
noncomputable abbrev z1_F:Fd:=fdOf (top 7) ["_law_some"]
noncomputable abbrev z4_F:Fd:=fdOf (top 8) []
noncomputable abbrev z2_F:Fd:=fdOf (top 9) []
noncomputable abbrev law_F:Fd:=fdOf (top 10) []
noncomputable abbrev ix_z3:Nat:=0
noncomputable abbrev ix_z0:Nat:=1
noncomputable abbrev ix_z6:Nat:=2
noncomputable abbrev ix_z5:Nat:=3
noncomputable abbrev ix_z7:Nat:=4
noncomputable abbrev ix_z1:Nat:=5
noncomputable abbrev ix_z4:Nat:=6
noncomputable abbrev ix_z2:Nat:=7
noncomputable abbrev ix_law:Nat:=8
noncomputable def Tb:List Fd:=[z3_F,z0_F,z6_F,z5_F,z7_F,z1_F,z4_F,z2_F,law_F]
noncomputable def Γ:Gm:=⟨("changed",.fn 0 2) :: ("places_of",.fn 1 1) :: ("alike",.fn 2 2) :: ("_law_tape",.fn 3 1) :: ("_law_draw",.fn 4 2) :: ("_law_greats",.fn 5 2) :: ("_law_alike",.fn 6 2) :: ("_law_others",.fn 7 2) :: ("law",.fn 8 1) :: [],λc c0=>c0==0||c==c0,[],[]⟩
noncomputable def Rs:Rules:=⟨[rConst,rName,rBin,rCmp,rIx,rTup,rLst,rFn,rLen,rTuple,rList,rRepr,rSorted,rIf,rNeg,rDct,rSl,rRev,rComp1,rCompX,rIndex,rPop,rGet],[tBool,tCmp],[sIf,sFor,sRetL,sRet,sSetL,sSet,sItem],[iRange1,iSeq]⟩
noncomputable abbrev rn (k i:Nat) (ds:List D):M D:=runs Rs Γ Tb k i ds
theorem z3_run (C:Cf) (qa qb:D):runK Rs Γ C z3_F [qa,qb]=bind (nx (bind (C 1 [qa]) λx2=>bind (srcD x2) λsm3=>compM sm3.1 (λd1=>ret true) (λd1=>bind (ixD qb d1) λx4=>ret x4) sm3.2 0 [])) λl5=>bind (tupleD (.lst l5)) λx6=>ret x6:=by kernel_rfl
theorem z0_run (C:Cf) (qa:D):runK Rs Γ C z0_F [qa]=bind (sortedD qa) λx1=>bind (nx (bind (srcD qa) λsm3=>compM sm3.1 (λd2=>ret true) (λd2=>bind (sqK x1) λ_=>bind (ixOfD x1 [d2]) λx4=>ret x4) sm3.2 0 [])) λl5=>ret (.lst l5):=by kernel_rfl
theorem z6_run (C:Cf) (qa qb:D):runK Rs Γ C z6_F [qa,qb]=bind (C 1 [qa]) λx1=>bind (C 1 [qb]) λx2=>bind (cmpD .Eq x1 x2) λx3=>ret x3:=by kernel_rfl
theorem z5_run (C:Cf) (qa:D):runK Rs Γ C z5_F [qa]=bind (slD qa none (some 63)) λx1=>bind (listD x1) λx2=>bind (newL [x2,(.int 0),(.int 0),(.int 0)]) λx3=>ret x3:=by kernel_rfl
theorem z7_run (C:Cf) (p x:D):runK Rs Γ C z7_F [p,x]=tapeM p x:=by kernel_rfl
theorem z1_run (C:Cf) (qa qb:D):runK Rs Γ C z1_F [qa,qb]=bind (powD (.int 10) (.int 8)) λx1=>bind (powD (.int 10) (.int 9)) λx2=>bind (subD x2 (.int 1)) λx3=>bind (powD (.int 10) (.int 9)) λx4=>bind (newL [(.int 0),(.int 1),(.int 2),(.int 8),(.int 9),(.int 10),(.int 11),(.int 99),(.int 100),(.int 101),x1,x3,x4]) λx5=>bind (nx (bind (srcRg [qb]) λsm7=>compM sm7.1 (λd6=>ret true) (λd6=>bind (lstOf x5) λ_=>bind (lenD x5) λx8=>bind (C 4 [qa,x8]) λx9=>bind (popD x5 [x9]) λx10=>ret x10) sm7.2 0 [])) λl11=>bind (tupleD (.lst l11)) λx12=>ret x12:=by kernel_rfl
noncomputable def z4_L:Lc:=lcOf z4_F
theorem z4_run (C:Cf) (qa qb:D):runK Rs Γ C z4_F [qa,qb]=blkK (evK Rs Γ C 40) z4_L z4_F.body [some qa,some qb,none,none,none,none] endD:=by kernel_rfl
theorem z4_all:z4_F.body=[nth z4_F.body 0,nth z4_F.body 1]:=by kernel_rfl
noncomputable def z4_0_b:List Stmt:=forBody (nth z4_F.body 0)
noncomputable def z4_0_bB (C:Cf):L3.Env->M Fl:=λρ'=>blkK (evK Rs Γ C 39) z4_L z4_0_b ρ' ret
theorem z4_0 (C:Cf) (qa:D) (qb qc qd qe qf:Option D) {α:Type} (κ:Fl->M α):(evK Rs Γ C 40).s z4_L (nth z4_F.body 0) [some qa,qb,qc,qd,qe,qf] κ=bind (lenD qa) λx1=>bind (srcRg [x1]) λsm2=>bind (forD sm2.1 (λd ρ=>some (ρ.set 2 (some d))) (z4_0_bB C) sm2.2 0 [some qa,qb,qc,qd,qe,qf]) κ:=by kernel_rfl
theorem z4_1 (C:Cf) (qa qb qc qd qe qf:Option D) {α:Type} (κ:Fl->M α):(evK Rs Γ C 40).s z4_L (nth z4_F.body 1) [qa,qb,qc,qd,qe,qf] κ=κ (.rt (.bl true)):=by kernel_rfl
theorem z4_0_b_all:z4_0_b=[nth z4_0_b 0]:=by kernel_rfl
noncomputable def z4_0_b_0_b:List Stmt:=forBody (nth z4_0_b 0)
noncomputable def z4_0_b_0_bB (C:Cf):L3.Env->M Fl:=λρ'=>blkK (evK Rs Γ C 38) z4_L z4_0_b_0_b ρ' ret
theorem z4_0_b_0 (C:Cf) (qa:D) (qb qc qd qe qf:Option D) {α:Type} (κ:Fl->M α):(evK Rs Γ C 39).s z4_L (nth z4_0_b 0) [some qa,qb,qc,qd,qe,qf] κ=bind (lenD qa) λx1=>bind (srcRg [x1]) λsm2=>bind (forD sm2.1 (λd ρ=>some (ρ.set 3 (some d))) (z4_0_b_0_bB C) sm2.2 0 [some qa,qb,qc,qd,qe,qf]) κ:=by kernel_rfl
theorem z4_0_b_0_b_all:z4_0_b_0_b=[nth z4_0_b_0_b 0,nth z4_0_b_0_b 1,nth z4_0_b_0_b 2]:=by kernel_rfl
theorem z4_0_b_0_b_0 (C:Cf) (qa qb qc:D) (qd qe qf:Option D) {α:Type} (κ:Fl->M α):(evK Rs Γ C 38).s z4_L (nth z4_0_b_0_b 0) [some qa,qd,some qb,some qc,qe,qf] κ=bind (ixD qa qb) λx1=>bind (ixD qa qc) λx2=>bind (cmpD .Lt x1 x2) λx3=>κ (.nx [some qa,qd,some qb,some qc,some x3,qf]):=by kernel_rfl
theorem z4_0_b_0_b_1 (C:Cf) (qa qb qc:D) (qd qe qf:Option D) {α:Type} (κ:Fl->M α):(evK Rs Γ C 38).s z4_L (nth z4_0_b_0_b 1) [qd,some qa,some qb,some qc,qe,qf] κ=bind (ixD qa qb) λx1=>bind (ixD qa qc) λx2=>bind (cmpD .Lt x1 x2) λx3=>κ (.nx [qd,some qa,some qb,some qc,qe,some x3]):=by kernel_rfl
theorem z4_0_b_0_b_2 (C:Cf) (qa qb:D) (qc qd qe qf:Option D) {α:Type} (κ:Fl->M α):(evK Rs Γ C 38).s z4_L (nth z4_0_b_0_b 2) [qc,qd,qe,qf,some qa,some qb] κ=bind (cmpD .NotEq qa qb) λx1=>bind (asB x1) λz2=>if z2=true then (κ (.rt (.bl false))) else (κ (.nx [qc,qd,qe,qf,some qa,some qb])):=by kernel_rfl
theorem z2_run (C:Cf) (qa qb:D):runK Rs Γ C z2_F [qa,qb]=bind (negD (.int 1)) λx1=>bind (revD qb x1) λx2=>bind (lenD qb) λx3=>bind (C 5 [qa,x3]) λx4=>bind (nx (bind (srcD qb) λsm6=>compM sm6.1 (λd5=>ret true) (λd5=>bind (powD (.int 10) (.int 9)) λx7=>bind (subD x7 d5) λx8=>ret x8) sm6.2 0 [])) λl9=>bind (tupleD (.lst l9)) λx10=>bind (sortedD qb) λx11=>bind (lenD x11) λx12=>bind (C 4 [qa,x12]) λx13=>bind (addD x13 (.int 1)) λx14=>bind (lenD x11) λx15=>bind (modD x14 x15) λx16=>bind (ixD x11 x16) λx17=>bind (ixD x11 x13) λx18=>bind (ixD x11 x13) λx19=>bind (dctD [(x18,x17),(x17,x19)]) λx20=>bind (nx (bind (srcD qb) λsm22=>compM sm22.1 (λd21=>ret true) (λd21=>bind (dctOf x20) λ_=>bind (getDD x20 [d21,d21]) λx23=>ret x23) sm22.2 0 [])) λl24=>bind (tupleD (.lst l24)) λx25=>bind (addD (.lst [qb,x2,x4,x10]) (.lst [x25])) λx26=>ret x26:=by kernel_rfl
noncomputable def law_L:Lc:=lcOf law_F
theorem law_run (C:Cf) (qa:D):runK Rs Γ C law_F [qa]=blkK (evK Rs Γ C 40) law_L law_F.body [some qa,none,none,none,none,none,none,none,none] endD:=by kernel_rfl
theorem law_all:law_F.body=[nth law_F.body 0,nth law_F.body 1,nth law_F.body 2]:=by kernel_rfl
theorem law_0 (C:Cf) (qa:D) (qb qc qd qe qf qg qh qi:Option D) {α:Type} (κ:Fl->M α):(evK Rs Γ C 40).s law_L (nth law_F.body 0) [some qa,qb,qc,qd,qe,qf,qg,qh,qi] κ=bind (C 3 [qa]) λx1=>κ (.nx [some qa,some x1,qc,qd,qe,qf,qg,qh,qi]):=by kernel_rfl
noncomputable def law_1_b:List Stmt:=forBody (nth law_F.body 1)
noncomputable def law_1_bB (C:Cf):L3.Env->M Fl:=λρ'=>blkK (evK Rs Γ C 39) law_L law_1_b ρ' ret
theorem law_1 (C:Cf) (qa qb qc qd qe qf qg qh qi:Option D) {α:Type} (κ:Fl->M α):(evK Rs Γ C 40).s law_L (nth law_F.body 1) [qa,qb,qc,qd,qe,qf,qg,qh,qi] κ=bind (srcRg [(.int 8)]) λsm1=>bind (forD sm1.1 (λd ρ=>some (ρ.set 2 (some d))) (law_1_bB C) sm1.2 0 [qa,qb,qc,qd,qe,qf,qg,qh,qi]) κ:=by kernel_rfl
theorem law_2 (C:Cf) (qa qb qc qd qe qf qg qh qi:Option D) {α:Type} (κ:Fl->M α):(evK Rs Γ C 40).s law_L (nth law_F.body 2) [qa,qb,qc,qd,qe,qf,qg,qh,qi] κ=κ (.rt (.bl true)):=by kernel_rfl
theorem law_1_b_all:law_1_b=[nth law_1_b 0,nth law_1_b 1,nth law_1_b 2,nth law_1_b 3,nth law_1_b 4,nth law_1_b 5,nth law_1_b 6,nth law_1_b 7,nth law_1_b 8]:=by kernel_rfl
theorem law_1_b_0 (C:Cf) (qa:D) (qb qc qd qe qf qg qh qi:Option D) {α:Type} (κ:Fl->M α):(evK Rs Γ C 39).s law_L (nth law_1_b 0) [qb,some qa,qc,qd,qe,qf,qg,qh,qi] κ=bind (C 4 [qa,(.int 6)]) λx1=>bind (addD (.int 1) x1) λx2=>κ (.nx [qb,some qa,qc,some x2,qe,qf,qg,qh,qi]):=by kernel_rfl
theorem law_1_b_1 (C:Cf) (qa qb:D) (qc qd qe qf qg qh qi:Option D) {α:Type} (κ:Fl->M α):(evK Rs Γ C 39).s law_L (nth law_1_b 1) [qc,some qa,qd,some qb,qe,qf,qg,qh,qi] κ=bind (C 5 [qa,qb]) λx1=>κ (.nx [qc,some qa,qd,some qb,some x1,qf,qg,qh,qi]):=by kernel_rfl
theorem law_1_b_2 (C:Cf) (qa qb:D) (qc qd qe qf qg qh qi:Option D) {α:Type} (κ:Fl->M α):(evK Rs Γ C 39).s law_L (nth law_1_b 2) [qc,some qa,qd,some qb,qe,qf,qg,qh,qi] κ=bind (C 5 [qa,qb]) λx1=>bind (sortedD x1) λx2=>bind (tupleD x2) λx3=>κ (.nx [qc,some qa,qd,some qb,qe,some x3,qg,qh,qi]):=by kernel_rfl
theorem law_1_b_3 (C:Cf) (qa qb:D) (qc qd qe qf qg qh qi:Option D) {α:Type} (κ:Fl->M α):(evK Rs Γ C 39).s law_L (nth law_1_b 3) [qc,qd,qe,qf,some qa,some qb,qg,qh,qi] κ=bind (reprD (.tup [qa,qb])) λx1=>κ (.nx [qc,qd,qe,qf,some qa,some qb,some x1,qh,qi]):=by kernel_rfl
theorem law_1_b_4 (C:Cf) (qa qb:D) (qc qd qe qf qg qh qi:Option D) {α:Type} (κ:Fl->M α):(evK Rs Γ C 39).s law_L (nth law_1_b 4) [qc,qd,qe,qf,some qa,some qb,qg,qh,qi] κ=bind (nx (bind (srcD qa) λsm2=>compM sm2.1 (λd1=>ret true) (λd1=>bind (nx (bind (srcD qa) λsm4=>compM sm4.1 (λd3=>bind (cmpD .Lt d3 d1) λx5=>bind (asB x5) λz6=>ret z6) (λd3=>ret d3) sm4.2 0 [])) λl7=>bind (lenD (.lst l7)) λx8=>bind (ixD qb x8) λx9=>ret x9) sm2.2 0 [])) λl10=>bind (tupleD (.lst l10)) λx11=>κ (.nx [qc,qd,qe,qf,some qa,some qb,qg,some x11,qi]):=by kernel_rfl
theorem law_1_b_5 (C:Cf) (qa qb qc:D) (qd qe qf qg qh qi:Option D) {α:Type} (κ:Fl->M α):(evK Rs Γ C 39).s law_L (nth law_1_b 5) [qd,qe,qf,qg,some qa,some qb,qh,some qc,qi] κ=bind (C 0 [qa,qb]) λx1=>bind (reprD x1) λx2=>bind (reprD qc) λx3=>bind (cmpD .NotEq x2 x3) λx4=>bind (asB x4) λz5=>if z5=true then (κ (.rt (.bl false))) else (bind (C 2 [qa,qc]) λx6=>bind (cmpD .IsNot x6 (.bl true)) λx7=>bind (asB x7) λz8=>if z8=true then (κ (.rt (.bl false))) else (κ (.nx [qd,qe,qf,qg,some qa,some qb,qh,some qc,qi]))):=by kernel_rfl
theorem law_1_b_6 (C:Cf) (qa qb:D) (qc qd qe qf qg qh qi:Option D) {α:Type} (κ:Fl->M α):(evK Rs Γ C 39).s law_L (nth law_1_b 6) [qc,qd,qe,qf,some qa,qg,qh,some qb,qi] κ=bind (sortedD qa) λx1=>bind (tupleD x1) λx2=>bind (C 0 [qb,x2]) λx3=>bind (reprD x3) λx4=>bind (reprD qa) λx5=>bind (cmpD .NotEq x4 x5) λx6=>bind (asB x6) λz7=>if z7=true then (κ (.rt (.bl false))) else (κ (.nx [qc,qd,qe,qf,some qa,qg,qh,some qb,qi])):=by kernel_rfl
noncomputable def law_1_b_7_b:List Stmt:=forBody (nth law_1_b 7)
noncomputable def law_1_b_7_bB (C:Cf):L3.Env->M Fl:=λρ'=>blkK (evK Rs Γ C 38) law_L law_1_b_7_b ρ' ret
theorem law_1_b_7 (C:Cf) (qa qb:D) (qc qd qe qf qg qh qi:Option D) {α:Type} (κ:Fl->M α):(evK Rs Γ C 39).s law_L (nth law_1_b 7) [qc,some qa,qd,qe,some qb,qf,qg,qh,qi] κ=bind (C 7 [qa,qb]) λx1=>bind (srcD x1) λsm2=>bind (forD sm2.1 (λd ρ=>some (ρ.set 8 (some d))) (law_1_b_7_bB C) sm2.2 0 [qc,some qa,qd,qe,some qb,qf,qg,qh,qi]) κ:=by kernel_rfl
theorem law_1_b_8 (C:Cf) (qa qb qc:D) (qd qe qf qg qh qi:Option D) {α:Type} (κ:Fl->M α):(evK Rs Γ C 39).s law_L (nth law_1_b 8) [qd,qe,qf,qg,some qa,some qb,some qc,qh,qi] κ=bind (reprD (.tup [qa,qb])) λx1=>bind (cmpD .NotEq x1 qc) λx2=>bind (asB x2) λz3=>if z3=true then (κ (.rt (.bl false))) else (κ (.nx [qd,qe,qf,qg,some qa,some qb,some qc,qh,qi])):=by kernel_rfl
theorem law_1_b_7_b_all:law_1_b_7_b=[nth law_1_b_7_b 0]:=by kernel_rfl
theorem law_1_b_7_b_0 (C:Cf) (qa qb:D) (qc qd qe qf qg qh qi:Option D) {α:Type} (κ:Fl->M α):(evK Rs Γ C 38).s law_L (nth law_1_b_7_b 0) [qc,qd,qe,qf,some qa,qg,qh,qi,some qb] κ=bind (C 2 [qa,qb]) λx1=>bind (reprD x1) λx2=>bind (C 6 [qa,qb]) λx3=>bind (reprD x3) λx4=>bind (cmpD .NotEq x2 x4) λx5=>bind (asB x5) λz6=>if z6=true then (κ (.rt (.bl false))) else (κ (.nx [qc,qd,qe,qf,some qa,qg,qh,qi,some qb])):=by kernel_rfl
end L3.K52
end
section
set_option maxHeartbeats 1000000
namespace L3.K52
open PySem PySem.Spec PyProof.Rows L2 L3.Rk
noncomputable def iD (l:List Int):List D:=l.map D.int
noncomputable def tI (l:List Int):D:=.tup (l.map D.int)
noncomputable def nI (l:List Nat):List Int:=l.map λ(n:Nat)=>(n:Int)
theorem dep_is:∀ ns:List Int,PyData.depthAll (ns.map PyData.int)<=1
 | []=>by simp [PyData.depthAll]
 | n :: ns=>by
  have:=dep_is ns
  simp only [List.map_cons,PyData.depthAll,PyData.depth]
  omega
theorem eqv_is:∀ a b:List Int,PyData.eqvAll (a.map PyData.int) (b.map PyData.int)=decide (a=b)
 | [],[]=>rfl
 | [],_ :: _=>rfl
 | _ :: _,[]=>rfl
 | x :: a,y :: b=>by
  simp only [List.map_cons,PyData.eqvAll,PyData.eqv,eqv_is a b]
  by_cases h:x=y
  ·subst h;simp
  ·simp [h]
theorem eq_ints (a b:List Int) (S:Sto):cmpD .Eq (.lst (a.map D.int)) (.lst (b.map D.int)) S=.ok (.bl (decide (a=b))) S:=by
 show eqP false (.lst (a.map D.int)) (.lst (b.map D.int)) S=_
 have e:∀ ns:List Int,toPy 64 S (.lst (ns.map D.int))=some (.list (ns.map PyData.int)):=λns=>by
  show (mapO (toPy 63 S) (ns.map D.int)).map PyData.list=_
  rw [toPy_is 62 S ns];rfl
 unfold eqP
 rw [e,e]
 show (if PyData.canLay0 (.list (a.map PyData.int))=true/\PyData.canLay0 (.list (b.map PyData.int))=true/\min (PyData.depth (.list (a.map PyData.int))) (PyData.depth (.list (b.map PyData.int)))<=60 then ret (D.bl (PyData.eqv (.list (a.map PyData.int)) (.list (b.map PyData.int)))) else bad) S=_
 have hd:PyData.depth (.list (a.map PyData.int))<=60:=by
  have:=dep_is a
  simp only [PyData.depth];omega
 rw [if_pos ⟨by simp only [PyData.canLay0];exact lay_is a,by simp only [PyData.canLay0];exact lay_is b,by omega⟩]
 show R.ok (D.bl (PyData.eqvAll (a.map PyData.int) (b.map PyData.int))) S=_
 rw [eqv_is]
theorem places_ok {g:List Int} (h:g.length<=6) (k:Nat) (S:Sto):rn (k+1) ix_z0 [tI g] S=.ok (.lst (iD (nI (rks g)))) S:=by
 have e:=comp_filterA (l:=g) (h:=D.int) (g:=λx=>.int ((rk g x:Nat):Int)) (p:=λ_=>true) (t:=λ_=>ret true) (f:=λd2=>bind (sqK (.lst ((srt g).map D.int))) λ_=>bind (ixOfD (.lst ((srt g).map D.int)) [d2]) λx4=>ret x4) (S:=S) (sixL h) (λa _=>rfl) (λx hx _=>by
  have ix:=idx_up x _ (srt_up g) ((srt_perm g).mem_iff.mpr hx)
  rw [cnt_srt] at ix
  have lt:=rk_lt hx
  unfold rk at lt
  rw [bind_ok (show sqK (.lst ((srt g).map D.int)) S=.ok false S from rfl),bind_ok (index_l (by omega) ix S)]
  rfl)
 rw [List.filter_eq_self.mpr (by simp)] at e
 have e2:g.map (λx=>D.int ((rk g x:Nat):Int))=iD (nI (rks g)):=by
  unfold iD nI rks
  rw [List.map_map,List.map_map];rfl
 rw [e2] at e
 refine ok_ext ?_
 rw [rn,runs_eq (fd:=z0_F) rfl,z0_run]
 refine Ok.eq (sorted_t (by omega) S)<|nx_bind<|Ok.eq (src_tup _ S) ?_
 simp only [List.length_map]
 exact Ok.of e<|Ok.ret ⟨rfl,rfl⟩
theorem nI_inj {a b:List Nat}:nI a=nI b↔a=b:=by
 constructor
 ·intro h
  have:∀ {a b:List Nat},nI a=nI b->a=b:=by
   intro a
   induction a with
   | nil=>intro b h;cases b with
    | nil=>rfl
    | cons y b=>cases h
   | cons x a ih=>intro b h;cases b with
    | nil=>cases h
    | cons y b=>
     injection h with h1 h2
     have h1:(x:Int)=(y:Int):=h1
     rw [ih h2,show x=y by omega]
  exact this h
 ·intro h;rw [h]
theorem z6_ok {g o:List Int} (h:g.length<=6) (h2:o.length<=6) (k:Nat) (S:Sto):rn (k+2) ix_z6 [tI g,tI o] S=.ok (.bl (decide (rks g=rks o))) S:=by
 refine ok_ext ?_
 rw [rn,runs_eq (fd:=z6_F) rfl,z6_run]
 refine Ok.eq (places_ok h k S)<|Ok.eq (places_ok h2 k S)<|Ok.eq (eq_ints _ _ S)<|Ok.ret ⟨?_,rfl⟩
 by_cases q:rks g=rks o
 ·rw [decide_eq_true q,decide_eq_true (nI_inj.mpr q)]
 ·rw [decide_eq_false q,decide_eq_false (λz=>q (nI_inj.mp z))]
theorem z3_ok {g num:List Int} (h:g.length<=6) (hl:num.length=g.length) (k:Nat) (S:Sto):rn (k+2) ix_z3 [tI g,tI num] S=.ok (tI (byRk g num)) S:=by
 have e:=comp_filterA (l:=rks g) (h:=λn=>D.int ((n:Nat):Int)) (g:=λn=>D.int (num.getD n 0)) (p:=λ_=>true) (t:=λ_=>ret true) (f:=λd1=>bind (ixD (tI num) d1) λx4=>ret x4) (S:=S) (by unfold rks;rw [List.length_map];exact sixL h) (λa _=>rfl) (λn hn _=>by
  obtain ⟨x,hx,rfl⟩:=List.mem_map.mp hn
  have lt:rk g x<num.length:=by rw [hl];exact rk_lt hx
  have:(num.map D.int)[rk g x]?=some (D.int (num.getD (rk g x) 0)):=by rw [List.getElem?_map,List.getD_eq_getElem?_getD,List.getElem?_eq_getElem lt];rfl
  exact (bind_ok (ix_t S this)).trans rfl)
 rw [List.filter_eq_self.mpr (by simp)] at e
 have e2:(rks g).map (λn=>D.int (num.getD n 0))=iD (byRk g num):=by
  unfold iD byRk rks
  rw [List.map_map,List.map_map];rfl
 have e3:(rks g).map (λn=>D.int ((n:Nat):Int))=iD (nI (rks g)):=by unfold iD nI;rw [List.map_map];rfl
 rw [e2,e3] at e
 refine ok_ext ?_
 rw [rn,runs_eq (fd:=z3_F) rfl,z3_run]
 refine nx_bind<|Ok.eq (places_ok h k S)<|Ok.eq (a:=(srcL (iD (nI (rks g))),(rks g).length+1)) (S1:=S) (by show R.ok (srcL (iD (nI (rks g))),(iD (nI (rks g))).length+1) S=_;rw [show (iD (nI (rks g))).length=(rks g).length by unfold iD nI;rw [List.length_map,List.length_map]]) ?_
 exact Ok.of e<|Ok.eq (a:=.tup (iD (byRk g num))) rfl<|Ok.ret ⟨rfl,rfl⟩
theorem g_at {g:List Int} {i:Nat} (h:i<g.length) (S:Sto):ixD (tI g) (.int (i:Int)) S=.ok (.int (g.getD i 0)) S:=ix_t S (by rw [List.getElem?_map,List.getD_eq_getElem?_getD,List.getElem?_eq_getElem h];rfl)
theorem ne_bb (a b:Bool) (S:Sto):cmpD .NotEq (.bl a) (.bl b) S=.ok (.bl (!(a==b))) S:=by cases a <;> cases b <;> kernel_rfl
noncomputable def same (g o:List Int) (i j:Nat):Prop:=decide (g.getD i 0<g.getD j 0)=decide (o.getD i 0<o.getD j 0)
theorem z4_ok {g o:List Int} (h:g.length<=6) (hl:o.length=g.length) (k:Nat) (S:Sto):rn (k+1) ix_z4 [tI g,tI o] S=.ok (.bl (decide (rks g=rks o))) S:=by
 suffices hh:Ok (rn (k+1) ix_z4 [tI g,tI o]) S λd S'=>S'=S/\((d=.bl true/\∀ i j,i<g.length->j<g.length->same g o i j)\/(d=.bl false/\∃ i j,i<g.length/\j<g.length/\¬ same g o i j)) by
  obtain ⟨d,S',e,rfl,q⟩:=hh
  rcases q with ⟨rfl,q⟩ | ⟨rfl,i,j,hi,hj,q⟩
  ·rw [e,decide_eq_true ((rks_iff hl.symm).mpr λi j hi hj=>by have:=q i j hi hj;unfold same at this;exact decide_eq_decide.mp this)]
  ·rw [e,decide_eq_false λz=>q (by unfold same;exact decide_eq_decide.mpr ((rks_iff hl.symm).mp z i j hi hj))]
 rw [rn,runs_eq (fd:=z4_F) rfl,z4_run,z4_all]
 have ln:∀ S,lenD (tI g) S=.ok (.int (g.length:Int)) S:=λS=>(len_tup _ S).trans (by rw [List.length_map])
 refine Ok.first<|Ok.cg (z4_0 ..)<|Ok.eq (ln S)<|Ok.eq (src_rg (by omega) _)<|Ok.bind ((Ok.for_ (n:=g.length) (λi ρ S'=>S'=S/\(∀ a b,a<i->b<g.length->same g o a b)/\∃ o3 o4 o5 o6:Option D,ρ=[some (tI g),some (tI o),o3,o4,o5,o6]) (λ_ _=>False) (λd S'=>S'=S/\d=.bl false/\∃ i j,i<g.length/\j<g.length/\¬ same g o i j) (λρ S' _=>src_end _ S') ?_ g.length 0 _ _ (by omega) ⟨rfl,λa b z=>by omega,_,_,_,_,rfl⟩).mono ?_)
 ·rintro i ρ S' hi ⟨rfl,sm,o3,o4,o5,o6,rfl⟩
  refine ⟨.int (i:Int),_,src_at hi S',rfl,?_⟩
  unfold z4_0_bB
  rw [z4_0_b_all]
  refine Ok.first<|Ok.cg (z4_0_b_0 ..)<|Ok.eq (ln S')<|Ok.eq (src_rg (by omega) _)<|Ok.bind ((Ok.for_ (n:=g.length) (λj ρ S=>S=S'/\(∀ b,b<j->same g o i b)/\∃ o4 o5 o6:Option D,ρ=[some (tI g),some (tI o),some (.int (i:Int)),o4,o5,o6]) (λ_ _=>False) (λd S=>S=S'/\d=.bl false/\∃ i j,i<g.length/\j<g.length/\¬ same g o i j) (λρ S _=>src_end _ S) ?_ g.length 0 _ _ (by omega) ⟨rfl,λb z=>by omega,_,_,_,rfl⟩).mono ?_)
  ·rintro j ρ S hj ⟨rfl,sj,o4,o5,o6,rfl⟩
   refine ⟨.int (j:Int),_,src_at hj S,rfl,?_⟩
   unfold z4_0_b_0_bB
   rw [z4_0_b_0_b_all]
   refine Ok.first<|Ok.cg (z4_0_b_0_b_0 ..)<|Ok.eq (g_at hi S)<|Ok.eq (g_at hj S)<|Ok.eq (lt_ii _ _ S) ?_
   refine Ok.nxt<|Ok.cg (z4_0_b_0_b_1 ..)<|Ok.eq (g_at (by omega) S)<|Ok.eq (g_at (by omega) S)<|Ok.eq (lt_ii _ _ S) ?_
   refine Ok.nxt<|Ok.cg (z4_0_b_0_b_2 ..)<|Ok.eq (ne_bb _ _ S)<|Ok.eq (asB_b _ S)<|Ok.ite (λz=>?_) λz=>?_
   ·refine Ok.ret ⟨rfl,rfl,i,j,hi,hj,λw=>?_⟩
    unfold same at w
    rw [w] at z;simp at z
   ·refine Ok.ret ⟨rfl,λb hb=>?_,_,_,_,rfl⟩
    by_cases q:b<j
    ·exact sj b q
    ·rw [show b=j by omega]
     unfold same
     simpa using z
  rintro fl S hf
  cases fl with
  | rt d=>exact Ok.ret hf
  | bk ρ=>exact hf.elim
  | ct ρ=>exact hf.elim
  | nx ρ=>
   rcases hf with ⟨rfl,sj,o4,o5,o6,rfl⟩ | hf
   ·refine Ok.ret ⟨rfl,λa b ha hb=>?_,_,_,_,_,rfl⟩
    by_cases q:a<i
    ·exact sm a b q hb
    ·rw [show a=i by omega];exact sj b hb
   ·exact hf.elim
 rintro fl S' hf
 cases fl with
 | rt d=>obtain ⟨rfl,rfl,q⟩:=hf;exact Ok.ret ⟨rfl,.inr ⟨rfl,q⟩⟩
 | bk ρ=>exact hf.elim
 | ct ρ=>exact hf.elim
 | nx ρ=>
  rcases hf with ⟨rfl,sm,o3,o4,o5,o6,rfl⟩ | hf
  ·exact Ok.nxt<|Ok.cg (z4_1 ..)<|Ok.ret ⟨rfl,.inl ⟨rfl,λi j hi hj=>sm i j hi hj⟩⟩
  ·exact hf.elim
theorem draw_ok {ns:List Int} {p N m:Nat} {S:Sto} (h:Ft ns p (N+1) S) (hm:0<m) (hm2:m<1000000) (k:Nat):Ok (rn (k+1) ix_z7 [.ref p,.int (m:Int)]) S λd S'=>∃ r:Nat,d=.int (r:Int)/\r<m/\Ft ns p N S'/\S'.length=S.length/\∀ q,q≠p->S'[q]?=S[q]?:=by
 rw [rn,runs_eq (fd:=z7_F) rfl,z7_run]
 exact tapeM_at h hm hm2
theorem Ft.lt {ns:List Int} {p N:Nat} {S:Sto} (h:Ft ns p N S):p<S.length:=by
 obtain ⟨a,l,t,e,_⟩:=h
 exact (List.getElem?_eq_some_iff.mp e).1
theorem Ft.push {ns:List Int} {p N:Nat} {S:Sto} (h:Ft ns p N S) (o:O):Ft ns p N (S++[o]):=Ft.keep h (by rw [List.getElem?_append_left (Ft.lt h)])
theorem tape_ok (ns:List Int) (S:Sto) (k:Nat):∃ ms:List Int,rn (k+1) ix_z5 [.scr (ns.map D.int)] S=.ok (.ref S.length) (S++[tapeD ms 0 0 0]):=by
 obtain ⟨ms,em⟩:=cut_ints ns
 refine ⟨ms,?_⟩
 rw [rn,runs_eq (fd:=z5_F) rfl,z5_run,bind_ok (show slD (.scr (ns.map D.int)) none (some 63) S=.ok (.lst (cutD (ns.map D.int) none (some 63))) S from rfl),em]
 rfl
noncomputable def B13:List Int:=[0,1,2,8,9,10,11,99,100,101,100000000,999999999,1000000000]
theorem b13_nd:B13.Nodup:=by decide
theorem b13_bd:∀ x∈B13,0<=x/\x<=1000000000:=by decide
theorem er_map {α β:Type} (f:α->β):∀ (l:List α) (j:Nat),(l.map f).eraseIdx j=(l.eraseIdx j).map f
 | [],_=>rfl
 | _ :: _,0=>rfl
 | a :: l,j+1=>by simp only [List.map_cons,List.eraseIdx_cons_succ,er_map f l j]
theorem er_perm:∀ {l:List Int} {j:Nat} (h:j<l.length),(l[j] :: l.eraseIdx j).Perm l
 | a :: l,0,_=>.refl _
 | a :: l,j+1,h=>by
  show (l[j]'(by simpa using h) :: a :: l.eraseIdx j).Perm (a :: l)
  exact (List.Perm.swap ..).trans ((er_perm (by simpa using h)).cons a)
structure GOk (g:List Int) (m:Nat):Prop where
 l:g.length=m
 nd:g.Nodup
 bd:∀ x∈g,0<=x/\x<=1000000000
theorem greats_ok {ns:List Int} {p N m:Nat} {S:Sto} (F:Ft ns p (N+m) S) (h6:m<=6) (k:Nat):Ok (rn (k+2) ix_z1 [.ref p,.int (m:Int)]) S λd S'=>Ft ns p N S'/\∃ g,d=tI g/\GOk g m:=by
 rw [rn,runs_eq (fd:=z1_F) rfl,z1_run]
 refine Ok.eq (S1:=S) (a:=.int 100000000) (by kernel_rfl)<|Ok.eq (S1:=S) (a:=.int 1000000000) (by kernel_rfl)<|Ok.eq (S1:=S) (a:=.int 999999999) (by kernel_rfl)<|Ok.eq (S1:=S) (a:=.int 1000000000) (by kernel_rfl)<|Ok.eq (show newL [(.int 0),(.int 1),(.int 2),(.int 8),(.int 9),(.int 10),(.int 11),(.int 99),(.int 100),(.int 101),.int 100000000,.int 999999999,.int 1000000000] S=.ok (.ref S.length) (S++[.lst (B13.map D.int)]) from rfl) ?_
 have F1:=Ft.push F (.lst (B13.map D.int))
 have e1:(S++[O.lst (B13.map D.int)])[S.length]?=some (.lst (B13.map D.int)):=by simp
 have qp:S.length≠p:=by have:=Ft.lt F;omega
 generalize S++[O.lst (B13.map D.int)]=S1 at F1 e1
 generalize S.length=q at e1 qp
 refine nx_bind<|Ok.eq (src_rg (n:=m) (by omega) _) ((Ok.comp (n:=m) (λi S' es=>Ft ns p (N+(m-i)) S'/\∃ left g:List Int,S'[q]?=some (.lst (left.map D.int))/\es=g.map D.int/\g.length=i/\left.length=13-i/\(left++g).Perm B13) (λS' es _=>src_end m S') ?_ ⟨F1.less (by omega),B13,[],e1,rfl,rfl,rfl,by simp⟩).mono ?_)
 ·rintro i S' es hi ⟨F2,left,g,e2,rfl,gl,ll,pm⟩
  refine ⟨.int (i:Int),src_at hi S',Ok.ret ?_⟩
  rw [if_pos rfl]
  refine Ok.eq (S1:=S') (a:=left.map D.int) (by simp only [lstOf,e2])<|Ok.eq (S1:=S') (a:=.int (left.length:Int)) (by simp only [lenD,e2,List.length_map])<|Ok.bind ((draw_ok (N:=N+(m-(i+1))) (m:=left.length) (F2.less (by omega)) (by omega) (by omega) k).mono ?_)
  rintro _ S3 ⟨j,rfl,hj,F3,_,o3⟩
  have e3:S3[q]?=some (.lst (left.map D.int)):=by rw [o3 q qp];exact e2
  refine Ok.eq (pop_r e3 (map_get (List.getElem?_eq_getElem hj)) (by omega))<|Ok.ret ⟨by rw [List.length_map,sizeLine_eq];omega,F3.keep (by rw [List.getElem?_set_ne qp]),left.eraseIdx j,g++[left[j]],?_,by rw [List.map_append];rfl,by simp [gl],by rw [List.length_eraseIdx_of_lt hj];omega,?_⟩
  ·rw [List.getElem?_set_self (List.getElem?_eq_some_iff.mp e3).1,er_map]
  ·refine List.Perm.trans ?_ pm
   have p1:(left[j] :: left.eraseIdx j).Perm left:=er_perm hj
   refine List.Perm.trans ?_ (p1.append_right g)
   rw [<- List.append_assoc]
   exact List.perm_append_comm
 ·rintro es S' ⟨F2,left,g,_,rfl,gl,_,pm⟩
  have nd:=pm.nodup_iff.mpr b13_nd
  refine Ok.eq (a:=tI g) rfl<|Ok.ret ⟨F2.less (by omega),g,rfl,gl,(List.nodup_append.mp nd).2.1,λx hx=>b13_bd x (pm.mem_iff.mp (List.mem_append_right _ hx))⟩
noncomputable def swO (a b:Int):List (Key×D):=mergeD [] [(.inl a,.int b),(.inl b,.int a)]
noncomputable def swp (a b x:Int):Int:=match valD (swO a b) (.inl x) with
 | some (.int z)=>z
 | _=>x
theorem sw_is (a b x:Int):(valD (swO a b) (.inl x)).getD (.int x)=.int (swp a b x):=by
 have e:swO a b=if a=b then [((.inl a:Key),D.int a)] else [(.inl a,.int b),(.inl b,.int a)]:=by
  show putD [((.inl a:Key),D.int b)] (.inl b) (.int a)=_
  unfold putD
  by_cases q:a=b
  ·subst q;simp
  ·rw [if_neg q];simp [q]
 have h:valD (swO a b) (.inl x)=none\/∃ z,valD (swO a b) (.inl x)=some (.int z):=by
  rw [e]
  unfold valD
  split
  ·rw [List.find?_cons]
   split
   ·exact .inr ⟨_,rfl⟩
   ·exact .inl rfl
  ·rw [List.find?_cons]
   split
   ·exact .inr ⟨_,rfl⟩
   ·rw [List.find?_cons]
    split
    ·exact .inr ⟨_,rfl⟩
    ·exact .inl rfl
 unfold swp
 rcases h with h | ⟨z,h⟩ <;> rw [h] <;> rfl
theorem srt_at {g:List Int} {j:Nat} (h:j<g.length) (S:Sto):∃ z,ixD (.lst ((srt g).map D.int)) (.int (j:Int)) S=.ok (.int z) S:=by
 have hl:j<(srt g).length:=by rw [(srt_perm g).length_eq];exact h
 exact ⟨_,ix_l S (map_get (List.getElem?_eq_getElem hl))⟩
theorem others_ok {ns:List Int} {p N m:Nat} {S:Sto} {g:List Int} (F:Ft ns p (N+m+1) S) (G:GOk g m) (h1:1<=m) (h6:m<=6) (k:Nat):Ok (rn (k+3) ix_z2 [.ref p,tI g]) S λd S'=>Ft ns p N S'/\∃ ls:List (List Int),d=.lst (ls.map tI)/\ls.length=5/\∀ l∈ls,l.length=m:=by
 have gl:=G.l
 rw [rn,runs_eq (fd:=z2_F) rfl,z2_run]
 refine Ok.eq (a:=.int (-1)) rfl<|Ok.eq (a:=.tup (g.map D.int).reverse) rfl ?_
 rw [<- List.map_reverse]
 refine Ok.eq (len_tup _ S) ?_
 rw [List.length_map,gl]
 refine Ok.bind ((greats_ok (N:=N+1) (m:=m) (F.less (by omega)) h6 k).mono ?_)
 rintro _ S1 ⟨F1,g2,rfl,G2⟩
 have e1:=comp_filterA (l:=g) (h:=D.int) (g:=λx=>D.int (1000000000-x)) (p:=λ_=>true) (t:=λ_=>ret true) (f:=λd5=>bind (powD (.int 10) (.int 9)) λx7=>bind (subD x7 d5) λx8=>ret x8) (S:=S1) (by rw [gl];exact sixL h6) (λa _=>rfl) (λx _ _=>(bind_ok (show powD (.int 10) (.int 9) S1=.ok (.int 1000000000) S1 by kernel_rfl)).trans rfl)
 rw [List.filter_eq_self.mpr (by simp)] at e1
 refine nx_bind<|Ok.eq (src_tup _ S1) ?_
 simp only [List.length_map]
 refine Ok.of e1<|Ok.eq (a:=.tup (g.map λx=>D.int (1000000000-x))) rfl<|Ok.eq (sorted_t (by omega) S1) ?_
 have ls:∀ S,lenD (.lst ((srt g).map D.int)) S=.ok (.int (m:Int)) S:=λS=>(len_l _ S).trans (by rw [List.length_map,(srt_perm g).length_eq,gl])
 refine Ok.eq (ls S1)<|Ok.bind ((draw_ok (N:=N) (m:=m) F1 (by omega) (by omega) (k+1)).mono ?_)
 rintro _ S2 ⟨r,rfl,hr,F2,_,_⟩
 refine Ok.eq (add_nn r 1 S2)<|Ok.eq (ls S2)<|Ok.eq (mod_i (by omega) S2) ?_
 rw [show (((r+1:Nat):Int) % (m:Int))=(((r+1) % m:Nat):Int) from (Int.natCast_emod _ _).symm]
 obtain ⟨b,eb⟩:=srt_at (g:=g) (j:=(r+1) % m) (by rw [gl];exact Nat.mod_lt _ (by omega)) S2
 obtain ⟨a,ea⟩:=srt_at (g:=g) (j:=r) (by rw [gl];exact hr) S2
 refine Ok.eq eb<|Ok.eq ea<|Ok.eq ea<|Ok.eq (S1:=S2++[.dct (swO a b)]) (a:=.ref S2.length) rfl ?_
 have F3:=Ft.push F2 (.dct (swO a b))
 have e3:(S2++[O.dct (swO a b)])[S2.length]?=some (.dct (swO a b)):=by simp
 generalize S2++[O.dct (swO a b)]=S3 at F3 e3
 generalize S2.length=q at e3
 have e4:=comp_filterA (l:=g) (h:=D.int) (g:=λx=>D.int (swp a b x)) (p:=λ_=>true) (t:=λ_=>ret true) (f:=λd21=>bind (dctOf (.ref q)) λ_=>bind (getDD (.ref q) [d21,d21]) λx23=>ret x23) (S:=S3) (by rw [gl];exact sixL h6) (λa _=>rfl) (λx _ _=>by
  rw [bind_ok (show dctOf (.ref q) S3=.ok () S3 by simp only [dctOf,e3])]
  refine (bind_ok (show getDD (.ref q) [.int x,.int x] S3=.ok (.int (swp a b x)) S3 from ?_)).trans rfl
  simp only [getDD,e3,keyOf]
  rw [sw_is])
 rw [List.filter_eq_self.mpr (by simp)] at e4
 refine nx_bind<|Ok.eq (src_tup _ S3) ?_
 simp only [List.length_map]
 refine Ok.of e4<|Ok.eq (a:=.tup (g.map λx=>D.int (swp a b x))) rfl ?_
 have ca:addD (.lst [tI g,.tup (g.reverse.map D.int),tI g2,.tup (g.map λx=>D.int (1000000000-x))]) (.lst [.tup (g.map λx=>D.int (swp a b x))]) S3=.ok (.lst [tI g,.tup (g.reverse.map D.int),tI g2,.tup (g.map λx=>D.int (1000000000-x)),.tup (g.map λx=>D.int (swp a b x))]) S3:=rfl
 refine Ok.eq ca<|Ok.ret ⟨F3,[g,g.reverse,g2,g.map (λx=>1000000000-x),g.map (swp a b)],?_,rfl,λl hl=>?_⟩
 ·show _=D.lst [tI g,tI g.reverse,tI g2,tI (g.map λx=>1000000000-x),tI (g.map (swp a b))]
  unfold tI
  rw [List.map_map,List.map_map];rfl
 ·simp only [List.mem_cons,List.not_mem_nil,or_false] at hl
  rcases hl with rfl | rfl | rfl | rfl | rfl
  ·exact gl
  ·rw [List.length_reverse];exact gl
  ·exact G2.l
  ·rw [List.length_map];exact gl
  ·rw [List.length_map];exact gl
theorem tI_sm {l:List Int} (h:l.length<=6) (b:∀ x∈l,0<=x/\x<=1000000000):Sml 1 400 (tI l):=(Sml.tup (n:=0) (N:=60) (m:=6) (Smls.map λx hx=>by
 obtain ⟨b0,b1⟩:=b x hx
 obtain ⟨n,rfl⟩:=Int.eq_ofNat_of_zero_le b0
 exact Sml.big (by omega)) (by rw [List.length_map];exact h)).up
theorem due_ok {g num:List Int} (h:g.length<=6) (hl:num.length=g.length) (S:Sto):nx (bind (srcD (tI g)) λsm2=>compM sm2.1 (λd1=>ret true) (λd1=>bind (nx (bind (srcD (tI g)) λsm4=>compM sm4.1 (λd3=>bind (cmpD .Lt d3 d1) λx5=>bind (asB x5) λz6=>ret z6) (λd3=>ret d3) sm4.2 0 [])) λl7=>bind (lenD (.lst l7)) λx8=>bind (ixD (tI num) x8) λx9=>ret x9) sm2.2 0 []) S=.ok (iD (byRk g num)) S:=by
 have e:=comp_filterA (l:=g) (h:=D.int) (g:=λx=>D.int (num.getD (rk g x) 0)) (p:=λ_=>true) (t:=λ_=>ret true) (f:=λd1=>bind (nx (bind (srcD (tI g)) λsm4=>compM sm4.1 (λd3=>bind (cmpD .Lt d3 d1) λx5=>bind (asB x5) λz6=>ret z6) (λd3=>ret d3) sm4.2 0 [])) λl7=>bind (lenD (.lst l7)) λx8=>bind (ixD (tI num) x8) λx9=>ret x9) (S:=S) (sixL h) (λa _=>rfl) (λx hx _=>by
  have i:=comp_filterA (l:=g) (h:=D.int) (g:=D.int) (p:=λz=>decide (z<x)) (t:=λd3=>bind (cmpD .Lt d3 (.int x)) λx5=>bind (asB x5) λz6=>ret z6) (f:=λd3=>ret d3) (S:=S) (sixL h) (λz _=>rfl) (λz _ _=>rfl)
  refine (nxb (a:=(g.filter λz=>decide (z<x)).map D.int) (S':=S) ?_).trans ?_
  ·unfold tI
   rw [bind_ok (src_tup _ S)]
   simp only [List.length_map]
   exact i
  ·have le:lenD (.lst ((g.filter λz=>decide (z<x)).map D.int)) S=.ok (.int ((rk g x:Nat):Int)) S:=(len_l _ S).trans (by rw [List.length_map];unfold rk;rw [List.countP_eq_length_filter])
   rw [bind_ok le,bind_ok (g_at (by rw [hl];exact rk_lt hx) S)]
   rfl)
 rw [List.filter_eq_self.mpr (by simp)] at e
 refine nx_ok ?_
 unfold tI at e ⊢
 rw [bind_ok (src_tup _ S)]
 simp only [List.length_map]
 refine e.trans ?_
 unfold iD byRk
 rw [List.map_map];rfl
theorem law_ok (ns:List Int):∃ S',rn 5 ix_law [.scr (ns.map D.int)] []=.ok (.bl true) S':=by
 suffices h:Ok (rn 5 ix_law [.scr (ns.map D.int)]) [] λd _=>d=.bl true by
  obtain ⟨d,S',e,rfl⟩:=h
  exact ⟨S',e⟩
 rw [rn,runs_eq (fd:=law_F) rfl,law_run,law_all]
 obtain ⟨ms,ew⟩:=tape_ok ns [] 3
 refine Ok.first<|Ok.cg (law_0 ..)<|Ok.eq ew ?_
 have F0:Ft ms 0 400 ([]++[tapeD ms 0 0 0]):=⟨0,0,0,by simp,by omega,by omega,by omega,by omega⟩
 generalize ([]++[tapeD ms 0 0 0]:Sto)=S0 at F0
 show Ok (nxt _ _ _ _ (.nx [some (.scr (ns.map D.int)),some (.ref 0),none,none,none,none,none,none,none])) S0 _
 refine Ok.nxt<|Ok.cg (law_1 ..)<|Ok.eq (src_rg (n:=8) (by omega) _)<|Ok.bind ((Ok.for_ (n:=8) (λi ρ S'=>Ft ms 0 (50 * (8-i)) S'/\∃ (o3 o4 o5 o6 o7 o8 o9:Option D),ρ=[some (.scr (ns.map D.int)),some (.ref 0),o3,o4,o5,o6,o7,o8,o9]) (λ_ _=>False) (λ_ _=>False) (λρ S' _=>src_end 8 S') ?_ 8 0 _ _ (by omega) ⟨F0.less (by omega),_,_,_,_,_,_,_,rfl⟩).mono ?_)
 ·rintro i ρ S hi ⟨F,o3,o4,o5,o6,o7,o8,o9,rfl⟩
  refine ⟨.int (i:Int),_,src_at hi S,rfl,?_⟩
  unfold law_1_bB
  rw [law_1_b_all]
  refine Ok.first<|Ok.cg (law_1_b_0 ..)<|Ok.bind ((draw_ok (N:=50 * (8-(i+1))+40) (m:=6) (F.less (by omega)) (by omega) (by omega) 3).mono ?_)
  rintro _ S1 ⟨a,rfl,ha,F1,_,_⟩
  refine Ok.eq (add_nn 1 a S1) ?_
  generalize hn:1+a=m
  have h1:1<=m:=by omega
  have h6:m<=6:=by omega
  refine Ok.nxt<|Ok.cg (law_1_b_1 ..)<|Ok.bind ((greats_ok (N:=50 * (8-(i+1))+30) (m:=m) (F1.less (by omega)) h6 2).mono ?_)
  rintro _ S2 ⟨F2,g,rfl,G⟩
  refine Ok.nxt<|Ok.cg (law_1_b_2 ..)<|Ok.bind ((greats_ok (N:=50 * (8-(i+1))+20) (m:=m) (F2.less (by omega)) h6 2).mono ?_)
  rintro _ S3 ⟨F3,g2,rfl,G2⟩
  have gl:=G.l
  have g2l:=G2.l
  refine Ok.eq (sorted_t (by omega) S3)<|Ok.eq (a:=tI (srt g2)) rfl ?_
  have nl:(srt g2).length=g.length:=by rw [(srt_perm g2).length_eq,g2l,gl]
  have nu:=srt_str G2.nd
  have nb:∀ x∈srt g2,0<=x/\x<=1000000000:=λx hx=>G2.bd x ((srt_perm g2).mem_iff.mp hx)
  have n6:(srt g2).length<=6:=by omega
  generalize srt g2=num at nl nu nb n6
  have sk:Sml 2 1000 (.tup [tI g,tI num]):=(Sml.tup (n:=1) (N:=400) (m:=2) (.cons (tI_sm (by omega) G.bd) (.cons (tI_sm n6 nb) .nil)) (Nat.le_refl _)).up
  refine Ok.nxt<|Ok.cg (law_1_b_3 ..)<|Ok.eq (sk.repr (S:=S3)) ?_
  refine Ok.nxt<|Ok.cg (law_1_b_4 ..)<|Ok.eq (due_ok (by omega) nl S3)<|Ok.eq (a:=tI (byRk g num)) rfl ?_
  have dl:(byRk g num).length=m:=by unfold byRk;rw [List.length_map];exact gl
  have db:∀ x∈byRk g num,0<=x/\x<=1000000000:=λx hx=>by
   obtain ⟨y,hy,rfl⟩:=List.mem_map.mp hx
   exact nb _ (Rk.getD_mem (by rw [nl];exact rk_lt hy))
  have sd:=tI_sm (by omega) db
  have ak:decide (rks g=rks (byRk g num))=true:=decide_eq_true (byRk_rks nl nu).symm
  refine Ok.nxt<|Ok.cg (law_1_b_5 ..)<|Ok.eq (z3_ok (by omega) nl 2 S3)<|Ok.eq (sd.repr (S:=S3))<|Ok.eq (sd.repr (S:=S3))<|Ok.eq (ne_self _ S3)<|Ok.eq (a:=false) rfl<|Ok.neg (by decide)<|Ok.eq (z6_ok (by omega) (by omega) 2 S3) ?_
  rw [ak]
  refine Ok.eq (a:=.bl false) rfl<|Ok.eq (a:=false) rfl<|Ok.neg (by decide) ?_
  have sg:=tI_sm (by omega) G.bd
  refine Ok.nxt<|Ok.cg (law_1_b_6 ..)<|Ok.eq (sorted_t (by omega) S3)<|Ok.eq (a:=tI (srt g)) rfl<|Ok.eq (z3_ok (g:=byRk g num) (num:=srt g) (by omega) (by rw [(srt_perm g).length_eq,dl,gl]) 2 S3) ?_
  rw [byRk_back nl nu]
  refine Ok.eq (sg.repr (S:=S3))<|Ok.eq (sg.repr (S:=S3))<|Ok.eq (ne_self _ S3)<|Ok.eq (a:=false) rfl<|Ok.neg (by decide) ?_
  refine Ok.nxt<|Ok.cg (law_1_b_7 ..)<|Ok.bind ((others_ok (N:=50 * (8-(i+1))) (m:=m) (F3.less (by omega)) G h1 h6 1).mono ?_)
  rintro _ S4 ⟨F4,ls,rfl,l5,hls⟩
  refine Ok.eq (a:=(srcL (ls.map tI),ls.length+1)) (S1:=S4) (by show R.ok (srcL (ls.map tI),(ls.map tI).length+1) S4=_;rw [List.length_map])<|Ok.bind ((Ok.for_ (n:=ls.length) (λj ρ S'=>S'=S4/\∃ o9:Option D,ρ=[some (.scr (ns.map D.int)),some (.ref 0),some (.int (i:Int)),some (.int (m:Int)),some (tI g),some (tI num),some (.str (py (.tup [tI g,tI num])).shown),some (tI (byRk g num)),o9]) (λ_ _=>False) (λ_ _=>False) (λρ S' _=>by show some (ls.map tI)[ls.length]?=_;rw [List.getElem?_eq_none (by simp)]) ?_ ls.length 0 _ _ (by omega) ⟨rfl,_,rfl⟩).mono ?_)
  ·rintro j ρ S' hj ⟨rfl,o9,rfl⟩
   have ej:ls[j]?=some ls[j]:=List.getElem?_eq_getElem hj
   have lj:=hls ls[j] (List.getElem_mem hj)
   generalize ls[j]=o at ej lj
   refine ⟨tI o,_,by show some (ls.map tI)[j]?=_;rw [map_get ej],rfl,?_⟩
   unfold law_1_b_7_bB
   rw [law_1_b_7_b_all]
   have sb:Sml 0 60 (.bl (decide (rks g=rks o))):=Sml.bl
   refine Ok.first<|Ok.cg (law_1_b_7_b_0 ..)<|Ok.eq (z6_ok (by omega) (by omega) 2 S')<|Ok.eq (sb.repr (S:=S'))<|Ok.eq (z4_ok (by omega) (by omega) 3 S')<|Ok.eq (sb.repr (S:=S'))<|Ok.eq (ne_self _ S')<|Ok.eq (a:=false) rfl<|Ok.neg (by decide) ?_
   exact Ok.ret ⟨rfl,_,rfl⟩
  rintro fl S5 hf
  cases fl with
  | rt d=>exact hf.elim
  | bk ρ=>exact hf.elim
  | ct ρ=>exact hf.elim
  | nx ρ=>
   rcases hf with ⟨rfl,o9,rfl⟩ | hf
   ·refine Ok.nxt<|Ok.cg (law_1_b_8 ..)<|Ok.eq (sk.repr (S:=S5))<|Ok.eq (ne_self _ S5)<|Ok.eq (a:=false) rfl<|Ok.neg (by decide) ?_
    exact Ok.ret ⟨F4,_,_,_,_,_,_,_,rfl⟩
   ·exact hf.elim
 ·rintro fl S' hf
  cases fl with
  | nx ρ=>
   rcases hf with ⟨_,o3,o4,o5,o6,o7,o8,o9,rfl⟩ | hf
   ·exact Ok.nxt<|Ok.cg (law_2 ..)<|Ok.ret rfl
   ·exact hf.elim
  | rt d=>exact hf.elim
  | bk ρ=>exact hf.elim
  | ct ρ=>exact hf.elim
end L3.K52
end
section
set_option maxHeartbeats 4000000
namespace L3.K52
open PySem PySem.Spec PyProof.Rows L2 Hn
theorem sc0:scopeOk (fdOf (top 1) [])=true:=by decide +kernel
theorem sc1:scopeOk (fdOf (top 2) [])=true:=by decide +kernel
theorem sc2:scopeOk (fdOf (top 3) [])=true:=by decide +kernel
theorem sc3:scopeOk (fdOf (top 5) ["return"])=true:=by decide +kernel
theorem sc4:scopeOk (fdOf (top 6) [])=true:=by decide +kernel
theorem sc5:scopeOk (fdOf (top 7) ["_law_some"])=true:=by decide +kernel
theorem sc6:scopeOk (fdOf (top 8) [])=true:=by decide +kernel
theorem sc7:scopeOk (fdOf (top 9) [])=true:=by decide +kernel
theorem sc8:scopeOk (fdOf (top 10) [])=true:=by decide +kernel
theorem all_mk {l:PySem.W.OpenLaw} {w:World} {K:PySem.W.Frag} {h:Heap} {mg:Str->Option Value} {fa g0 g1 g2 g3 g4 g5 g6 g7 g8:Addr} (X:K.In h) (G:h.Ns mainGlobals mg) (hfa:mg "law" = some (.ref fa))
  {odg0 ang0 odg1 ang1 odg2 ang2 odg3 ang3 odg4 ang4 odg5 ang5 odg6 ang6 odg7 ang7 odg8 ang8:Option Addr} {slg0 slg1 slg2 slg3 slg4 slg5 slg6 slg7 slg8:Array (Option Value)} {ocg0 kVg0 dcg0 pmg0 cdg0 ctg0 ocg1 kVg1 dcg1 pmg1 cdg1 ctg1 ocg2 kVg2 dcg2 pmg2 cdg2 ctg2 ocg3 kVg3 dcg3 pmg3 cdg3 ctg3 ocg4 kVg4 dcg4 pmg4 cdg4 ctg4 ocg5 kVg5 dcg5 pmg5 cdg5 ctg5 ocg6 kVg6 dcg6 pmg6 cdg6 ctg6 ocg7 kVg7 dcg7 pmg7 cdg7 ctg7 ocg8 kVg8 dcg8 pmg8 cdg8 ctg8:Value}
  (rjk:excIn K g8=false)
  (rbl:(bnames.all λx=>(Γ.gl.lookup x).isSome||isNo (PySem.W.nsIn K mainGlobals x))=true)
  (ag0:PySem.W.nsIn K mainGlobals "changed" = some (some (.ref g0))) (lg0:K.lookup g0=some ⟨ocg0,odg0,.func (PySem.W.fnOf "changed" "changed" (defArgs (top 1)) (defBody (top 1)) (defScope (top 1)) .none kVg0 dcg0 pmg0 ang0 cdg0 ctg0),slg0⟩) (cg0:PySem.W.codeIn K cdg0 "changed" = true) (kg0:PySem.W.keepIn K (.ref g0)=true)
  (ag1:PySem.W.nsIn K mainGlobals "places_of" = some (some (.ref g1))) (lg1:K.lookup g1=some ⟨ocg1,odg1,.func (PySem.W.fnOf "places_of" "places_of" (defArgs (top 2)) (defBody (top 2)) (defScope (top 2)) .none kVg1 dcg1 pmg1 ang1 cdg1 ctg1),slg1⟩) (cg1:PySem.W.codeIn K cdg1 "places_of" = true) (kg1:PySem.W.keepIn K (.ref g1)=true)
  (ag2:PySem.W.nsIn K mainGlobals "alike" = some (some (.ref g2))) (lg2:K.lookup g2=some ⟨ocg2,odg2,.func (PySem.W.fnOf "alike" "alike" (defArgs (top 3)) (defBody (top 3)) (defScope (top 3)) .none kVg2 dcg2 pmg2 ang2 cdg2 ctg2),slg2⟩) (cg2:PySem.W.codeIn K cdg2 "alike" = true) (kg2:PySem.W.keepIn K (.ref g2)=true)
  (ag3:PySem.W.nsIn K mainGlobals "_law_tape" = some (some (.ref g3))) (lg3:K.lookup g3=some ⟨ocg3,odg3,.func (PySem.W.fnOf "_law_tape" "_law_tape" (defArgs (top 5)) (defBody (top 5)) (defScope (top 5)) .none kVg3 dcg3 pmg3 ang3 cdg3 ctg3),slg3⟩) (cg3:PySem.W.codeIn K cdg3 "_law_tape" = true) (kg3:PySem.W.keepIn K (.ref g3)=true)
  (ag4:PySem.W.nsIn K mainGlobals "_law_draw" = some (some (.ref g4))) (lg4:K.lookup g4=some ⟨ocg4,odg4,.func (PySem.W.fnOf "_law_draw" "_law_draw" (defArgs (top 6)) (defBody (top 6)) (defScope (top 6)) .none kVg4 dcg4 pmg4 ang4 cdg4 ctg4),slg4⟩) (cg4:PySem.W.codeIn K cdg4 "_law_draw" = true) (kg4:PySem.W.keepIn K (.ref g4)=true)
  (ag5:PySem.W.nsIn K mainGlobals "_law_greats" = some (some (.ref g5))) (lg5:K.lookup g5=some ⟨ocg5,odg5,.func (PySem.W.fnOf "_law_greats" "_law_greats" (defArgs (top 7)) (defBody (top 7)) (defScope (top 7)) .none kVg5 dcg5 pmg5 ang5 cdg5 ctg5),slg5⟩) (cg5:PySem.W.codeIn K cdg5 "_law_greats" = true) (kg5:PySem.W.keepIn K (.ref g5)=true)
  (ag6:PySem.W.nsIn K mainGlobals "_law_alike" = some (some (.ref g6))) (lg6:K.lookup g6=some ⟨ocg6,odg6,.func (PySem.W.fnOf "_law_alike" "_law_alike" (defArgs (top 8)) (defBody (top 8)) (defScope (top 8)) .none kVg6 dcg6 pmg6 ang6 cdg6 ctg6),slg6⟩) (cg6:PySem.W.codeIn K cdg6 "_law_alike" = true) (kg6:PySem.W.keepIn K (.ref g6)=true)
  (ag7:PySem.W.nsIn K mainGlobals "_law_others" = some (some (.ref g7))) (lg7:K.lookup g7=some ⟨ocg7,odg7,.func (PySem.W.fnOf "_law_others" "_law_others" (defArgs (top 9)) (defBody (top 9)) (defScope (top 9)) .none kVg7 dcg7 pmg7 ang7 cdg7 ctg7),slg7⟩) (cg7:PySem.W.codeIn K cdg7 "_law_others" = true) (kg7:PySem.W.keepIn K (.ref g7)=true)
  (ag8:PySem.W.nsIn K mainGlobals "law" = some (some (.ref g8))) (lg8:K.lookup g8=some ⟨ocg8,odg8,.func (PySem.W.fnOf "law" "law" (defArgs (top 10)) (defBody (top 10)) (defScope (top 10)) .none kVg8 dcg8 pmg8 ang8 cdg8 ctg8),slg8⟩) (cg8:PySem.W.codeIn K cdg8 "law" = true) (kg8:PySem.W.keepIn K (.ref g8)=true) :
  ∃ fd:FuncData,(∀ (s:Shared) (v:Value),BindsTo s fd ⟨[v],[]⟩ [("_law_script",v)])/\∀ base:Heap,K.In base->base.Ns mainGlobals mg->FnOk l.prog w K mg base CX0 8 fa fd ["_law_script"] (spTrue K):=by
 have e:=hfa.symm.trans (PySem.W.mg_of X G ag8)
 cases e
 have RB:RowB K Γ [] fa:=⟨rfl,rjk,rfl,rfl,rfl,rfl,rbl⟩
 have Fg0:=fun_mk (st:=top 1) lg0 cg0 kg0
 have bg0:=Fg0.binds (ps:=["greats","numbers"]) λ_ _ _ _ _ _ us hl=>match us,hl with | [_,_],_=>rfl
 have Fg1:=fun_mk (st:=top 2) lg1 cg1 kg1
 have bg1:=Fg1.binds (ps:=["greats"]) λ_ _ _ _ _ _ us hl=>match us,hl with | [_],_=>rfl
 have Fg2:=fun_mk (st:=top 3) lg2 cg2 kg2
 have bg2:=Fg2.binds (ps:=["greats","others"]) λ_ _ _ _ _ _ us hl=>match us,hl with | [_,_],_=>rfl
 have Fg3:=fun_mk (st:=top 5) lg3 cg3 kg3
 have bg3:=Fg3.binds (ps:=["_law_script"]) λ_ _ _ _ _ _ us hl=>match us,hl with | [_],_=>rfl
 have Fg4:=fun_mk (st:=top 6) lg4 cg4 kg4
 have bg4:=Fg4.binds (ps:=["_law_tape_here","_law_many"]) λ_ _ _ _ _ _ us hl=>match us,hl with | [_,_],_=>rfl
 have Fg5:=fun_mk (st:=top 7) lg5 cg5 kg5
 have bg5:=Fg5.binds (ps:=["_law_tape_here","_law_many"]) λ_ _ _ _ _ _ us hl=>match us,hl with | [_,_],_=>rfl
 have Fg6:=fun_mk (st:=top 8) lg6 cg6 kg6
 have bg6:=Fg6.binds (ps:=["_law_greats_here","_law_others_here"]) λ_ _ _ _ _ _ us hl=>match us,hl with | [_,_],_=>rfl
 have Fg7:=fun_mk (st:=top 9) lg7 cg7 kg7
 have bg7:=Fg7.binds (ps:=["_law_tape_here","_law_greats_here"]) λ_ _ _ _ _ _ us hl=>match us,hl with | [_,_],_=>rfl
 have Fg8:=fun_mk (st:=top 10) lg8 cg8 kg8
 have bg8:=Fg8.binds (ps:=["_law_script"]) λ_ _ _ _ _ _ us hl=>match us,hl with | [_],_=>rfl
 refine ⟨PySem.W.fnOf "law" "law" (defArgs (top 10)) (defBody (top 10)) (defScope (top 10)) .none kVg8 dcg8 pmg8 ang8 cdg8 ctg8,λs v=>.of_eq rfl,λbase KB GB=>?_⟩
 let T:Tx:=⟨l.prog,w,K,mg,base,clOf [] fa⟩
 have st:TxSt T Γ:=by
  refine RB.st (T:=T) X G rfl (λx d e=>?_) (λx c fs e=>?_) (λx kvs e=>?_)
  ·have m:=L2.mem_of_lookup e
   simp [Γ] at m
  ·have m:=L2.mem_of_lookup e
   simp [Γ] at m
  ·have m:=L2.mem_of_lookup e
   simp [Γ] at m
 have fs:FnsAt T Γ Tb:=λx i n e=>by
  have m:=L2.mem_of_lookup e
  simp only [Γ,List.mem_cons,List.not_mem_nil,or_false,Prod.mk.injEq,L3.G.fn.injEq,reduceCtorEq,and_false,false_or] at m
  rcases m with ⟨rfl,rfl,rfl⟩ | ⟨rfl,rfl,rfl⟩ | ⟨rfl,rfl,rfl⟩ | ⟨rfl,rfl,rfl⟩ | ⟨rfl,rfl,rfl⟩ | ⟨rfl,rfl,rfl⟩ | ⟨rfl,rfl,rfl⟩ | ⟨rfl,rfl,rfl⟩ | ⟨rfl,rfl,rfl⟩
  ·exact ⟨fdOf (top 1) [],rfl,rfl,⟨g0,_,_,top 1,Fg0,rfl,rfl,scopeOk_ok sc0,bg0,PySem.W.mg_of X G ag0⟩⟩
  ·exact ⟨fdOf (top 2) [],rfl,rfl,⟨g1,_,_,top 2,Fg1,rfl,rfl,scopeOk_ok sc1,bg1,PySem.W.mg_of X G ag1⟩⟩
  ·exact ⟨fdOf (top 3) [],rfl,rfl,⟨g2,_,_,top 3,Fg2,rfl,rfl,scopeOk_ok sc2,bg2,PySem.W.mg_of X G ag2⟩⟩
  ·exact ⟨fdOf (top 5) ["return"],rfl,rfl,⟨g3,_,_,top 5,Fg3,rfl,rfl,scopeOk_ok sc3,bg3,PySem.W.mg_of X G ag3⟩⟩
  ·exact ⟨fdOf (top 6) [],rfl,rfl,⟨g4,_,_,top 6,Fg4,rfl,rfl,scopeOk_ok sc4,bg4,PySem.W.mg_of X G ag4⟩⟩
  ·exact ⟨fdOf (top 7) ["_law_some"],rfl,rfl,⟨g5,_,_,top 7,Fg5,rfl,rfl,scopeOk_ok sc5,bg5,PySem.W.mg_of X G ag5⟩⟩
  ·exact ⟨fdOf (top 8) [],rfl,rfl,⟨g6,_,_,top 8,Fg6,rfl,rfl,scopeOk_ok sc6,bg6,PySem.W.mg_of X G ag6⟩⟩
  ·exact ⟨fdOf (top 9) [],rfl,rfl,⟨g7,_,_,top 9,Fg7,rfl,rfl,scopeOk_ok sc7,bg7,PySem.W.mg_of X G ag7⟩⟩
  ·exact ⟨fdOf (top 10) [],rfl,rfl,⟨_,_,_,top 10,Fg8,rfl,rfl,scopeOk_ok sc8,bg8,PySem.W.mg_of X G ag8⟩⟩
 have ok:=runs_at (Rs:=Rs) (T:=T) (k:=4) (i:=8) (fd:=fdOf (top 10) []) (runs_ok st fs 4) rfl Fg8 rfl rfl (scopeOk_ok sc8)
 exact FnOk.imp ok (spTrue_of law_ok)
theorem walk {l:PySem.W.OpenLaw} {q:Program} {loose:List Str} {XP:(Str->Option Value)->Heap->Prop} {YP:World->Heap->Prop} {d:DefRec} {K:Params->PySem.W.Frag} (hn:l.most=some 63) (hdf:d.params.defaults=[])
  (hY:∀ (w:World) (h:Heap),YP w h->(K w.params).In h)
  (F:∀ (w:World) (mg:Str->Option Value) (fa:Addr) (h:Heap),(K w.params).In h->h.Ns mainGlobals mg->mg d.name=some (.ref fa) ->
   ∃ fd:FuncData,(∀ (s:Shared) (u:Value),BindsTo s fd ⟨[u],[]⟩ [("_law_script",u)])/\∀ base:Heap,(K w.params).In base->base.Ns mainGlobals mg->FnOk l.prog w (K w.params) mg base CX0 8 fa fd ["_law_script"] (spTrue (K w.params))) :
  PySem.W.WalkO q loose XP YP l.row.toRowW d [] (λf vs=>PySem.call f vs):=
 L2.walk_of (n:=63) (k:=8) (x:="_law_script") (CX:=λ_=>CX0) (sp:=λw=>spTrue (K w.params)) hn (by decide) hdf ⟨λ_=>rfl,by decide,by decide,rfl⟩ hY F (λ_ _ a ns hl _ hS=>⟨a,ns,rfl,hS,λ_=>rfl⟩) λ_ _ _ _ _ z=>z
end L3.K52
open PySem PySem.W PyProof.Rows
set_option maxRecDepth 100000 in
set_option maxHeartbeats 0 in
theorem PySem.Challenge.cw_handnames_k52_great_names_changed_holds : PySem.Challenge.rw_handnames_k52_great_names_changed.Holds := by
 w_on;o_law;k_head;(case hw=>w_witness2)
 k_fill
 refine L3.K52.walk (l:=PySem.Challenge.rw_handnames_k52_great_names_changed) rfl rfl (λw h Y=>PySem.W.kIn_of Y) ?F
 case F=>
  intro w mg fa h KX G hmg
  refine' L3.K52.all_mk KX G hmg ?rjk ?rbl ?ag0 ?lg0 ?cg0 ?kg0 ?ag1 ?lg1 ?cg1 ?kg1 ?ag2 ?lg2 ?cg2 ?kg2 ?ag3 ?lg3 ?cg3 ?kg3 ?ag4 ?lg4 ?cg4 ?kg4 ?ag5 ?lg5 ?cg5 ?kg5 ?ag6 ?lg6 ?cg6 ?kg6 ?ag7 ?lg7 ?cg7 ?kg7 ?ag8 ?lg8 ?cg8 ?kg8
  (case rjk=>kernel_rfl)
  (case rbl=>kernel_rfl)
  (case ag0=>k_is)
  (case lg0=>k_is)
  (case cg0=>k_is)
  (case kg0=>k_is)
  (case ag1=>k_is)
  (case lg1=>k_is)
  (case cg1=>k_is)
  (case kg1=>k_is)
  (case ag2=>k_is)
  (case lg2=>k_is)
  (case cg2=>k_is)
  (case kg2=>k_is)
  (case ag3=>k_is)
  (case lg3=>k_is)
  (case cg3=>k_is)
  (case kg3=>k_is)
  (case ag4=>k_is)
  (case lg4=>k_is)
  (case cg4=>k_is)
  (case kg4=>k_is)
  (case ag5=>k_is)
  (case lg5=>k_is)
  (case cg5=>k_is)
  (case kg5=>k_is)
  (case ag6=>k_is)
  (case lg6=>k_is)
  (case cg6=>k_is)
  (case kg6=>k_is)
  (case ag7=>k_is)
  (case lg7=>k_is)
  (case cg7=>k_is)
  (case kg7=>k_is)
  (case ag8=>k_is)
  (case lg8=>k_is)
  (case cg8=>k_is)
  (case kg8=>k_is)
end
