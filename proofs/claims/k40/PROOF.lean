import PyProof.Rows.All
import Wide.All
import OpenK.AllK
import Wide.FinOn
import Lean
import PyProof.EqAt
import PyProof.EqKinds
import PyProof.TupleCall
import PyProof.CompUse
import PyProof.P3Eq
import PyProof.NeData
import PyProof.P3In
import PyProof.EnumMake
import PyProof.Draws
import PyProof.ConsumeWalk
import PyProof.Rows.SetFrom
import PyProof.SetRoads
import PyProof.Rows.SortWalk
import PyProof.ListRange
import PyProof.WalksMore
import PySem.Challenge.RW_handnames_k40_rounds_of_any_thing
set_option Elab.async false
set_option linter.all false
set_option maxRecDepth 100000
set_option maxHeartbeats 4000000
namespace PySem.W.Fast
def tw3972929680043538479:=0
def tw12531179236294436659:=0
def tw8129051203523988394:=0
def tw17988954909461647444:=0
def tw14413466951490235744:=0
def tw5604057000709053422:=0
def tw15228555627938216040:=0
def tw2292557045510097605:=0
def tw6703146967981861998:=0
def tw13262394464116260962:=0
def tw17207036638636876768:=0
def tw9665879944284299009:=0
def tw8277993562824922468:=0
def tw14052359911930683666:=0
def tw4055036546935159275:=0
def tw14992864387064866706:=0
def tw7217449580530546103:=0
def tw18130959819379981880:=0
def tw12118900756393409673:=0
def tw18048393153325458393:=0
def tw11461489106145900290:=0
def tw14533231553715628467:=0
def tw7019390366938562292:=0
def tw4518889801702787000:=0
def tw5234127236263755700:=0
def tw4114893883736880169:=0
def tw7489035455591362332:=0
def tw9032720387435983601:=0
def tw11332957354273898009:=0
def tw6264516727969317283:=0
def tw3034440755571765275:=0
def tw15002213187464207226:=0
def tw8033056942605713473:=0
def tw15181927790355179692:=0
def tw7148584433015852858:=0
def tw17580798645069759935:=0
def tw13857611285816080718:=0
def tw13775612361484201749:=0
def tw7714288124152994779:=0
def tw10604252981143459819:=0
def tw3928223495906480929:=0
def tw7933680198060331584:=0
def tw4195771357433292861:=0
def tw1784241550283375092:=0
def tw6198237620569743171:=0
def tw16620196502487000628:=0
def tw2713911207903753394:=0
def tw18236312052183963071:=0
def tw2541929840750308922:=0
def tw891789169288073879:=0
def tw8324958762876986445:=0
def tw11775662803394144803:=0
def tw6638554464900046103:=0
def tw6972758162725573398:=0
def tw7019041218951640962:=0
def tw2714954245512337217:=0
def tw6689433908774431677:=0
def tw14189612903143831937:=0
def tw16940446675742572203:=0
def tw14086977699691372818:=0
def tw8275313913400526824:=0
def tw9898941181207073466:=0
def tw3203480567003723720:=0
def tw16224366793113252264:=0
def tw16499848680406077421:=0
def tw15172236885265602173:=0
def tw11676223193654399260:=0
def tw17845079766575463577:=0
def tw11675639731775162861:=0
def tw810405421968015774:=0
def tw5805719083709583037:=0
def tw8459332370498340346:=0
def tw12779643940148909173:=0
def tw9195702613607175530:=0
def tw8093165736649777458:=0
def tw6771467192086799208:=0
def tw5009772899879290799:=0
def tw7364200348275155271:=0
def tw2135105468488691112:=0
def tw17022347009139983491:=0
def tw4395838494934159675:=0
def tw10453092697249592255:=0
def tw3506127320051710752:=0
def tw6790894311782658052:=0
def tw6697120560427235015:=0
def tw10521358999886989769:=0
def tw5777449834607246372:=0
def tw17744782379434634270:=0
def tw10783916100331760578:=0
def tw17298659759328589762:=0
def tw1295141994713529903:=0
def tw3303650944723120421:=0
def tw9973751916732609795:=0
def tw5405183424732256865:=0
def tw11431701146278689693:=0
def tw8070831549622071046:=0
def tw7082415261770485527:=0
def tw830282488567418236:=0
def tw10505065211511131188:=0
def tw12058331055835632452:=0
def tw4214730252763471028:=0
def tw7780357353111989771:=0
def tw1130847680808340715:=0
def tw2677336179634284665:=0
def tw9362327639777649741:=0
def tw3534202127253215591:=0
def tw12614604065921254221:=0
def tw5031863905240216646:=0
def tw929530969459895863:=0
def tw16328549257541494698:=0
def tw11067179872534299775:=0
def tw15168811715770276587:=0
def tw15846254986340343593:=0
def tw14948071526084541615:=0
def tw4312634901841635135:=0
def tw8067268538232204343:=0
def tw2670963490358358073:=0
def tw8603537546913726959:=0
def tw16312236374299535507:=0
def tw7451032648798194655:=0
def tw1610065354704599156:=0
def tw12011925178878039890:=0
def tw3263911339347436118:=0
def tw13707447944358810203:=0
def tw7238494020422628191:=0
def tw15843529883224562135:=0
def tw9558079937723294162:=0
def tw5483674942009200020:=0
def tw10186321575582801404:=0
end PySem.W.Fast
namespace L2
open PySem PySem.Spec PyProof.Rows
noncomputable abbrev Key:=Sum Int Str
noncomputable def a0c:Key->Value->Bool
 | .inl k,v=>Value.isInt k v
 | .inr x,v=>Value.isStrOf x v
noncomputable def c3n (w:World):Key->Int
 | .inl k=>hashInt k
 | .inr x=>hashStr w x
theorem i4:∀ {k:Key} {v:Value},a0c k v=true->(∃ i t,k=Sum.inl i/\v=Value.int i t)\/(∃ x t,k=Sum.inr x/\v=Value.str x t)
 | .inl i,v,h=>by
  obtain ⟨t,e⟩:=Value.isInt_shape (k:=i) (v:=v) h
  exact .inl ⟨i,t,rfl,e⟩
 | .inr x,v,h=>by
  obtain ⟨t,e⟩:=Value.isStrOf_shape (x:=x) (v:=v) h
  exact .inr ⟨x,t,rfl,e⟩
theorem a7n (i:Int) (t:Tok):a0c (.inl i) (.int i t)=true:=by simp [a0c,Value.isInt]
theorem a69 (x:Str) (t:Tok):a0c (.inr x) (.str x t)=true:=by simp [a0c,Value.isStrOf]
theorem b82 (a b:Int):decide ((Sum.inl a:Key)=Sum.inl b)=(a==b):=by
 by_cases e:a=b
 ·subst e;simp
 ·have h:¬ (Sum.inl a:Key)=Sum.inl b:=λq=>e (Sum.inl.inj q)
  rw [decide_eq_false h]
  exact (beq_eq_false_iff_ne.mpr e).symm
theorem b8l (a b:Str):decide ((Sum.inr a:Key)=Sum.inr b)=decide (a=b):=by
 by_cases e:a=b
 ·subst e;simp
 ·have h:¬ (Sum.inr a:Key)=Sum.inr b:=λq=>e (Sum.inr.inj q)
  rw [decide_eq_false h,decide_eq_false e]
theorem b8b (a:Int) (b:Str):decide ((Sum.inl a:Key)=Sum.inr b)=false:=decide_eq_false (λq=>nomatch q)
theorem b7z (a:Str) (b:Int):decide ((Sum.inr a:Key)=Sum.inl b)=false:=decide_eq_false (λq=>nomatch q)
noncomputable def j4 (prog:Program) (w:World):PySem.KeyKind prog w Key where
 is:=a0c
 hash:=c3n w
 inj:=λv a b ha hb=>by
  rcases i4 ha with ⟨i,t,rfl,rfl⟩ | ⟨x,t,rfl,rfl⟩
  ·rcases i4 hb with ⟨j,u,rfl,e⟩ | ⟨y,u,rfl,e⟩
   ·injection e with e1 _;rw [e1]
   ·exact nomatch e
  ·rcases i4 hb with ⟨j,u,rfl,e⟩ | ⟨y,u,rfl,e⟩
   ·exact nomatch e
   ·injection e with e1 _;rw [e1]
 byValue:=λk v h=>by
  rcases i4 h with ⟨i,t,rfl,rfl⟩ | ⟨x,t,rfl,rfl⟩ <;> rfl
 pyHash:=λhv h=>by
  rcases i4 hv with ⟨i,t,rfl,rfl⟩ | ⟨x,t,rfl,rfl⟩
  ·exact wpAny_pyHash_int h
  ·exact wpAny_pyHash_str h
 eqBool:=λhu hv h=>by
  rcases i4 hu with ⟨i,t,rfl,rfl⟩ | ⟨x,t,rfl,rfl⟩
  ·rcases i4 hv with ⟨j,u,rfl,rfl⟩ | ⟨y,u,rfl,rfl⟩
   ·rw [b82] at h;exact wpAny_eqBool_int h
   ·rw [b8b] at h;exact SeqAt.EqAt.int_str i t y u _ _ _ _ h
  ·rcases i4 hv with ⟨j,u,rfl,rfl⟩ | ⟨y,u,rfl,rfl⟩
   ·rw [b7z] at h;exact SeqAt.EqAt.str_int x t j u _ _ _ _ h
   ·rw [b8l] at h;exact wpAny_eqBool_str h
 «strs»:=λk x t v h=>by
  rcases i4 h with ⟨i,u,rfl,e⟩ | ⟨y,u,rfl,e⟩
  ·exact nomatch e
  ·injection e with e1 _
   subst e1
   cases v <;> rfl
theorem a3s (prog:Program) (w:World) (i:Int) (t:Tok):(j4 prog w).is (.inl i) (.int i t)=true:=a7n i t
theorem a2l (prog:Program) (w:World) (x:Str) (t:Tok):(j4 prog w).is (.inr x) (.str x t)=true:=a69 x t
inductive V where
 | non | bl (b:Bool) | int (i:Int) | str (x:Str) | byt (b:Array UInt8) | flt (b:UInt64) | ref (a:Addr) | ty (n:String)
 deriving DecidableEq
def RelV:V->Value->Prop
 | .non,u=>u=Value.none
 | .bl b,u=>u=Value.bool b
 | .int i,u=>∃ t,u=Value.int i t
 | .str x,u=>∃ t,u=Value.str x t
 | .byt b,u=>∃ t,u=Value.bytes b t
 | .flt b,u=>∃ t,u=Value.float b t
 | .ref a,u=>u=Value.ref a
 | .ty n,u=>u=Value.type n
noncomputable abbrev Vals:List V->List Value->Prop:=Paired RelV
theorem Vals.length {xs:List V} {us:List Value} (r:Vals xs us):xs.length=us.length:=Paired.length r
theorem Vals.get:∀ {xs:List V} {us:List Value} {i:Nat} {x:V},Vals xs us->xs[i]?=some x->∃ u,us[i]?=some u/\RelV x u
 | _,_,_,_,.nil,e=>by simp at e
 | _,_,0,_,.cons r _,e=>by simp at e;subst e;exact ⟨_,rfl,r⟩
 | _,_,i+1,x,.cons _ t,e=>by
  obtain ⟨u,h1,h2⟩:=Vals.get (i:=i) (x:=x) t (by simpa using e)
  exact ⟨u,by simpa using h1,h2⟩
theorem Vals.set {x:V} {u:Value} (r:RelV x u):∀ {xs:List V} {us:List Value} (i:Nat),Vals xs us->Vals (xs.set i x) (us.set i u)
 | _,_,_,.nil=>.nil
 | _,_,0,.cons _ t=>.cons r t
 | _,_,i+1,.cons q t=>.cons q (Vals.set r i t)
theorem Vals.append:∀ {xs ys:List V} {us ws:List Value},Vals xs us->Vals ys ws->Vals (xs++ys) (us++ws)
 | _,_,_,_,.nil,s=>s
 | _,_,_,_,.cons r t,s=>.cons r (Vals.append t s)
theorem Vals.take:∀ {xs:List V} {us:List Value} (n:Nat),Vals xs us->Vals (xs.take n) (us.take n)
 | _,_,0,_=>.nil
 | _,_,_+1,.nil=>.nil
 | _,_,n+1,.cons r t=>.cons r (Vals.take n t)
theorem Vals.drop:∀ {xs:List V} {us:List Value} (n:Nat),Vals xs us->Vals (xs.drop n) (us.drop n)
 | _,_,0,r=>r
 | _,_,_+1,.nil=>.nil
 | _,_,n+1,.cons _ t=>Vals.drop n t
def RelO:Option V->Option Value->Prop
 | some v,some u=>RelV v u
 | none,none=>True
 | _,_=>False
def KV {κ:Type}:List (κ×V)->List (κ×Value)->Prop:=Paired λ(p:κ×V) (q:κ×Value)=>p.1=q.1/\RelV p.2 q.2
noncomputable def kV:Key->V
 | .inl i=>.int i
 | .inr x=>.str x
inductive HO where
 | lst (xs:List V)
 | tup (xs:List V)
 | dK (kvs:List (Key×V)) | dT (kvs:List (List Key×V))
 | set (S:Int->Bool) (n:Nat)
 | ins (C dx:Addr) (fs:List (Str×V))
 | own (x:Addr)
 | xd (fs:List (Str×V))
 | met (f x:Addr)
 | rng (lo hi:Int)
 | frz (o:Obj) (u:HO)
 | tbl (ps:Array Value)
 | ext (φ:Heap->Prop)
noncomputable abbrev Hp:=Addr->Option HO
noncomputable def upd (H:Hp) (a:Addr) (o:HO):Hp:=λb=>if b=a then some o else H b
theorem b9 {H:Hp} {a:Addr} {o:HO}:upd H a o a=some o:=by unfold upd;rw [if_pos rfl]
theorem a4 {H:Hp} {a b:Addr} {o:HO} (h:b≠a):upd H a o b=H b:=by unfold upd;rw [if_neg h]
theorem b6j {H:Hp} {a b:Addr} {o u:HO} (h:H a=some o) (h':H b=some u) (d:o≠u):a≠b:=by
 intro e;subst e;rw [h] at h';exact d (Option.some.inj h')
theorem b7 {H:Hp} {a b:Addr} {o:HO} (h:H a=some o) (h':H b=none):a≠b:=by
 intro e;subst e;rw [h] at h';cases h'
def TupN (h:Heap) (a:Addr) (items:Array Value):Prop:=∃ o,h.get? a=some o/\o.cls=.type "tuple"/\∃ n,o.data=.seq items n/\o.dict=none
theorem TupN.is {h:Heap} {a:Addr} {items:Array Value} (x:TupN h a items):IsTup h a items:=let ⟨o,e,c,n,d,_⟩:=x;⟨o,e,c,n,d⟩
theorem TupN.new (h:Heap) (items:Array Value):TupN (h.push { cls:=.type "tuple",data:=.seq items }) h.objs.size items:=⟨_,Heap.get?_push_size _ rfl,rfl,_,rfl,rfl⟩
section
variable (P:Program) (w:World)
def ObjOk (H:Hp) (h:Heap) (a:Addr):HO->Prop
 | .lst xs=>xs.length<=sizeLine/\∃ (its:List Value) (n:Nat),Vals xs its/\h.get? a=some { cls:=.type "list",data:=.seq its.toArray n }
 | .tup xs=>xs.length<=sizeLine/\∃ its:List Value,Vals xs its/\TupN h a its.toArray
 | .dK kvs=>kvs.length<=sizeLine/\(a==sysModules)=false/\∃ vs,KV kvs vs/\h.DictOf (j4 P w) a vs
 | .dT kvs=>kvs.length<=sizeLine/\(a==sysModules)=false/\∃ xs:List (List Key×Addr×Value),
   Paired (λ(p:List Key×V) (q:List Key×Addr×Value)=>p.1=q.1/\H q.2.1=some (.tup (p.1.map kV))/\RelV p.2 q.2.2) kvs xs /\
   ∃ o es ep,h.get? a=some o/\o.ExactDict/\o.data=.dict es ep/\es.toList=xs.map (entryOfKey (tupleKind (j4 P w)))/\(xs.map (·.1)).Nodup
 | .set S n=>h.SetOf (intKind P w) a S n
 | .ins C dx fs=>H dx=some (.own a)/\fs.length<=1000/\dx≠a/\h.get? a=some (PySem.W.instObj C dx) /\
   ∃ mA,h.Ns1 dx mA/\(∀ f,RelO (fs.lookup f) (mA f))/\PySem.Within mA (fs.map (·.1))
 | .own _=>∃ o,h.get? a=some o
 | .xd fs=>∃ mA,h.Ns1 a mA/\∀ f,RelO (fs.lookup f) (mA f)
 | .rng lo hi=>∃ t u v,h.get? a=some { cls:=.type "range",data:=.fields #[.int lo t,.int hi u,.int 1 v] }
 | .frz o u=>h.get? a=some o/\ObjOk H h a u
 | .tbl ps=>h.get? a=some { cls:=.none,data:=.fields ps }
 | .met f x=>h.get? a=some (PySem.W.methodObj (.ref f) (.ref x))
 | .ext φ=>φ h/\(∃ o,h.get? a=some o)/\∀ h1 h2:Heap,φ h1->(∀ o,h1.get? a=some o->h2.get? a=some o)->φ h2
def HOk (H:Hp) (h:Heap):Prop:=∀ a o,H a=some o->ObjOk P w H h a o
end
section
variable {P:Program} {w:World} {H H':Hp} {h h':Heap} {a:Addr} {o:HO}
theorem ObjOk.lt (x:ObjOk P w H h a o):a<h.objs.size:=by
 cases o with
 | lst xs=>obtain ⟨_,_,_,_,e⟩:=x;exact Heap.lt_size e
 | tup xs=>obtain ⟨_,_,_,p⟩:=x;exact p.is.lt
 | dK kvs=>obtain ⟨_,_,_,_,o,_,_,e,_⟩:=x;exact Heap.lt_size e
 | dT kvs=>obtain ⟨_,_,_,_,o,_,_,e,_⟩:=x;exact Heap.lt_size e
 | set S n=>obtain ⟨o,_,_,_,e,_⟩:=x;exact Heap.lt_size e
 | ins C dx fs=>obtain ⟨_,_,_,e,_⟩:=x;exact Heap.lt_size e
 | own y=>obtain ⟨_,e⟩:=x;exact Heap.lt_size e
 | xd fs=>obtain ⟨_,⟨_,_,_,e,_⟩,_⟩:=x;exact Heap.lt_size e
 | rng lo hi=>obtain ⟨_,_,_,e⟩:=x;exact Heap.lt_size e
 | frz ob u=>obtain ⟨e,_⟩:=x;exact Heap.lt_size e
 | tbl ps=>exact Heap.lt_size (show h.get? a=some _ from x)
 | met f y=>exact Heap.lt_size (show h.get? a=some _ from x)
 | ext φ=>obtain ⟨_,⟨_,e⟩,_⟩:=x;exact Heap.lt_size e
theorem Paired.mapP {α β:Type} {F G:α->β->Prop}:∀ {l₁:List α} {l₂:List β},Paired F l₁ l₂->(∀ a b,F a b->G a b)->Paired G l₁ l₂
 | _,_,.nil,_=>.nil
 | _,_,.cons r t,f=>.cons (f _ _ r) (Paired.mapP t f)
theorem ObjOk.stay (x:ObjOk P w H h a o) (k:∀ b u,(b=a\/H b=some (.own a))->h.get? b=some u->h'.get? b=some u)
  (ho:∀ b,H b=some (.own a)->H' b=some (.own a)) (ht:∀ b xs,H b=some (.tup xs)->H' b=some (.tup xs)):ObjOk P w H' h' a o:=by
 induction o with
 | lst xs=>obtain ⟨z,its,n,r,e⟩:=x;exact ⟨z,its,n,r,k _ _ (.inl rfl) e⟩
 | tup xs=>obtain ⟨z,its,r,ob,e,c⟩:=x;exact ⟨z,its,r,ob,k _ _ (.inl rfl) e,c⟩
 | dK kvs=>obtain ⟨z,y,vs,r,ob,es,ep,e,c⟩:=x;exact ⟨z,y,vs,r,ob,es,ep,k _ _ (.inl rfl) e,c⟩
 | dT kvs=>
  obtain ⟨z,y,xs,r,ob,es,ep,e,c⟩:=x
  exact ⟨z,y,xs,Paired.mapP r λp q z=>⟨z.1,ht _ _ z.2.1,z.2.2⟩,ob,es,ep,k _ _ (.inl rfl) e,c⟩
 | set S n=>obtain ⟨ob,es,ep,t,e,c⟩:=x;exact ⟨ob,es,ep,t,k _ _ (.inl rfl) e,c⟩
 | ins C dx fs=>
  obtain ⟨d,z,ne,e,mA,⟨od,es,ep,e2,c⟩,r⟩:=x
  exact ⟨ho _ d,z,ne,k _ _ (.inl rfl) e,mA,⟨od,es,ep,k _ _ (.inr d) e2,c⟩,r⟩
 | own y=>obtain ⟨ob,e⟩:=x;exact ⟨ob,k _ _ (.inl rfl) e⟩
 | xd fs=>obtain ⟨mA,⟨od,es,ep,e,c⟩,r⟩:=x;exact ⟨mA,⟨od,es,ep,k _ _ (.inl rfl) e,c⟩,r⟩
 | rng lo hi=>obtain ⟨t,u,v,e⟩:=x;exact ⟨t,u,v,k _ _ (.inl rfl) e⟩
 | frz ob u ih=>obtain ⟨e,q⟩:=x;exact ⟨k _ _ (.inl rfl) e,ih q⟩
 | tbl ps=>
  have e:h.get? a=some { cls:=.none,data:=.fields ps }:=x
  show h'.get? a=some { cls:=.none,data:=.fields ps }
  exact k a _ (.inl rfl) e
 | met f y=>
  have e:h.get? a=some (PySem.W.methodObj (.ref f) (.ref y)):=x
  show h'.get? a=some (PySem.W.methodObj (.ref f) (.ref y))
  exact k a _ (.inl rfl) e
 | ext φ=>obtain ⟨p,⟨o,e⟩,st⟩:=x;exact ⟨st _ _ p λo q=>k _ _ (.inl rfl) q,⟨o,k _ _ (.inl rfl) e⟩,st⟩
theorem HOk.lt (x:HOk P w H h) (e:H a=some o):a<h.objs.size:=(x a o e).lt
theorem HOk.fresh (x:HOk P w H h) (e:h.objs.size<=a):H a=none:=by
 cases q:H a with
 | none=>rfl
 | some u=>exact absurd (Nat.lt_of_lt_of_le (x.lt q) e) (Nat.lt_irrefl _)
theorem HOk.kept (x:HOk P w H h) (k:∀ b u,h.get? b=some u->h'.get? b=some u):HOk P w H h':=λa o e=>
 (x a o e).stay (λb u _ q=>k b u q) (λ_ q=>q) λ_ _ q=>q
theorem HOk.laid (x:HOk P w H h) (k:∀ b u,h.get? b=some u->h'.get? b=some u) (hp:h.objs.size<=a) (new:ObjOk P w (upd H a o) h' a o):HOk P w (upd H a o) h':=λb u e=>by
 have hn:=x.fresh hp
 by_cases hb:b=a
 ·subst hb;rw [b9] at e;cases e;exact new
 ·rw [a4 hb] at e
  exact (x b u e).stay (λc v _ q=>k c v q) (λc q=>by rw [a4 (b7 q hn)];exact q) λc xs q=>by rw [a4 (b7 q hn)];exact q
end
def Rd (H:Hp) (a:Addr) (u:HO):Prop:=H a=some u\/∃ o,H a=some (.frz o u)
theorem Rd.ok {P:Program} {w:World} {H:Hp} {h:Heap} {a:Addr} {u:HO} (r:Rd H a u) (x:HOk P w H h):ObjOk P w H h a u:=by
 rcases r with r | ⟨o,r⟩
 ·exact x a u r
 ·obtain ⟨_,q⟩:=x a _ r
  exact q
def Mut:Option HO->Prop
 | some (.lst _)=>True
 | some (.dK _)=>True
 | some (.dT _)=>True
 | some (.set _ _)=>True
 | some (.ins _ _ _)=>True
 | some (.ext _)=>True
 | _=>False
section
variable {P:Program} {w:World} {H:Hp} {h h':Heap} {x e:Addr} {o':HO}
theorem HOk.write (ok:HOk P w H h) (mu:Mut (H x)) (he:e=x\/H e=some (.own x)) (k:∀ b u,b≠e->h.get? b=some u->h'.get? b=some u) (heo:∃ u,h'.get? e=some u)
  (new:ObjOk P w (upd H x o') h' x o'):HOk P w (upd H x o') h':=λb u q=>by
 have nown:∀ c y,H c=some (.own y)->c≠x:=λc y r z=>by subst z;rw [r] at mu;exact mu
 have ntup:∀ c xs,H c=some (.tup xs)->c≠x:=λc xs r z=>by subst z;rw [r] at mu;exact mu
 by_cases hb:b=x
 ·subst hb;rw [b9] at q;cases q;exact new
 ·rw [a4 hb] at q
  by_cases hbe:b=e
  ·have q':H b=some (.own x):=by
    rcases he with z | z
    ·exact absurd (hbe.trans z) hb
    ·rw [hbe];exact z
   rw [q] at q';cases q'
   obtain ⟨v,hv⟩:=heo
   exact ⟨v,by rw [hbe];exact hv⟩
  ·refine (ok b u q).stay (λc v hc r=>k c v ?_ r) (λc r=>by rw [a4 (nown c b r)];exact r) λc xs r=>by rw [a4 (ntup c xs r)];exact r
   rcases hc with rfl | hc
   ·exact hbe
   ·rintro rfl
    rcases he with z | z
    ·exact nown c b hc z
    ·rw [hc] at z;cases z;exact hb rfl
end
structure Un (fs ex:List Addr) (H H':Hp) (h h':Heap):Prop where
 keep:∀ b o,h.get? b=some o->H b=none->b∉fs->b∉ex->h'.get? b=some o
 slot:∀ b o,h.get? b=some o->H b=none->b∈fs->b∉ex->∃ sl,h'.get? b=some { o with slots:=sl }
 free:∀ b o,h.get? b=some o->H b=none->b∉ex->H' b=none
 there:∀ b o,h.get? b=some o->b∉ex->∃ o',h'.get? b=some o'
 tups:∀ b xs,H b=some (.tup xs)->H' b=some (.tup xs)
 frzs:∀ b o u,H b=some (.frz o u)->H' b=some (.frz o u)
 tbls:∀ b ps,H b=some (.tbl ps)->∃ more,H' b=some (.tbl (ps++more))
section
variable {fs fs' ex ex':List Addr} {H H1 H2:Hp} {h h1 h2 h':Heap} {a x e:Addr} {o:HO}
theorem Un.any (u:Un fs ex H H1 h h1) {b:Addr} {ob:Obj} (q:h.get? b=some ob) (n:H b=none) (hx:b∉ex):∃ sl,h1.get? b=some { ob with slots:=sl }:=by
 by_cases hb:b∈fs
 ·exact u.slot b ob q n hb hx
 ·exact ⟨ob.slots,u.keep b ob q n hb hx⟩
theorem Un.kept (k:∀ b u,h.get? b=some u->h'.get? b=some u):Un fs ex H H h h':=
 ⟨λb ob q _ _ _=>k b ob q,λb ob q _ _ _=>⟨ob.slots,k b ob q⟩,λ_ _ _ n _=>n,λb ob q _=>⟨ob,k b ob q⟩,λ_ _ q=>q,λ_ _ _ q=>q,λ_ ps q=>⟨#[],by rw [q];simp⟩⟩
theorem Un.refl:Un fs ex H H h h:=Un.kept λ_ _ q=>q
theorem Un.laid (k:∀ b u,h.get? b=some u->h'.get? b=some u) (hp:h.objs.size<=a) (hn:H a=none):Un fs ex H (upd H a o) h h' where
 keep:=λb u q _ _ _=>k b u q
 slot:=λb u q _ _ _=>⟨u.slots,k b u q⟩
 free:=λb u q n _=>by rw [a4 (Nat.ne_of_lt (Nat.lt_of_lt_of_le (Heap.lt_size q) hp))];exact n
 there:=λb u q _=>⟨u,k b u q⟩
 tups:=λb xs q=>by rw [a4 (b7 q hn)];exact q
 frzs:=λb u xs q=>by rw [a4 (b7 q hn)];exact q
 tbls:=λb ps q=>⟨#[],by rw [a4 (b7 q hn),q];simp⟩
theorem Un.write (mu:Mut (H x)) (he:e=x\/H e=some (.own x)) (k:∀ b u,b≠e->h.get? b=some u->h'.get? b=some u) (heo:∃ u,h'.get? e=some u):Un fs ex H (upd H x o) h h':=by
 have hx:∀ b,H b=none->b≠x:=λb n z=>by subst z;rw [n] at mu;exact mu
 have hb:∀ b,H b=none->b≠e:=λb n z=>by
  subst z
  rcases he with r | r
  ·exact hx b n r
  ·rw [n] at r;cases r
 have hm:∀ b u,H b=some u->¬ Mut (some u)->b≠x:=λb u q nm z=>by subst z;rw [q] at mu;exact nm mu
 refine ⟨λb u q n _ _=>k b u (hb b n) q,λb u q n _ _=>⟨u.slots,k b u (hb b n) q⟩,λb u q n _=>by rw [a4 (hx b n)];exact n,λb u q _=>?_,
  λb xs q=>by rw [a4 (hm b _ q λz=>z)];exact q,λb u xs q=>by rw [a4 (hm b _ q λz=>z)];exact q,λb ps q=>⟨#[],by rw [a4 (hm b _ q λz=>z),q];simp⟩⟩
 by_cases hbe:b=e
 ·subst hbe;exact heo
 ·exact ⟨u,k b u hbe q⟩
end
noncomputable def trk (h:Heap) (H:Hp):List Addr:=(List.range h.objs.size).filter λa=>(H a).isSome
noncomputable def a01 (h:Heap) (H:Hp):Heap:=PySem.W.hideAll h (trk h H)
theorem a8n (h:Heap) (H:Hp):(a01 h H).objs.size=h.objs.size:=PySem.W.hideAll_size _ _
theorem b15 {h:Heap} {H:Hp} {b:Addr} {o:Obj} (e:h.get? b=some o) (n:H b=none):(a01 h H).get? b=some o:=
 PySem.W.hideAll_get _ e λhm=>by
  have q:(H b).isSome=true:=(List.mem_filter.mp hm).2
  rw [n] at q;simp at q
theorem b2v {h:Heap} {H:Hp} {b:Addr} {o:Obj} (e:(a01 h H).get? b=some o):h.get? b=some o/\H b=none:=by
 have e':h.get? b=some o:=PySem.W.of_hideAll (trk h H) e
 refine ⟨e',?_⟩
 cases q:H b with
 | none=>rfl
 | some x=>
  have hm:b∈trk h H:=List.mem_filter.mpr ⟨List.mem_range.mpr (Heap.lt_size e'),by simp [q]⟩
  have z:(a01 h H).get? b=none:=PySem.W.hideAll_none (trk h H) hm
  rw [z] at e;cases e
structure Mod (K:PySem.W.Frag) (mg:Str->Option Value) (base:Heap):Prop where
 kin:K.In base
 glob:base.Ns mainGlobals mg
 blt:∃ mb,base.Ns builtinsNs mb/\∀ x:Str,x ≠ "__name__"->mb x=bootBuiltins x
 nolimit:base.NoLimit
structure Cx where
 prog:Program
 w:World
 K:PySem.W.Frag
 mg:Str->Option Value
 base:Heap
 A:Around
 N:List Str
 s₀:Shared
 H₀:Hp
 env:Env
 outer:List Env
 stack:List Env
 ex:List Addr
 fn:Str->Bool
 calm:Bool
 pn:List (Addr×Obj)
 xe:Value->Shared->Prop
noncomputable def frs (l:List Env):List Addr:=l.filterMap (·.frame)
noncomputable abbrev Cx.fs (X:Cx):List Addr:=frs X.outer
def Vis (sc:Scope) (x:Str):Prop:=sc.names.lookup x=some .local\/sc.names.lookup x=some .cell\/sc.names.lookup x=some .free
def Loc (sc:Scope) (x:Str):Prop:=sc.names.lookup x=some .local\/sc.names.lookup x=some .cell
def c3q (env:Env) (h:Heap) (m:Str->Option Value) (x:Str) (u:Value):Prop:=
 (env.kindOf x=some .local/\m x=some u)\/((env.kindOf x=some .cell\/env.kindOf x=some .free)/\∃ c,env.cells.lookup x=some c/\h.IsCell c (some u))
structure Cx.Ok (X:Cx):Prop where
 mod:Mod X.K X.mg X.base
 kind:X.env.scope.kind=.function
 glob:X.env.globals=mainGlobals
 blt:X.env.builtins=builtinsNs
 above:X.s₀.heap.objs.size<=X.env.locals
 inj:∀ x y c,X.env.cells.lookup x=some c->X.env.cells.lookup y=some c->x=y
 has:∀ x,(X.env.kindOf x=some .cell\/X.env.kindOf x=some .free)->∃ c,X.env.cells.lookup x=some c
 cab:∀ x c,X.fn x=true->X.env.cells.lookup x=some c->X.s₀.heap.objs.size<=c
 hd:X.calm=true->X.A.handled=none
 frames:X.A.frames=some X.stack
 stk:X.stack=X.outer\/(X.stack=X.env :: X.outer/\X.env.frame=some X.env.locals)
 exf:∀ b∈X.ex,b≠X.env.locals/\∀ x c,X.env.cells.lookup x=some c->c≠b
 bs:∀ b o,X.base.get? b=some o->X.s₀.heap.get? b=some o/\X.H₀ b=none
 bsz:X.base.objs.size<=X.s₀.heap.objs.size
 noex:∀ b o,X.base.get? b=some o->b∉X.ex
 exfs:∀ b∈X.ex,b∉X.fs
 funs:X.s₀.heap.FunFrames X.base X.outer
 frf:∀ b∈X.fs,X.H₀ b=none
structure Inv (X:Cx) (pins:List (Addr×Obj)) (σ:List (Option V)) (H:Hp) (s:Shared):Prop where
 ok:X.Ok
 os:s.os=X.s₀.os
 bare:AllBare s.gens
 base:Un X.fs X.ex X.H₀ H X.s₀.heap s.heap
 loc:∃ m,s.heap.Ns X.env.locals m/\∀ (i:Nat) (x:Str) (v:V),X.N[i]?=some x->σ[i]?=some (some v)->Vis X.env.scope x->∃ u,RelV v u/\c3q X.env s.heap m x u
 cell:∀ x c,X.env.cells.lookup x=some c->∃ v,s.heap.IsCell c v
 free:H X.env.locals=none
 freeC:∀ x c,X.env.cells.lookup x=some c->H c=none
 pin:∀ p∈X.pn++pins,s.heap.get? p.1=some p.2/\H p.1=none/\p.1≠X.env.locals/\p.1∉X.fs/\∀ v,p.2.data≠.cell v
 hok:HOk X.prog X.w H s.heap
 len:σ.length=X.N.length
section
variable {X:Cx} {pins:List (Addr×Obj)} {σ:List (Option V)} {H H':Hp} {s:Shared} {h':Heap}
theorem Cx.Ok.nofr (ok:X.Ok) {b:Addr} {o:Obj} (e:X.base.get? b=some o):b∉X.fs:=λhb=>by
 have:=(ok.funs.mem hb).1
 rw [e] at this;cases this
theorem Inv.bs (I:Inv X pins σ H s):∀ b o,X.base.get? b=some o->s.heap.get? b=some o/\H b=none:=λb o e=>
 ⟨I.base.keep b o (I.ok.bs b o e).1 (I.ok.bs b o e).2 (I.ok.nofr e) (I.ok.noex b o e),I.base.free b o (I.ok.bs b o e).1 (I.ok.bs b o e).2 (I.ok.noex b o e)⟩
theorem Inv.bk (I:Inv X pins σ H s):∀ b o,X.base.get? b=some o->s.heap.get? b=some o:=λb o e=>(I.bs b o e).1
theorem Inv.mod (I:Inv X pins σ H s):Mod X.K X.mg X.base:=I.ok.mod
theorem Inv.kIn (I:Inv X pins σ H s):X.K.In s.heap:=I.ok.mod.kin.keeps I.bk
theorem Inv.lt (I:Inv X pins σ H s):X.env.locals<s.heap.objs.size:=let ⟨_,hn,_⟩:=I.loc;hn.lt
theorem Inv.sz (I:Inv X pins σ H s):X.s₀.heap.objs.size<=s.heap.objs.size:=Nat.le_trans I.ok.above (Nat.le_of_lt I.lt)
theorem Inv.nofs (I:Inv X pins σ H s) {a:Addr} (h:s.heap.objs.size<=a):a∉X.fs:=λhb=>by
 obtain ⟨_,o,ho,_⟩:=I.ok.funs.mem hb
 exact absurd (Nat.lt_of_lt_of_le (Heap.lt_size ho) (Nat.le_trans I.sz h)) (Nat.lt_irrefl _)
theorem Inv.cne (I:Inv X pins σ H s):∀ x c,X.env.cells.lookup x=some c->c≠X.env.locals:=λx c e z=>by
 obtain ⟨v,o,ho,hd⟩:=I.cell x c e
 obtain ⟨m,⟨o',es,ep,ho',hd',_⟩,_⟩:=I.loc
 rw [z,ho'] at ho;cases ho;rw [hd'] at hd;cases hd
theorem Inv.funs (I:Inv X pins σ H s):s.heap.FunFrames X.base X.outer:=by
 have all:∀ (l:List Env),(∀ b∈frs l,b∈X.fs)->X.s₀.heap.FunFrames X.base l->s.heap.FunFrames X.base l:=by
  intro l
  induction l with
  | nil=>intro _ _;trivial
  | cons env r ih=>
   intro hs hl
   obtain ⟨hk,⟨L,o,hf,hn,ho,hd⟩,hr⟩:=hl
   have hL:L∈X.fs:=hs L (by unfold frs;rw [List.filterMap_cons,hf];exact List.mem_cons_self)
   obtain ⟨sl,e⟩:=I.base.slot L o ho (I.ok.frf L hL) hL λz=>I.ok.exfs L z hL
   exact ⟨hk,⟨L,_,hf,hn,e,hd⟩,ih (λb hb=>hs b (by unfold frs;rw [List.filterMap_cons,hf];exact List.mem_cons_of_mem _ hb)) hr⟩
 exact all X.outer (λ_ hb=>hb) I.ok.funs
theorem Inv.stack (I:Inv X pins σ H s):s.heap.FunFrames X.base X.stack:=by
 rcases I.ok.stk with e | ⟨e,hf⟩
 ·rw [e];exact I.funs
 ·rw [e]
  obtain ⟨m,hn,_⟩:=I.loc
  refine .cons (by rw [I.ok.kind];decide) hf hn ?_ I.funs
  exact Heap.get?_none_of_le (Nat.le_trans I.ok.bsz I.ok.above)
theorem Inv.stkSub (I:Inv X pins σ H s):∀ b∈frs X.stack,b∈X.env.locals :: X.fs:=λb hb=>by
 rcases I.ok.stk with e | ⟨e,hf⟩
 ·rw [e] at hb;exact List.mem_cons_of_mem _ hb
 ·rw [e] at hb
  unfold frs at hb
  rw [List.filterMap_cons,hf] at hb
  exact hb
theorem Inv.stkFree (I:Inv X pins σ H s):∀ b∈frs X.stack,H b=none:=λb hb=>by
 rcases List.mem_cons.mp (I.stkSub b hb) with e | hb
 ·rw [e];exact I.free
 ·obtain ⟨_,o,ho,_⟩:=I.ok.funs.mem hb
  exact I.base.free b o ho (I.ok.frf b hb) λz=>I.ok.exfs b z hb
theorem Inv.step {g':Array GenState} {t':Nat} {d':Drawn} {ch:List Addr} (I:Inv X pins σ H s)
  (hch:∀ b∈ch,(b∈X.ex\/X.s₀.heap.objs.size<=b)/\b≠X.env.locals/\(∀ x c,X.env.cells.lookup x=some c->c≠b)/\∀ p∈X.pn++pins,p.1≠b)
  (keep:∀ b o,b≠X.env.locals->b∉X.fs->b∉ch->s.heap.get? b=some o->H b=none->h'.get? b=some o)
  (slot:∀ b o,b≠X.env.locals->b∈X.fs->b∉ch->s.heap.get? b=some o->H b=none->∃ sl,h'.get? b=some { o with slots:=sl }) (free:∀ b o,b∉ch->s.heap.get? b=some o->H b=none->H' b=none)
  (there:∀ b o,b∉ch->s.heap.get? b=some o->∃ o',h'.get? b=some o')
  (tups:∀ b xs,H b=some (.tup xs)->H' b=some (.tup xs)) (frzs:∀ b o u,H b=some (.frz o u)->H' b=some (.frz o u)) (tbls:∀ b ps,H b=some (.tbl ps)->∃ more,H' b=some (.tbl (ps++more)))
  (ns:∀ m,s.heap.Ns X.env.locals m->h'.Ns X.env.locals m) (hok:HOk X.prog X.w H' h') (hg:AllBare g') :
  Inv X pins σ H' { s with heap:=h',gens:=g',drawn:=d',toks:=t' }:=by
 have neL:∀ b o,X.s₀.heap.get? b=some o->b≠X.env.locals:=λb o e=>Nat.ne_of_lt (Nat.lt_of_lt_of_le (Heap.lt_size e) I.ok.above)
 have neC:∀ b o,X.s₀.heap.get? b=some o->b∉X.ex->b∉ch:=λb o e hx hb=>by
  rcases (hch b hb).1 with z | z
  ·exact hx z
  ·exact absurd (Nat.lt_of_lt_of_le (Heap.lt_size e) z) (Nat.lt_irrefl _)
 have cellK:∀ x c,X.env.cells.lookup x=some c->∀ v,s.heap.IsCell c v->h'.IsCell c v:=λx c e v ⟨o,ho,hd⟩=>by
  have nch:c∉ch:=λz=>(hch c z).2.2.1 x c e rfl
  by_cases hc:c∈X.fs
  ·obtain ⟨sl,q⟩:=slot c o (I.cne x c e) hc nch ho (I.freeC x c e)
   exact ⟨_,q,hd⟩
  ·exact ⟨o,keep c o (I.cne x c e) hc nch ho (I.freeC x c e),hd⟩
 refine ⟨I.ok,I.os,hg,⟨λb o e n hb hx=>?_,λb o e n hb hx=>?_,λb o e n hx=>?_,λb o e hx=>?_,λb xs e=>tups b xs (I.base.tups b xs e),λb o xs e=>frzs b o xs (I.base.frzs b o xs e),λb ps e=>?_⟩,?_,λx c e=>?_,?_,λx c e=>?_,λp hp=>?_,hok,I.len⟩
 ·exact keep b o (neL b o e) hb (neC b o e hx) (I.base.keep b o e n hb hx) (I.base.free b o e n hx)
 ·obtain ⟨sl,e1⟩:=I.base.slot b o e n hb hx
  obtain ⟨sl',e2⟩:=slot b _ (neL b o e) hb (neC b o e hx) e1 (I.base.free b o e n hx)
  exact ⟨sl',e2⟩
 ·obtain ⟨o',e1⟩:=I.base.there b o e hx
  exact free b o' (neC b o e hx) e1 (I.base.free b o e n hx)
 ·obtain ⟨o',e1⟩:=I.base.there b o e hx
  exact there b o' (neC b o e hx) e1
 ·obtain ⟨m1,e1⟩:=I.base.tbls b ps e
  obtain ⟨m2,e2⟩:=tbls b _ e1
  exact ⟨m1++m2,by rw [e2,Array.append_assoc]⟩
 ·obtain ⟨m,hn,hl⟩:=I.loc
  refine ⟨m,ns m hn,λi x v e1 e2 e3=>?_⟩
  obtain ⟨u,r,l⟩:=hl i x v e1 e2 e3
  refine ⟨u,r,?_⟩
  rcases l with l | ⟨k,c,e,z⟩
  ·exact .inl l
  ·exact .inr ⟨k,c,e,cellK x c e _ z⟩
 ·obtain ⟨v,z⟩:=I.cell x c e
  exact ⟨v,cellK x c e v z⟩
 ·obtain ⟨m,⟨o,_,_,ho,_⟩,_⟩:=I.loc
  exact free _ o (λz=>(hch _ z).2.1 rfl) ho I.free
 ·obtain ⟨v,o,ho,hd⟩:=I.cell x c e
  exact free c o (λz=>(hch c z).2.2.1 x c e rfl) ho (I.freeC x c e)
 ·obtain ⟨e,n,ne,nf,d⟩:=I.pin p hp
  have nch:p.1∉ch:=λz=>(hch p.1 z).2.2.2 p hp rfl
  exact ⟨keep p.1 p.2 ne nf nch e n,free p.1 p.2 nch e n,ne,nf,d⟩
theorem Inv.un {t':Nat} (I:Inv X pins σ H s) (u:Un X.fs [] H H' s.heap h') (hok:HOk X.prog X.w H' h'):Inv X pins σ H' { s with heap:=h',toks:=t' }:=by
 obtain ⟨m,⟨o,es,ep,ho,r⟩,_⟩:=id I.loc
 obtain ⟨sl,hL⟩:=u.any ho I.free (by simp)
 exact I.step (g':=s.gens) (d':=s.drawn) (ch:=[]) (λ_ z=>nomatch z) (λb o _ hb _ e n=>u.keep b o e n hb (by simp)) (λb o _ hb _ e n=>u.slot b o e n hb (by simp)) (λb o _ e n=>u.free b o e n (by simp)) (λb o _ e=>u.there b o e (by simp)) u.tups u.frzs u.tbls (λm' hm=>by
  obtain ⟨o',es',ep',ho',r'⟩:=hm
  rw [ho] at ho';cases ho'
  exact ⟨_,es',ep',hL,r'⟩) hok I.bare
theorem Inv.call {g':Array GenState} {t':Nat} {d':Drawn} {ch:List Addr} (I:Inv X pins σ H s) (u:Un (frs X.stack) ch H H' s.heap h') (hok:HOk X.prog X.w H' h') (hg:AllBare g')
  (hch:∀ b∈ch,(b∈X.ex\/X.s₀.heap.objs.size<=b)/\b≠X.env.locals/\(∀ x c,X.env.cells.lookup x=some c->c≠b)/\∀ p∈X.pn++pins,p.1≠b) :
  Inv X pins σ H' { s with heap:=h',gens:=g',drawn:=d',toks:=t' }:=by
 obtain ⟨m,⟨o,es,ep,ho,r⟩,_⟩:=id I.loc
 obtain ⟨sl,hL⟩:=u.any ho I.free λz=>(hch _ z).2.1 rfl
 exact I.step (ch:=ch) hch (λb o hL hb hc e n=>u.keep b o e n (λz=>(List.mem_cons.mp (I.stkSub b z)).elim hL hb) hc) (λb o _ _ hc e n=>u.any e n hc) (λb o hc e n=>u.free b o e n hc) (λb o hc e=>u.there b o e hc) u.tups u.frzs u.tbls (λm' hm=>by
  obtain ⟨o',es',ep',ho',r'⟩:=hm
  rw [ho] at ho';cases ho'
  exact ⟨_,es',ep',hL,r'⟩) hok hg
theorem Inv.turned {t':Nat} {it:Addr} (I:Inv X pins σ H s) (k:∀ b o,b≠it->s.heap.get? b=some o->h'.get? b=some o) (hn:H it=none) (hL:it≠X.env.locals)
  (h1:it∈X.ex\/X.s₀.heap.objs.size<=it) (h2:∀ x c,X.env.cells.lookup x=some c->c≠it) (h3:∀ p∈X.pn++pins,p.1≠it):Inv X pins σ H { s with heap:=h',toks:=t' }:=by
 have nit:∀ b u,H b=some u->b≠it:=λb u e z=>by rw [z,hn] at e;cases e
 refine I.step (g':=s.gens) (d':=s.drawn) (ch:=[it]) (λb hb=>?_) (λb o _ _ hc e _=>k b o (λz=>hc (by simp [z])) e) (λb o _ _ hc e _=>⟨o.slots,k b o (λz=>hc (by simp [z])) e⟩) (λ_ _ _ _ n=>n)
  (λb o hc e=>⟨o,k b o (λz=>hc (by simp [z])) e⟩) (λ_ _ e=>e) (λ_ _ _ e=>e) (λb ps e=>⟨#[],by rw [e];simp⟩) (λm hm=>?_) (λb u e=>?_) I.bare
 ·have e:b=it:=by simpa using hb
  subst e
  exact ⟨h1,hL,h2,h3⟩
 ·obtain ⟨o,es,ep,ho,r⟩:=hm
  exact ⟨o,es,ep,k _ o (Ne.symm hL) ho,r⟩
 ·refine (I.hok b u e).stay (λc v hc q=>k c v ?_ q) (λ_ q=>q) λ_ _ q=>q
  rcases hc with z | z
  ·rw [z];exact nit b u e
  ·exact nit c _ z
theorem Inv.tok (I:Inv X pins σ H s) (t:Nat):Inv X pins σ H { s with toks:=t }:=I.un (h':=s.heap) (t':=t) Un.refl I.hok
theorem Inv.kept {t':Nat} (I:Inv X pins σ H s) (k:∀ b u,s.heap.get? b=some u->h'.get? b=some u):Inv X pins σ H { s with heap:=h',toks:=t' }:=I.un (Un.kept k) (I.hok.kept k)
theorem Inv.laid {a:Addr} {o:HO} {t':Nat} (I:Inv X pins σ H s) (k:∀ b u,s.heap.get? b=some u->h'.get? b=some u) (hp:s.heap.objs.size<=a) (new:ObjOk X.prog X.w (upd H a o) h' a o) :
  Inv X pins σ (upd H a o) { s with heap:=h',toks:=t' }:=I.un (Un.laid k hp (I.hok.fresh hp)) (I.hok.laid k hp new)
theorem Inv.write {x e:Addr} {o:HO} {t':Nat} (I:Inv X pins σ H s) (mu:Mut (H x)) (he:e=x\/H e=some (.own x)) (k:∀ b u,b≠e->s.heap.get? b=some u->h'.get? b=some u) (heo:∃ u,h'.get? e=some u)
  (new:ObjOk X.prog X.w (upd H x o) h' x o):Inv X pins σ (upd H x o) { s with heap:=h',toks:=t' }:=I.un (Un.write mu he k heo) (I.hok.write mu he k heo new)
theorem Inv.weak {σ':List (Option V)} (I:Inv X pins σ H s) (hl:σ'.length=σ.length) (w:∀ (i:Nat) v,σ'[i]?=some (some v)->σ[i]?=some (some v)):Inv X pins σ' H s:=
 ⟨I.ok,I.os,I.bare,I.base,let ⟨m,hn,hl'⟩:=I.loc;⟨m,hn,λi x v e1 e2 e3=>hl' i x v e1 (w i v e2) e3⟩,I.cell,I.free,I.freeC,I.pin,I.hok,hl.trans I.len⟩
theorem Inv.pins_of {pins':List (Addr×Obj)} (I:Inv X pins σ H s) (h:∀ p∈pins',s.heap.get? p.1=some p.2/\H p.1=none/\p.1≠X.env.locals/\p.1∉X.fs/\∀ v,p.2.data≠.cell v):Inv X pins' σ H s:=
 ⟨I.ok,I.os,I.bare,I.base,I.loc,I.cell,I.free,I.freeC,λp hp=>(List.mem_append.mp hp).elim (λz=>I.pin p (List.mem_append_left _ z)) (h p),I.hok,I.len⟩
theorem a2s {N:List Str} (hN:N.Nodup) {i j:Nat} {x:Str} (a:N[i]?=some x) (b:N[j]?=some x):i=j:=by
 obtain ⟨h1,e1⟩:=List.getElem?_eq_some_iff.mp a
 obtain ⟨h2,e2⟩:=List.getElem?_eq_some_iff.mp b
 exact (List.getElem_inj hN).mp (e1.trans e2.symm)
theorem a7m {M:Model} {A:Around} {E:Value->Shared->Prop} {i:Nat} {x:Str} {v:V} {u:Value} {Q:Unit->Shared->Prop} (I:Inv X pins σ H s) (hN:X.N.Nodup) (hi:X.N[i]?=some x) (hx:Loc X.env.scope x) (r:RelV v u)
  (h:∀ s',Inv X pins (σ.set i (some v)) H s'->(∃ a,Heap.SameBut a s.heap s'.heap/\(a=X.env.locals\/X.env.cells.lookup x=some a))->Q () s') (hf:X.fn x=true\/X.env.scope.names.lookup x=some .local:=by first | exact .inl rfl | exact .inr rfl | assumption):wpAny M A (storeName X.env x u) Q E s:=by
 obtain ⟨m,hn,hl⟩:=id I.loc
 have hcls:(X.env.scope.kind==.class||(X.env.scope.kind==.module&&X.env.locals != X.env.globals))=false:=by rw [I.ok.kind];rfl
 have hiσ:i<σ.length:=by rw [I.len];exact (List.getElem?_eq_some_iff.mp hi).1
 have cne:=I.cne
 have tracked:∀ {a:Addr} {h':Heap},(∃ o,s.heap.get? a=some o/\H a=none)->Heap.SameBut a s.heap h'->HOk X.prog X.w H h':=λ{a h'} ha hs b ob e=>by
  obtain ⟨_,_,hfree⟩:=ha
  refine (I.hok b ob e).stay (λc w' hc q=>(hs.2 c ?_).trans q) (λ_ q=>q) λ_ _ q=>q
  rintro rfl
  rcases hc with rfl | hc
  ·rw [hfree] at e;cases e
  ·rw [hfree] at hc;cases hc
 rcases hx with hk | hk
 ·refine wpAny_storeName_local hk hn (λh' hn' hs=>?_) hcls
  obtain ⟨oL,_,_,hoL,_⟩:=id hn
  refine h _ ⟨I.ok,I.os,I.bare,⟨λb o e n hb hx=>?_,λb o e n hb hx=>?_,I.base.free,λb o e hx=>?_,I.base.tups,I.base.frzs,I.base.tbls⟩,⟨_,hn',λj y v' e1 e2 e3=>?_⟩,λy c e=>?_,I.free,I.freeC,λp hp=>?_,tracked ⟨oL,hoL,I.free⟩ hs,by simpa using I.len⟩ ⟨_,hs,.inl rfl⟩
  ·exact (hs.2 b (Nat.ne_of_lt (Nat.lt_of_lt_of_le (Heap.lt_size e) I.ok.above))).trans (I.base.keep b o e n hb hx)
  ·obtain ⟨sl,e1⟩:=I.base.slot b o e n hb hx
   exact ⟨sl,(hs.2 b (Nat.ne_of_lt (Nat.lt_of_lt_of_le (Heap.lt_size e) I.ok.above))).trans e1⟩
  ·obtain ⟨o',e1⟩:=I.base.there b o e hx
   exact ⟨o',(hs.2 b (Nat.ne_of_lt (Nat.lt_of_lt_of_le (Heap.lt_size e) I.ok.above))).trans e1⟩
  ·by_cases hj:j=i
   ·subst hj
    rw [hi] at e1;cases e1
    rw [List.getElem?_set_self hiσ] at e2
    cases e2
    exact ⟨u,r,.inl ⟨hk,by simp⟩⟩
   ·rw [List.getElem?_set_ne (Ne.symm hj)] at e2
    obtain ⟨u',r',q⟩:=hl j y v' e1 e2 e3
    refine ⟨u',r',?_⟩
    rcases q with ⟨k,e⟩ | ⟨k,c,e,z⟩
    ·refine .inl ⟨k,?_⟩
     have:y≠x:=λe=>hj (a2s hN e1 (e▸hi))
     simp [this,e]
    ·exact .inr ⟨k,c,e,z.sameBut hs (cne y c e)⟩
  ·obtain ⟨w',z⟩:=I.cell y c e
   exact ⟨w',z.sameBut hs (cne y c e)⟩
  ·obtain ⟨e,n,ne,nf,d⟩:=I.pin p hp
   exact ⟨(hs.2 p.1 ne).trans e,n,ne,nf,d⟩
 ·have hfn:X.fn x=true:=by
   rcases hf with z | z
   ·exact z
   ·rw [z] at hk;cases hk
  obtain ⟨c,hc⟩:=I.ok.has x (.inl hk)
  obtain ⟨w',z⟩:=I.cell x c hc
  refine wpAny_storeName_cell I.ok.kind hk hc z (λh' hc' hs=>?_)
  obtain ⟨oc,hoc,hocd⟩:=id z
  refine h { s with heap:=h' } ⟨I.ok,I.os,I.bare,⟨λb o e n hb hx=>?_,λb o e n hb hx=>?_,I.base.free,λb o e hx=>?_,I.base.tups,I.base.frzs,I.base.tbls⟩,⟨m,hn.sameBut hs (Ne.symm (cne x c hc)),λj y v' e1 e2 e3=>?_⟩,λy c' e=>?_,I.free,I.freeC,λp hp=>?_,tracked ⟨oc,hoc,I.freeC x c hc⟩ hs,by simpa using I.len⟩ ⟨c,hs,.inr hc⟩
  ·exact (hs.2 b (Nat.ne_of_lt (Nat.lt_of_lt_of_le (Heap.lt_size e) (I.ok.cab x c hfn hc)))).trans (I.base.keep b o e n hb hx)
  ·obtain ⟨sl,e1⟩:=I.base.slot b o e n hb hx
   exact ⟨sl,(hs.2 b (Nat.ne_of_lt (Nat.lt_of_lt_of_le (Heap.lt_size e) (I.ok.cab x c hfn hc)))).trans e1⟩
  ·obtain ⟨o',e1⟩:=I.base.there b o e hx
   exact ⟨o',(hs.2 b (Nat.ne_of_lt (Nat.lt_of_lt_of_le (Heap.lt_size e) (I.ok.cab x c hfn hc)))).trans e1⟩
  ·by_cases hj:j=i
   ·subst hj
    rw [hi] at e1;cases e1
    rw [List.getElem?_set_self hiσ] at e2
    cases e2
    exact ⟨u,r,.inr ⟨.inl hk,c,hc,hc'⟩⟩
   ·rw [List.getElem?_set_ne (Ne.symm hj)] at e2
    obtain ⟨u',r',q⟩:=hl j y v' e1 e2 e3
    refine ⟨u',r',?_⟩
    rcases q with q | ⟨k,c',e,z'⟩
    ·exact .inl q
    ·refine .inr ⟨k,c',e,z'.sameBut hs ?_⟩
     rintro rfl
     exact hj (a2s hN e1 (I.ok.inj _ _ _ e hc▸hi))
  ·by_cases hcc:c'=c
   ·subst hcc;exact ⟨_,hc'⟩
   ·obtain ⟨w2,z2⟩:=I.cell y c' e
    exact ⟨w2,z2.sameBut hs hcc⟩
  ·obtain ⟨e,n,ne,nf,d⟩:=I.pin p hp
   refine ⟨(hs.2 p.1 ?_).trans e,n,ne,nf,d⟩
   intro q
   rw [q,hoc] at e
   have q':oc=p.2:=Option.some.inj e
   exact d w' (by rw [<- q'];exact hocd)
theorem a3p {M:Model} {A:Around} {E:Value->Shared->Prop} {i:Nat} {x:Str} {v:V} {u:Value} {Q:Unit->Shared->Prop} (I:Inv X pins σ H s) (hN:X.N.Nodup) (hi:X.N[i]?=some x) (hx:Loc X.env.scope x) (r:RelV v u)
  (h:∀ s',Inv X pins (σ.set i (some v)) H s'->Q () s') (hf:X.fn x=true\/X.env.scope.names.lookup x=some .local:=by first | exact .inl rfl | exact .inr rfl | assumption):wpAny M A (storeName X.env x u) Q E s:=
 a7m I hN hi hx r (λs' I' _=>h s' I') hf
theorem Inv.call' {s':Shared} {ch:List Addr} (I:Inv X pins σ H s) (ho:s'.os=s.os) (u:Un (frs X.stack) ch H H' s.heap s'.heap) (hok:HOk X.prog X.w H' s'.heap) (hg:AllBare s'.gens)
  (hch:∀ b∈ch,(b∈X.ex\/X.s₀.heap.objs.size<=b)/\b≠X.env.locals/\(∀ x c,X.env.cells.lookup x=some c->c≠b)/\∀ p∈X.pn++pins,p.1≠b):Inv X pins σ H' s':=by
 obtain ⟨h',g',d',t',o'⟩:=s'
 have e:o'=s.os:=ho
 subst e
 exact I.call (g':=g') (t':=t') (d':=d') u hok hg hch
end
noncomputable abbrev XK:=Value->Option Addr->Hp->Prop
noncomputable abbrev St:=List (Option V)
noncomputable abbrev VK:=V->Hp->Prop
noncomputable abbrev TE:=St->Hp->VK->Prop
noncomputable abbrev TT:=St->Hp->(Bool->Hp->Prop)->Prop
noncomputable abbrev TA:=St->Hp->(List V->Hp->Prop)->Prop
structure Ends where
 nx:St->Hp->Prop
 rt:VK
 bk:St->Hp->Prop:=λ_ _=>False
 ct:St->Hp->Prop:=λ_ _=>False
noncomputable abbrev TS:=Ends->St->Hp->Prop
def EP (X:Cx) (pins:List (Addr×Obj)) (σ:St) (Q:VK) (u:Value) (s':Shared):Prop:=∃ v H',Inv X pins σ H' s'/\RelV v u/\Q v H'
def TP (X:Cx) (pins:List (Addr×Obj)) (σ:St) (Q:Bool->Hp->Prop) (b:Bool) (s':Shared):Prop:=∃ H',Inv X pins σ H' s'/\Q b H'
def AP (X:Cx) (pins:List (Addr×Obj)) (σ:St) (Q:List V->Hp->Prop) (us:List Value) (s':Shared):Prop:=∃ vs H',Inv X pins σ H' s'/\Vals vs us/\Q vs H'
def SP (X:Cx) (pins:List (Addr×Obj)) (D:Ends) (f:Flow) (s':Shared):Prop:=
 match f with
 | .next=>∃ σ' H',Inv X pins σ' H' s'/\D.nx σ' H'
 | .brk=>∃ σ' H',Inv X pins σ' H' s'/\D.bk σ' H'
 | .cont=>∃ σ' H',Inv X pins σ' H' s'/\D.ct σ' H'
 | .ret u=>∃ v σ' H',Inv X pins σ' H' s'/\RelV v u/\D.rt v H'
def PE (X:Cx) (e:Expr) (t:TE):Prop:=
 ∀ (pins:List (Addr×Obj)) (s:Shared) (σ:St) (H:Hp) (Q:VK),Inv X pins σ H s->t σ H Q->wpAny (model X.prog X.w) X.A (eval e X.env) (EP X pins σ Q) X.xe s
def PT (X:Cx) (e:Expr) (t:TT):Prop:=
 ∀ (pins:List (Addr×Obj)) (s:Shared) (σ:St) (H:Hp) (Q:Bool->Hp->Prop),Inv X pins σ H s->t σ H Q->wpAny (model X.prog X.w) X.A (isTrue e X.env (eval e X.env)) (TP X pins σ Q) X.xe s
def PW (X:Cx) (e:Expr) (t:TT):Prop:=
 ∀ (whole:Sem Value) (pins:List (Addr×Obj)) (s:Shared) (σ:St) (H:Hp) (Q:Bool->Hp->Prop),Inv X pins σ H s->t σ H Q->wpAny (model X.prog X.w) X.A (isTrue e X.env whole) (TP X pins σ Q) X.xe s
theorem PW.pt {X:Cx} {e:Expr} {t:TT} (h:PW X e t):PT X e t:=h _
def PA (X:Cx) (es:List Expr) (t:TA):Prop:=
 ∀ (pos:Pos) (pins:List (Addr×Obj)) (s:Shared) (σ:St) (H:Hp) (Q:List V->Hp->Prop),Inv X pins σ H s->t σ H Q->wpAny (model X.prog X.w) X.A (spliced (backTo pos (starEach es X.env))) (AP X pins σ Q) X.xe s
def PS (X:Cx) (st:Stmt) (t:TS):Prop:=
 ∀ (pins:List (Addr×Obj)) (s:Shared) (σ:St) (H:Hp) (D:Ends),Inv X pins σ H s->t D σ H->wpAny (model X.prog X.w) X.A (exec st X.env) (SP X pins D) X.xe s
def PSs (X:Cx) (st:List Stmt) (t:TS):Prop:=
 ∀ (pins:List (Addr×Obj)) (s:Shared) (σ:St) (H:Hp) (D:Ends),Inv X pins σ H s->t D σ H->wpAny (model X.prog X.w) X.A (execs st X.env) (SP X pins D) X.xe s
theorem thn {α:Type} {t:Sem α} {Q Q':α->Shared->Prop} {M:Model} {A:Around} {E:Value->Shared->Prop} {s:Shared} (h:wpAny M A t Q E s) (hQ:∀ a s,Q a s->Q' a s):wpAny M A t Q' E s:=wpAny_mono h hQ λ_ _ x=>x
section
variable {X:Cx}
def c0q (i:Nat):TE:=λσ H Q=>∃ v,σ[i]?=some (some v)/\Q v H
def tC (v:V):TE:=λ_ H Q=>Q v H
theorem b88 {i:Nat} {x:Str} {pos:Pos} (hN:X.N[i]?=some x) (hv:Vis X.env.scope x) (hd:(x==("__debug__" : Str))=false:=by decide) (hcd:(x==("__classdict__" : Str))=false:=by decide):PE X (.Name x pos) (c0q i):=by
 intro pins s σ H Q I h
 obtain ⟨v,e,h⟩:=h
 obtain ⟨m,hn,hl⟩:=I.loc
 obtain ⟨u,r,l⟩:=hl i x v hN e hv
 have fin:EP X pins σ Q u s:=⟨v,H,I,r,h⟩
 rcases l with ⟨hk,hm⟩ | ⟨hk,c,hc,hcell⟩
 ·exact wpAny_Name (wpAny_loadName_local I.ok.kind hk hn hm fin) hd
 ·rcases hk with hk | hk
  ·exact wpAny_Name (wpAny_loadName_cell I.ok.kind hk hc hcell fin) hd
  ·exact wpAny_Name (wpAny_loadName_free I.ok.kind hk hc hcell fin hcd) hd
theorem b9g {i j pos}:PE X (.Constant (.int i) j pos) (tC (.int i)):=λ_ _ _ H _ I h=>wpAny_Constant_int ⟨.int i,H,I.tok _,⟨_,rfl⟩,h⟩
theorem c00 {b j pos}:PE X (.Constant (.bool b) j pos) (tC (.bl b)):=λ_ _ _ H _ I h=>Constant_bool ⟨.bl b,H,I,rfl,h⟩
theorem b9k {j pos}:PE X (.Constant .none j pos) (tC .non):=λ_ _ _ H _ I h=>Constant_none ⟨.non,H,I,rfl,h⟩
theorem b8c {x j pos}:PE X (.Constant (.str x) j pos) (tC (.str x)):=λ_ _ _ H _ I h=>Calls.Constant_str ⟨.str x,H,I.tok _,⟨_,rfl⟩,h⟩
def Gl (X:Cx) (x:Str):Prop:=X.env.kindOf x=some .globalImplicit
theorem a1x {E:Value->Shared->Prop} {pins:List (Addr×Obj)} {s:Shared} {σ:St} {H:Hp} {x:Str} {u:Value} {pos:Pos} {Q:Value->Shared->Prop} (I:Inv X pins σ H s) (hg:Gl X x) (hm:X.mg x=some u) (h:Q u s)
  (hd:(x==("__debug__" : Str))=false:=by decide):wpAny (model X.prog X.w) X.A (eval (.Name x pos) X.env) Q E s:=
 Calls.Name_function_global I.ok.kind hg (Calls.loadGlobal_global (by rw [I.ok.glob];exact I.mod.glob.keeps I.bk) hm h) hd
theorem y4 {E:Value->Shared->Prop} {pins:List (Addr×Obj)} {s:Shared} {σ:St} {H:Hp} {x:Str} {u:Value} {pos:Pos} {Q:Value->Shared->Prop} (I:Inv X pins σ H s) (hg:Gl X x) (hm:X.mg x=none) (hv:bootBuiltins x=some u) (h:Q u s)
  (hn:x ≠ "__name__":=by decide) (hd:(x==("__debug__" : Str))=false:=by decide):wpAny (model X.prog X.w) X.A (eval (.Name x pos) X.env) Q E s:=by
 obtain ⟨mb,h1,h2⟩:=I.mod.blt
 exact Calls.Name_function_global I.ok.kind hg (Calls.loadGlobal_builtin (by rw [I.ok.glob];exact I.mod.glob.keeps I.bk) hm (by rw [I.ok.blt];exact h1.keeps I.bk) ((h2 x hn).trans hv) h) hd
theorem b24 {x:Str} {v:V} {u:Value} {pos:Pos} (hg:Gl X x) (hm:X.mg x=some u) (r:RelV v u) (hd:(x==("__debug__" : Str))=false:=by decide):PE X (.Name x pos) (tC v):=
 λ_ _ _ H _ I h=>a1x I hg hm ⟨v,H,I,r,h⟩ hd
theorem b4w {x:Str} {v:V} {u:Value} {pos:Pos} (hg:Gl X x) (hm:X.mg x=none) (hv:bootBuiltins x=some u) (r:RelV v u) (hn:x ≠ "__name__":=by decide) (hd:(x==("__debug__" : Str))=false:=by decide):PE X (.Name x pos) (tC v):=
 λ_ _ _ H _ I h=>y4 I hg hm hv ⟨v,H,I,r,h⟩ hn hd
variable {a b:Expr} {ta tb:TE} {pos:Pos}
variable {tA tB':TT} {rest:List Expr}
def c3l (t u:TT):TT:=λσ H Q=>t σ H λc H1=>if c=true then u σ H1 Q else Q false H1
def tOr (t u:TT):TT:=λσ H Q=>t σ H λc H1=>if c=true then Q true H1 else u σ H1 Q
def b8v (t:TT):TT:=λσ H Q=>t σ H λc H1=>Q (!c) H1
theorem pw_and1 (ha:PT X a tA):PW X (.BoolOp .And [a] pos) tA:=by
 intro wh pins s σ H Q I h
 refine isTrue_and (thn (ha pins s σ H Q I h) λc s1 e=>?_)
 cases c with
 | true=>exact isTrue_and_nil e
 | false=>exact e
theorem pw_or1 (ha:PT X a tA):PW X (.BoolOp .Or [a] pos) tA:=by
 intro wh pins s σ H Q I h
 refine isTrue_or (thn (ha pins s σ H Q I h) λc s1 e=>?_)
 cases c with
 | false=>exact isTrue_or_nil e
 | true=>exact e
theorem pw_and (ha:PT X a tA) (hb:PW X (.BoolOp .And (b :: rest) pos) tB'):PW X (.BoolOp .And (a :: b :: rest) pos) (c3l tA tB'):=by
 intro wh pins s σ H Q I h
 refine isTrue_and (thn (ha pins s σ H _ I h) λc s1 ⟨H1,I1,q1⟩=>?_)
 cases c with
 | true=>exact hb wh pins s1 σ H1 Q I1 q1
 | false=>exact ⟨H1,I1,q1⟩
theorem pw_or (ha:PT X a tA) (hb:PW X (.BoolOp .Or (b :: rest) pos) tB'):PW X (.BoolOp .Or (a :: b :: rest) pos) (tOr tA tB'):=by
 intro wh pins s σ H Q I h
 refine isTrue_or (thn (ha pins s σ H _ I h) λc s1 ⟨H1,I1,q1⟩=>?_)
 cases c with
 | true=>exact ⟨H1,I1,q1⟩
 | false=>exact hb wh pins s1 σ H1 Q I1 q1
theorem b9j (ha:PT X a tA):PT X (.UnaryOp .Not a pos) (b8v tA):=by
 intro pins s σ H Q I h
 exact isTrue_not (ha pins s σ H (λc H1=>Q (!c) H1) I h)
theorem b89 {op} {t:TE} (h:PE X a t):PE X (.BoolOp op [a] pos) t:=λpins s σ H Q I hw=>BoolOp_one (h pins s σ H Q I hw)
def tIf (t:TT) (ta tb:TE):TE:=λσ H Q=>t σ H λc H1=>if c=true then ta σ H1 Q else tb σ H1 Q
theorem a9f {c:Expr} (hc:PT X c tA) (ha:PE X a ta) (hb:PE X b tb):PE X (.IfExp c a b pos) (tIf tA ta tb):=by
 intro pins s σ H Q I h
 refine wpAny_IfExp (thn (hc pins s σ H _ I h) λd s1 ⟨H1,I1,q1⟩=>?_)
 cases d with
 | true=>exact ha pins s1 σ H1 Q I1 q1
 | false=>exact hb pins s1 σ H1 Q I1 q1
end
def SqL (K:PySem.W.Frag) (H:Hp) (a:Addr) (xs:List V):Prop:=
 Rd H a (.lst xs) \/
  ∃ (o:Obj) (its:Array Value) (n:Nat),K.lookup a=some o/\o.cls=.type "list"/\o.dict=none/\o.data=.seq its n/\its.size<=sizeLine/\Vals xs its.toList
def SqT (K:PySem.W.Frag) (H:Hp) (a:Addr) (xs:List V):Prop:=
 Rd H a (.tup xs) \/
  ∃ (o:Obj) (its:Array Value) (n:Nat),K.lookup a=some o/\o.cls=.type "tuple"/\o.data=.seq its n/\its.size<=sizeLine/\Vals xs its.toList
noncomputable def c30:Value->Option V
 | .none=>some .non
 | .bool b=>some (.bl b)
 | .int i _=>some (.int i)
 | .str x _=>some (.str x)
 | .bytes b _=>some (.byt b)
 | .float b _=>some (.flt b)
 | .ref a=>some (.ref a)
 | .type n=>some (.ty n)
 | _=>none
theorem RelV.abs {x:V} {u:Value} (r:RelV x u):c30 u=some x:=by
 cases x with
 | non=>cases r;rfl
 | bl _=>cases r;rfl
 | int _=>obtain ⟨t,rfl⟩:=r;rfl
 | str _=>obtain ⟨t,rfl⟩:=r;rfl
 | byt _=>obtain ⟨t,rfl⟩:=r;rfl
 | flt _=>obtain ⟨t,rfl⟩:=r;rfl
 | ref _=>cases r;rfl
 | ty _=>cases r;rfl
theorem RelV.inj {x y:V} {u:Value} (r:RelV x u) (q:RelV y u):x=y:=Option.some.inj (r.abs.symm.trans q.abs)
theorem Vals.inj:∀ {xs ys:List V} {us:List Value},Vals xs us->Vals ys us->xs=ys
 | _,_,_,.nil,.nil=>rfl
 | _,_,_,.cons r t,.cons r' t'=>by rw [r.inj r',Vals.inj t t']
section
variable {X:Cx} {pins:List (Addr×Obj)} {σ:St} {H:Hp} {s:Shared} {a:Addr} {xs ys:List V}
theorem Inv.list (I:Inv X pins σ H s) (h:SqL X.K H a xs):∃ its:List Value,Vals xs its/\PlainL s.heap a its.toArray/\xs.length<=sizeLine:=by
 rcases h with h | ⟨o,its,n,hk,hc,hd,hs,hz,r⟩
 ·obtain ⟨z,its,n,r,e⟩:=h.ok I.hok
  exact ⟨its,r,⟨_,n,e,rfl,rfl,rfl⟩,z⟩
 ·refine ⟨its.toList,r,⟨o,n,I.kIn a o hk,hc,hd,by simpa using hs⟩,?_⟩
  have e:=r.length
  simp only [Array.length_toList] at e
  omega
theorem Inv.tuple (I:Inv X pins σ H s) (h:SqT X.K H a xs):∃ its:List Value,Vals xs its/\IsTup s.heap a its.toArray/\xs.length<=sizeLine:=by
 rcases h with h | ⟨o,its,n,hk,hc,hs,hz,r⟩
 ·obtain ⟨z,its,r,p⟩:=h.ok I.hok
  exact ⟨its,r,p.is,z⟩
 ·refine ⟨its.toList,r,⟨o,I.kIn a o hk,hc,n,by simpa using hs⟩,?_⟩
  have e:=r.length
  simp only [Array.length_toList] at e
  omega
theorem Inv.list_inj (I:Inv X pins σ H s) (h:SqL X.K H a xs) (h':SqL X.K H a ys):xs=ys:=by
 obtain ⟨its,r,⟨o,n,e,_,_,d⟩,_⟩:=I.list h
 obtain ⟨its',r',⟨o',n',e',_,_,d'⟩,_⟩:=I.list h'
 rw [e] at e';cases e'
 rw [d] at d'
 injection d' with d1 _
 have:its=its':=by simpa using congrArg Array.toList d1
 subst this
 exact r.inj r'
theorem Inv.tuple_inj (I:Inv X pins σ H s) (h:SqT X.K H a xs) (h':SqT X.K H a ys):xs=ys:=by
 obtain ⟨its,r,⟨o,e,_,n,d⟩,_⟩:=I.tuple h
 obtain ⟨its',r',⟨o',e',_,n',d'⟩,_⟩:=I.tuple h'
 rw [e] at e';cases e'
 rw [d] at d'
 injection d' with d1 _
 have:its=its':=by simpa using congrArg Array.toList d1
 subst this
 exact r.inj r'
end
noncomputable abbrev Cx.wish (X:Cx) (E:Value->Shared->Prop):Cx:={ X with xe:=E }
noncomputable abbrev Cx.nox (X:Cx):Cx:=X.wish λ_ _=>False
theorem Cx.Ok.wish {X:Cx} (ok:X.Ok) (E:Value->Shared->Prop):(X.wish E).Ok:=
 ⟨ok.mod,ok.kind,ok.glob,ok.blt,ok.above,ok.inj,ok.has,ok.cab,ok.hd,ok.frames,ok.stk,ok.exf,ok.bs,ok.bsz,ok.noex,ok.exfs,ok.funs,ok.frf⟩
theorem Cx.Ok.unwish {X:Cx} {E:Value->Shared->Prop} (ok:(X.wish E).Ok):X.Ok:=
 ⟨ok.mod,ok.kind,ok.glob,ok.blt,ok.above,ok.inj,ok.has,ok.cab,ok.hd,ok.frames,ok.stk,ok.exf,ok.bs,ok.bsz,ok.noex,ok.exfs,ok.funs,ok.frf⟩
section
variable {X:Cx} {pins:List (Addr×Obj)} {σ:St} {H:Hp} {s:Shared} {E:Value->Shared->Prop}
theorem Inv.wish (I:Inv X pins σ H s) (E:Value->Shared->Prop):Inv (X.wish E) pins σ H s:=⟨I.ok.wish E,I.os,I.bare,I.base,I.loc,I.cell,I.free,I.freeC,I.pin,I.hok,I.len⟩
theorem Inv.unwish (I:Inv (X.wish E) pins σ H s):Inv X pins σ H s:=⟨I.ok.unwish,I.os,I.bare,I.base,I.loc,I.cell,I.free,I.freeC,I.pin,I.hok,I.len⟩
theorem SP.unwish {D:Ends} {f:Flow} {s':Shared} (h:SP (X.wish E) pins D f s'):SP X pins D f s':=by
 cases f with
 | next=>obtain ⟨σ',H',I,q⟩:=h;exact ⟨σ',H',I.unwish,q⟩
 | brk=>obtain ⟨σ',H',I,q⟩:=h;exact ⟨σ',H',I.unwish,q⟩
 | cont=>obtain ⟨σ',H',I,q⟩:=h;exact ⟨σ',H',I.unwish,q⟩
 | ret u=>obtain ⟨v,σ',H',I,r,q⟩:=h;exact ⟨v,σ',H',I.unwish,r,q⟩
theorem PSs.nox {st:List Stmt} {t:TS} (h:PSs X.nox st t):PSs X st t:=λpins s σ H D I hw=>
 wpAny_mono (h pins s σ H D (I.wish _) hw) (λ_ _ q=>q.unwish) λ_ _ z=>False.elim z
end
section
variable {X:Cx} {st:Stmt} {rest:List Stmt} {t u:TS} {e:Expr} {te:TE} {pos:Pos}
def tNext:TS:=λD σ H=>D.nx σ H
def c3t (t u:TS):TS:=λD σ H=>t { D with nx:=u D } σ H
theorem b3g:PSs X [] tNext:=λ_ _ σ H _ I h=>wpAny_execs_nil ⟨σ,H,I,h⟩
theorem a9c (h1:PS X st t) (h2:PSs X rest u):PSs X (st :: rest) (c3t t u):=by
 intro pins s σ H D I h
 refine wpAny_execs_cons (thn (h1 pins s σ H { D with nx:=u D } I h) λf s1 q=>?_)
 cases f with
 | next=>
  obtain ⟨σ',H',I',q⟩:=q
  exact h2 pins s1 σ' H' D I' q
 | ret v=>exact q
 | brk=>exact q
 | cont=>exact q
theorem Inv.quiet {pins:List (Addr×Obj)} {σ:St} {H:Hp} {s:Shared} (I:Inv X pins σ H s):interactive X.env=false:=by simp [interactive,I.ok.kind]
def c13 (te:TE):TS:=λD σ H=>te σ H λ_ H1=>D.nx σ H1
theorem b20 (he:PE X e te) (hs:swapsWith e none pos.line X.env=pure false:=by rfl):PS X (.Expr e pos) (c13 te):=by
 intro pins s σ H D I h
 exact wpAny_Expr_any (thn (he pins s σ H _ I h) λv s1 ⟨x,H1,I1,r1,q1⟩=>⟨σ,H1,I1,q1⟩) I.quiet hs
def c3y (te:TE):TS:=λD σ H=>te σ H D.rt
theorem b98 (he:PE X e te):PS X (.Return (some e) pos) (c3y te):=by
 intro pins s σ H D I h
 exact wpAny_Return_some (thn (he pins s σ H _ I h) λv s1 ⟨x,H1,I1,r1,q1⟩=>⟨x,σ,H1,I1,r1,q1⟩)
def c4m (c:TT) (t u:TS):TS:=λD σ H=>c σ H λb H1=>if b=true then t D σ H1 else u D σ H1
theorem ps_if {c:Expr} {a b:List Stmt} {tc:TT} (hc:PT X c tc) (ha:PSs X a t) (hb:PSs X b u):PS X (.If c a b pos) (c4m tc t u):=by
 intro pins s σ H D I h
 refine wpAny_If (thn (hc pins s σ H _ I h) λd s1 ⟨H1,I1,q1⟩=>?_)
 cases d with
 | true=>exact ha pins s1 σ H1 D I1 q1
 | false=>exact hb pins s1 σ H1 D I1 q1
end
noncomputable abbrev TG:=V->St->Hp->(St->Hp->Prop)->Prop
noncomputable abbrev TGs:=List V->St->Hp->(St->Hp->Prop)->Prop
def PG (X:Cx) (target:Expr) (t:TG):Prop:=
 ∀ (pins:List (Addr×Obj)) (s:Shared) (σ:St) (H:Hp) (v:V) (u:Value) (Q:St->Hp->Prop),Inv X pins σ H s->RelV v u->t v σ H Q ->
  wpAny (model X.prog X.w) X.A (assign target X.env u) (λ_ s'=>∃ σ' H',Inv X pins σ' H' s'/\Q σ' H') X.xe s
def PGs (X:Cx) (ts:List Expr) (t:TGs):Prop:=
 ∀ (pins:List (Addr×Obj)) (s:Shared) (σ:St) (H:Hp) (vs:List V) (us:List Value) (Q:St->Hp->Prop),Inv X pins σ H s->Vals vs us->t vs σ H Q ->
  wpAny (model X.prog X.w) X.A (assignInOrder ((assignEach ts X.env).map (·.2)) us) (λ_ s'=>∃ σ' H',Inv X pins σ' H' s'/\Q σ' H') X.xe s
noncomputable abbrev b9q:=V->V->V->Hp->(Hp->Prop)->Prop
def b9v (X:Cx) (t:b9q):Prop:=
 ∀ (pins:List (Addr×Obj)) (s:Shared) (σ:St) (H:Hp) (o i v:V) (ov iv u:Value) (Q:Hp->Prop),Inv X pins σ H s->RelV o ov->RelV i iv->RelV v u->t o i v H Q ->
  wpAny (model X.prog X.w) X.A (setItem ov iv u) (λ_ s'=>∃ H',Inv X pins σ H' s'/\Q H') X.xe s
section
variable {X:Cx} {pos:Pos}
def b6l (i:Nat):TG:=λv σ H Q=>Q (σ.set i (some v)) H
theorem N2 {i:Nat} {x:Str} (hN:X.N.Nodup) (hi:X.N[i]?=some x) (hx:Loc X.env.scope x) (hf:X.fn x=true\/X.env.scope.names.lookup x=some .local:=by first | exact .inl rfl | exact .inr rfl | assumption):PG X (.Name x pos) (b6l i):=by
 intro pins s σ H v u Q I r h
 exact wpAny_assign_Name (a3p I hN hi hx r (λs' I'=>⟨_,H,I',h⟩) hf)
def gNil:TGs:=λvs σ H Q=>vs=[]/\Q σ H
def c0s (t:TG) (u:TGs):TGs:=λvs σ H Q=>∃ v r,vs=v :: r/\t v σ H λσ' H'=>u r σ' H' Q
theorem b4r:PGs X [] gNil:=by
 intro pins s σ H vs us Q I r h
 obtain ⟨e,h⟩:=h
 subst e
 cases r
 exact assignInOrder_nil ⟨σ,H,I,h⟩
theorem a80 {e:Expr} {es:List Expr} {t:TG} {u:TGs} (h1:PG X e t) (h2:PGs X es u)
  (hs:(assignEach (e :: es) X.env).map (·.2)=assign e X.env :: (assignEach es X.env).map (·.2):=by rfl):PGs X (e :: es) (c0s t u):=by
 intro pins s σ H vs us Q I r h
 obtain ⟨v,vr,e1,h⟩:=h
 subst e1
 cases r with
 | cons r rr=>
  rw [hs]
  refine assignInOrder_cons (thn (h1 pins s σ H _ _ _ I r h) λ_ s1 ⟨σ1,H1,I1,q1⟩=>?_)
  exact h2 pins s1 σ1 H1 _ _ Q I1 rr q1
def c33 (K:PySem.W.Frag) (n:Nat) (t:TGs):TG:=λv σ H Q=>∃ a xs,v=.ref a/\SqT K H a xs/\xs.length=n/\t xs σ H Q
theorem b83 {es:List Expr} {k:Nat} {t:TGs} {n:Nat} (hc:X.calm=true) (h:PGs X es t)
  (hn:(assignEach es X.env).length=n:=by rfl) (hst:(assignEach es X.env).findIdx? (·.1)=none:=by rfl):PG X (.Tuple es k pos) (c33 X.K n t):=by
 intro pins s σ H v u Q I r hw
 obtain ⟨a,xs,e1,hq,hl,hw⟩:=hw
 subst e1
 cases r
 obtain ⟨its,rv,ht,hz⟩:=I.tuple hq
 refine assign_Tuple_tuple (I.ok.hd hc) ht (by simp [hn,<- hl,rv.length]) hst λh' hx=>?_
 have I1:Inv X pins σ H { s with heap:=h' }:=I.kept (t':=s.toks) λb o e=>hx b o (Nat.ne_of_lt (Heap.lt_size e)) e
 exact h pins _ σ H xs _ Q I1 (by simpa using rv) hw
def c4k (to ti:TE) (t:b9q):TG:=λv σ H Q=>to σ H λo H1=>ti σ H1 λi H2=>t o i v H2 λH3=>Q σ H3
theorem b6s {o i:Expr} {to ti:TE} {t:b9q} (ho:PE X o to) (hi:PE X i ti) (hs:b9v X t)
  (ha:∀ v,assign (.Subscript o i pos) X.env v=(do
   let ov <- holding [v] (eval o X.env)
   let iv <- holding [v,ov] (eval i X.env)
   standAt pos
   holding [v,ov,iv] (setItem ov iv v)
   release [v,ov,iv] []):=by intro _;rfl):PG X (.Subscript o i pos) (c4k to ti t):=by
 intro pins s σ H v u Q I r h
 rw [ha]
 refine wpAny_bind (wpAny_holding (thn (ho pins s σ H _ I h) λov s1 ⟨x,H1,I1,r1,q1⟩=>?_))
 refine wpAny_bind (wpAny_holding (thn (hi pins s1 σ H1 _ I1 q1) λiv s2 ⟨y,H2,I2,r2,q2⟩=>?_))
 refine wpAny_bind (wpAny_standAt (wpAny_bind (wpAny_holding (thn (hs pins s2 σ H2 x y v ov iv u _ I2 r1 r2 r q2) λ_ s3 ⟨H3,I3,q3⟩=>?_))))
 exact wpAny_release ⟨σ,H3,I3,q3⟩
def c0w (te:TE) (g:TG):TS:=λD σ H=>te σ H λx H1=>g x σ H1 D.nx
theorem a4i {tg e:Expr} {te:TE} {g:TG} (he:PE X e te) (hg:PG X tg g) (hs:swapsWithSole [tg] e pos.line X.env=pure false:=by rfl) (hw:swappedStores [tg] e X.env=pure none:=by rfl)
  (h1:(assignEach [tg] X.env).map (·.2)=[assign tg X.env]:=by rfl):PS X (.Assign [tg] e pos) (c0w te g):=by
 intro pins s σ H D I h
 refine wpAny_Assign_stores (thn (he pins s σ H _ I h) λv s1 ⟨x,H1,I1,r1,q1⟩=>?_) hs hw
 rw [h1]
 exact thn (hg pins s1 σ H1 x v _ I1 r1 q1) λ_ s2 q=>q
theorem b93 {i:Nat} {x:Str} {e:Expr} {te:TE} {pos':Pos} (hN:X.N.Nodup) (hi:X.N[i]?=some x) (hx:Loc X.env.scope x) (he:PE X e te) (hs:swapsWith e (some (.Name x pos')) pos.line X.env=pure false:=by rfl) (hf:X.fn x=true\/X.env.scope.names.lookup x=some .local:=by first | exact .inl rfl | exact .inr rfl | assumption) :
  PS X (.Assign [.Name x pos'] e pos) (c0w te (b6l i)):=by
 intro pins s σ H D I h
 refine wpAny_Assign_Name (thn (he pins s σ H _ I h) λv s1 ⟨y,H1,I1,r1,q1⟩=>?_) hs
 exact a3p I1 hN hi hx r1 (λs2 I2=>⟨_,H1,I2,q1⟩) hf
end
structure It where
 go:Nat->Hp->Prop
 yld:Nat->Hp->V->Hp->Prop
 stop:Nat->Hp->Prop
def U7 (X:Cx) (pins:List (Addr×Obj)) (H:Hp) (b:Addr):Prop:=
 H b=none/\b≠X.env.locals/\b∉X.fs/\(b∈X.ex\/X.s₀.heap.objs.size<=b)/\(∀ x c,X.env.cells.lookup x=some c->c≠b)/\∀ p∈X.pn++pins,p.1≠b
theorem Inv.fpOk {X:Cx} {pins:List (Addr×Obj)} {σ:St} {H H':Hp} {s:Shared} {b:Addr} (I:Inv X pins σ H s) (hb:s.heap.objs.size<=b) (hn:H' b=none):U7 X pins H' b:=by
 refine ⟨hn,Nat.ne_of_gt (Nat.lt_of_lt_of_le I.lt hb),I.nofs hb,.inr (Nat.le_trans I.sz hb),λx c e z=>?_,λp hp z=>?_⟩
 ·obtain ⟨v,q⟩:=I.cell x c e
  exact absurd (Nat.lt_of_lt_of_le q.lt (by rw [z];exact hb)) (Nat.lt_irrefl _)
 ·exact absurd (Nat.lt_of_lt_of_le (Heap.lt_size (I.pin p hp).1) (by rw [z];exact hb)) (Nat.lt_irrefl _)
structure Turn (P:Program) (w:World) (K:PySem.W.Frag) (tg:Expr) (J:It) (fp:List Addr) (it:Addr) (tn:Nat->Heap->Prop):Prop where
 mem:it∈fp
 obj:∀ i h,tn i h->∀ b∈fp,∃ o,h.get? b=some o/\∀ v,o.data≠.cell v
 keep:∀ i h h',tn i h->(∀ b∈fp,∀ o,h.get? b=some o->h'.get? b=some o)->tn i h'
 item:∀ (X:Cx),X.prog=P->X.w=w->X.K=K->X.calm=true->∀ (i:Nat) (pins:List (Addr×Obj)) (s:Shared) (σ:St) (H:Hp) (E:Value->Shared->Prop),Inv X pins σ H s->(∀ b∈fp,U7 X pins H b)->tn i s.heap->J.go i H ->
  wpAny (model P w) X.A (pyNext (.ref it)) (λr s1=>∃ u,r=some u /\
   wpAny (model P w) X.A (letOwnedTupleGo tg (.ref it) u) (λ_ s2=>∃ x H',Inv X pins σ H' s2/\RelV x u/\J.yld i H x H'/\tn (i+1) s2.heap/\∀ b∈fp,H' b=none) E s1) E s
 done:∀ (X:Cx),X.prog=P->X.w=w->X.K=K->X.calm=true->∀ (i:Nat) (pins:List (Addr×Obj)) (s:Shared) (σ:St) (H:Hp) (E:Value->Shared->Prop),Inv X pins σ H s->(∀ b∈fp,U7 X pins H b)->tn i s.heap->J.stop i H ->
  wpAny (model P w) X.A (pyNext (.ref it)) (λr s1=>r=none/\Inv X pins σ H s1) E s
 self:∀ (A:Around) (i:Nat) (s:Shared) (Q:Value->Shared->Prop) (E:Value->Shared->Prop),tn i s.heap->Q (.ref it) s->wpAny (model P w) A (pyIter (.ref it)) Q E s
noncomputable abbrev TI:=St->Hp->(It->Hp->Prop)->Prop
def PIE (X:Cx) (pins:List (Addr×Obj)) (σ:St) (tg:Expr) (R:It->Hp->Prop) (itv:Value) (s2:Shared):Prop:=
 ∃ (it:Addr) (fp:List Addr) (tn:Nat->Heap->Prop) (J:It) (H':Hp),itv=.ref it/\Inv X pins σ H' s2/\Turn X.prog X.w X.K tg J fp it tn/\tn 0 s2.heap/\(∀ b∈fp,U7 X pins H' b)/\R J H'
def PI (X:Cx) (tg iter:Expr) (wi:TI):Prop:=
 ∀ (pins:List (Addr×Obj)) (s:Shared) (σ:St) (H:Hp) (R:It->Hp->Prop),Inv X pins σ H s->wi σ H R ->
  wpAny (model X.prog X.w) X.A (eval iter X.env) (λv s1=>wpAny (model X.prog X.w) X.A (pyIter v) (PIE X pins σ tg R) X.xe s1) X.xe s
theorem b07 {M:Model} {A:Around} {E:Value->Shared->Prop} {s:Shared} {tg:Expr} {it:Addr} {u:Value} {o:Obj} {n:String} {vs:Array Value} {Q:Unit->Shared->Prop} (ho:s.heap.get? it=some o) (hc:o.cls=.type n) (hd:o.data=.fields vs)
  (hn:["enumerate","zip","dict_itemiterator","dict_reverseitemiterator","odict_iterator","itertools.zip_longest","itertools.pairwise"].contains n=false) (hQ:Q () s):wpAny M A (letOwnedTupleGo tg (.ref it) u) Q E s:=by
 unfold letOwnedTupleGo
 cases tg <;> first
  | exact wpAny_pure hQ
  | (cases u <;> first
    | exact wpAny_pure hQ
    | (refine wpAny_bind (wpAny_load ho ?_);rw [hc,hd];show wpAny M A (if (["enumerate","zip","dict_itemiterator","dict_reverseitemiterator","odict_iterator","itertools.zip_longest","itertools.pairwise"].contains n&&vs[0]?==some (rawInt _))=true then _ else _) Q E s;rw [if_neg (by intro h;rw [hn,Bool.false_and] at h;cases h)];exact wpAny_pure hQ))
noncomputable def Itl (K:PySem.W.Frag) (a:Addr):It:=
 ⟨λi H=>∃ xs x,SqL K H a xs/\xs[i]?=some x,λi H x H'=>H'=H/\∀ xs,SqL K H a xs->xs[i]?=some x,λi H=>∃ xs,SqL K H a xs/\xs.length<=i⟩
noncomputable def Itt (K:PySem.W.Frag) (a:Addr):It:=
 ⟨λi H=>∃ xs x,SqT K H a xs/\xs[i]?=some x,λi H x H'=>H'=H/\∀ xs,SqT K H a xs->xs[i]?=some x,λi H=>∃ xs,SqT K H a xs/\xs.length<=i⟩
noncomputable def Itr (lo:Int) (n:Nat):It:=⟨λi _=>i<n,λi H x H'=>H'=H/\x=.int (lo+i),λi _=>n<=i⟩
theorem a79 {P:Program} {w:World} {K:PySem.W.Frag} {tg:Expr} (a it:Addr):Turn P w K tg (Itl K a) [it] it (λi h=>h.IsListIter it a i) where
 mem:=by simp
 obj:=λi h st b hb=>by
  have e:b=it:=by simpa using hb
  subst e
  obtain ⟨o,e,c,d⟩:=st
  exact ⟨o,e,λv z=>by rw [d] at z;cases z⟩
 keep:=λi h h' st k=>st.at λo e=>k it (by simp) o e
 item:=by
  intro X hP hw hK hc i pins s σ H E I hf st hg
  subst hP hw hK
  obtain ⟨xs,x,hq,hx⟩:=hg
  obtain ⟨its,rv,p,hz⟩:=I.list hq
  obtain ⟨u,hu,ru⟩:=rv.get hx
  obtain ⟨f0,f1,f2,f3,f4,f5⟩:=hf it (by simp)
  refine wpAny_pyNext_list_item st p.isList (x:=u) (by simpa using hu) λh' st' sb=>?_
  have I1:Inv X pins σ H { s with heap:=h' }:=I.turned (t':=s.toks) (λb o hb e=>(sb.2 b hb).trans e) f0 f1 f3 f4 f5
  obtain ⟨o,e,c,d⟩:=id st'
  exact ⟨u,rfl,b07 (s:={ s with heap:=h' }) e c d (by decide) ⟨x,H,I1,ru,⟨rfl,λys hy=>by rw [I.list_inj hy hq];exact hx⟩,st',λb hb=>(hf b hb).1⟩⟩
 done:=by
  intro X hP hw hK hc i pins s σ H E I hf st hg
  subst hP hw hK
  obtain ⟨xs,hq,hx⟩:=hg
  obtain ⟨its,rv,p,hz⟩:=I.list hq
  obtain ⟨f0,f1,f2,f3,f4,f5⟩:=hf it (by simp)
  have hl:=rv.length
  exact wpAny_pyNext_list_end (I.ok.hd hc) st p.isList (by simp;omega) λh' eb=>⟨rfl,I.turned (t':=s.toks) (λb o hb e=>eb b o hb e) f0 f1 f3 f4 f5⟩
 self:=λ_ _ _ _ _ st h=>wpAny_pyIter_listiter st h
theorem a5c {P:Program} {w:World} {K:PySem.W.Frag} {tg:Expr} (a it:Addr):Turn P w K tg (Itt K a) [it] it (λi h=>h.IsTupleIter it a i) where
 mem:=by simp
 obj:=λi h st b hb=>by
  have e:b=it:=by simpa using hb
  subst e
  obtain ⟨o,e,c,d⟩:=st
  exact ⟨o,e,λv z=>by rw [d] at z;cases z⟩
 keep:=λi h h' st k=>st.at λo e=>k it (by simp) o e
 item:=by
  intro X hP hw hK hc i pins s σ H E I hf st hg
  subst hP hw hK
  obtain ⟨xs,x,hq,hx⟩:=hg
  obtain ⟨its,rv,p,hz⟩:=I.tuple hq
  obtain ⟨u,hu,ru⟩:=rv.get hx
  obtain ⟨f0,f1,f2,f3,f4,f5⟩:=hf it (by simp)
  refine wpAny_pyNext_tuple_item st (show s.heap.IsTuple a its.toArray from p) (x:=u) (by simpa using hu) λh' st' sb=>?_
  have I1:Inv X pins σ H { s with heap:=h' }:=I.turned (t':=s.toks) (λb o hb e=>(sb.2 b hb).trans e) f0 f1 f3 f4 f5
  obtain ⟨o,e,c,d⟩:=id st'
  exact ⟨u,rfl,b07 (s:={ s with heap:=h' }) e c d (by decide) ⟨x,H,I1,ru,⟨rfl,λys hy=>by rw [I.tuple_inj hy hq];exact hx⟩,st',λb hb=>(hf b hb).1⟩⟩
 done:=by
  intro X hP hw hK hc i pins s σ H E I hf st hg
  subst hP hw hK
  obtain ⟨xs,hq,hx⟩:=hg
  obtain ⟨its,rv,p,hz⟩:=I.tuple hq
  obtain ⟨f0,f1,f2,f3,f4,f5⟩:=hf it (by simp)
  have hl:=rv.length
  exact wpAny_pyNext_tuple_end (I.ok.hd hc) st (show s.heap.IsTuple a its.toArray from p) (by simp;omega) λh' eb=>⟨rfl,I.turned (t':=s.toks) (λb o hb e=>eb b o hb e) f0 f1 f3 f4 f5⟩
 self:=λ_ _ _ _ _ st h=>wpAny_pyIter_tupleiter st h
theorem a4s {P:Program} {w:World} {K:PySem.W.Frag} {tg:Expr} (it:Addr) (lo:Int) (n:Nat):Turn P w K tg (Itr lo n) [it] it (λi h=>IsRangeIter h it (lo+(i:Nat) * 1) ((n:Int)-(i:Nat)) 1) where
 mem:=by simp
 obj:=λi h st b hb=>by
  have e:b=it:=by simpa using hb
  subst e
  exact ⟨_,st,λv z=>by
   have z':Data.fields _=Data.cell v:=z
   cases z'⟩
 keep:=λi h h' st k=>k it (by simp) _ st
 item:=by
  intro X hP hw hK hc i pins s σ H E I hf st hg
  subst hP hw hK
  obtain ⟨f0,f1,f2,f3,f4,f5⟩:=hf it (by simp)
  have W:=Walks.range (prog:=X.prog) (w:=X.w) (I.ok.hd hc) it lo 1 n
  refine W.item i s _ _ hg st λv h' tk hv st' kk=>?_
  obtain ⟨t,rfl⟩:=hv
  have I1:Inv X pins σ H { s with heap:=h',toks:=tk }:=I.turned (λb o hb e=>kk b o (by simpa using hb) e) f0 f1 f3 f4 f5
  refine ⟨_,rfl,b07 (s:={ s with heap:=h',toks:=tk }) (n:="range_iterator") st' rfl rfl (by decide) ⟨.int (lo+i),H,I1,⟨t,?_⟩,⟨rfl,rfl⟩,st',λb hb=>(hf b hb).1⟩⟩
  rw [Int.mul_one]
 done:=by
  intro X hP hw hK hc i pins s σ H E I hf st hg
  subst hP hw hK
  obtain ⟨f0,f1,f2,f3,f4,f5⟩:=hf it (by simp)
  exact wpAny_pyNext_range_end (I.ok.hd hc) st (by have:n<=i:=hg;omega) λh' eb=>⟨rfl,I.turned (t':=s.toks) (λb o hb e=>eb b o hb e) f0 f1 f3 f4 f5⟩
 self:=λ_ _ _ _ _ st h=>wpAny_pyIter_rangeiter st h
section
variable {X:Cx} {tg:Expr}
theorem a3d {pins:List (Addr×Obj)} {σ:St} {H:Hp} {s:Shared} {R:It->Hp->Prop} {E:Value->Shared->Prop} {lo hi:Int} {t u v:Tok} {tk:Nat} (I:Inv X pins σ H s) (h1:-(2 ^ 62)<=lo) (h2:lo<2 ^ 62) (h3:-(2 ^ 62)<=hi) (h4:hi<2 ^ 62)
  (q:R (Itr lo (hi-lo).toNat) H):wpAny (model X.prog X.w) X.A (pyIter (.ref s.heap.objs.size)) (PIE X pins σ tg R) E { s with heap:=s.heap.push { cls:=.type "range",data:=.fields #[.int lo t,.int hi u,.int 1 v] },toks:=tk }:=by
 refine wpAny_pyIter_range (IsRange.new ..) (small_one h1 h2 h3 h4) ?_
 have I1:Inv X pins σ H { s with heap:=s.heap.push { cls:=.type "range",data:=.fields #[.int lo t,.int hi u,.int 1 v] },toks:=tk }:=I.kept λb o e=>Heap.get?_push_of_some _ e
 refine ⟨(s.heap.push { cls:=.type "range",data:=.fields #[.int lo t,.int hi u,.int 1 v] }).objs.size,[(s.heap.push { cls:=.type "range",data:=.fields #[.int lo t,.int hi u,.int 1 v] }).objs.size],_,_,H,rfl,
  I1.kept (t':=tk) λb o e=>Heap.get?_push_of_some _ e,a4s _ lo (hi-lo).toNat,?_,λb hb=>?_,q⟩
 ·have e1:lo+((0:Nat):Int) * 1=lo:=by simp
  have e2:(((hi-lo).toNat:Nat):Int)-((0:Nat):Int)=Builtin.Range.rangeSize lo hi 1:=by rw [rangeSize_one];split <;> omega
  show IsRangeIter _ _ (lo+((0:Nat):Int) * 1) ((((hi-lo).toNat:Nat):Int)-((0:Nat):Int)) 1
  rw [e1,e2]
  exact Heap.get?_push_size _ rfl
 ·have e:b=(s.heap.push { cls:=.type "range",data:=.fields #[.int lo t,.int hi u,.int 1 v] }).objs.size:=by simpa using hb
  subst e
  exact I1.fpOk (Nat.le_refl _) (I1.hok.fresh (Nat.le_refl _))
def c2z (ta:TA):TI:=λσ H R=>ta σ H λvs H1=>∃ j:Int,vs=[.int j]/\-(2 ^ 62)<=j/\j<2 ^ 62/\R (Itr 0 j.toNat) H1
def c29 (ta:TA):TI:=λσ H R=>ta σ H λvs H1=>∃ i j:Int,vs=[.int i,.int j]/\(-(2 ^ 62)<=i/\i<2 ^ 62/\-(2 ^ 62)<=j/\j<2 ^ 62)/\R (Itr i (j-i).toNat) H1
theorem a8w {a:Expr} {ta:TA} {p pos:Pos} (hg:Gl X "range") (hm:X.mg "range" = none) (ha:PA X [a] ta) (hs:starEach [a] X.env=[(false,eval a X.env)]:=by rfl):PI X tg (.Call (.Name "range" p) [a] [] pos) (c2z ta):=by
 intro pins s σ H R I h
 refine Call_ (y4 I hg hm boot_range (PyProof.Rows.callWith_type1 (thn (ha pos pins s σ H _ I h) λus s1 ⟨vs,H1,I1,r1,q1⟩=>?_) hs rfl))
 obtain ⟨j,e,q1,q2,q⟩:=q1
 subst e
 cases r1 with
 | cons r rr=>
  cases rr
  obtain ⟨t,rfl⟩:=r
  exact call_range_1 (a3d I1 (by omega) (by omega) q1 q2 (by simpa using q))
theorem a8i {a b:Expr} {ta:TA} {p pos:Pos} (hg:Gl X "range") (hm:X.mg "range" = none) (ha:PA X [a,b] ta) (hs:starEach [a,b] X.env=[(false,eval a X.env),(false,eval b X.env)]:=by rfl) (hs2:starEach [b] X.env=[(false,eval b X.env)]:=by rfl) :
  PI X tg (.Call (.Name "range" p) [a,b] [] pos) (c29 ta):=by
 intro pins s σ H R I h
 refine Call_ (y4 I hg hm boot_range (PyProof.Rows.callWith_type1 (thn (ha pos pins s σ H _ I h) λus s1 ⟨vs,H1,I1,r1,q1⟩=>?_) (by rw [hs,hs2]) (by rw [hs2];rfl)))
 obtain ⟨i,j,e,⟨q1,q2,q3,q4⟩,q⟩:=q1
 subst e
 cases r1 with
 | cons r rr=>
  cases rr with
  | cons r' rr=>
   cases rr
   obtain ⟨t,rfl⟩:=r
   obtain ⟨t',rfl⟩:=r'
   exact call_range_2 (a3d I1 q1 q2 q3 q4 q)
def c36 (wi:TI) (g:TG) (tb:TS):TS:=λD σ H=>wi σ H λJ H1=>∃ W:Nat->Nat->St->Hp->Prop,(∃ m,W 0 m σ H1)/\∀ i m σ H,W i m σ H ->
 (J.stop i H/\D.nx σ H)\/(J.go i H/\∃ N:St->Hp->Prop,(∀ σ' H',N σ' H'->∃ m',m'<m/\W (i+1) m' σ' H')/\∀ x H',J.yld i H x H'->g x σ H' λσ2 H2=>tb { D with nx:=N,ct:=N,bk:=D.nx } σ2 H2)
noncomputable def p0 (fp:List Addr) (h:Heap):List (Addr×Obj):=fp.filterMap λb=>(h.get? b).map λo=>(b,o)
theorem j6 {fp:List Addr} {h:Heap} {b:Addr} {o:Obj} (hb:b∈fp) (e:h.get? b=some o):(b,o)∈p0 fp h:=List.mem_filterMap.mpr ⟨b,hb,by rw [e];rfl⟩
theorem a7u {fp:List Addr} {h:Heap} {p:Addr×Obj} (hp:p∈p0 fp h):p.1∈fp/\h.get? p.1=some p.2:=by
 obtain ⟨b,hb,e⟩:=List.mem_filterMap.mp hp
 cases q:h.get? b with
 | none=>rw [q] at e;cases e
 | some o=>
  rw [q] at e
  have e':(b,o)=p:=Option.some.inj e
  subst e'
  exact ⟨hb,q⟩
theorem Inv.pinned {pins:List (Addr×Obj)} {σ:St} {H:Hp} {s:Shared} {fp:List Addr} (I:Inv X pins σ H s) (hf:∀ b∈fp,U7 X pins H b) (ho:∀ b∈fp,∃ o,s.heap.get? b=some o/\∀ v,o.data≠.cell v):Inv X (pins++p0 fp s.heap) σ H s:=
 I.pins_of λp hp=>(List.mem_append.mp hp).elim (λz=>I.pin p (List.mem_append_right _ z)) λz=>by
  obtain ⟨hb,e⟩:=a7u z
  obtain ⟨f0,f1,f2,_⟩:=hf p.1 hb
  obtain ⟨o,e',d⟩:=ho p.1 hb
  rw [e] at e';cases e'
  exact ⟨e,f0,f1,f2,d⟩
theorem Inv.unpinned {pins pl:List (Addr×Obj)} {σ:St} {H:Hp} {s:Shared} (I:Inv X (pins++pl) σ H s):Inv X pins σ H s:=I.pins_of λp hp=>I.pin p (List.mem_append_right _ (List.mem_append_left _ hp))
theorem b96 {iter:Expr} {body:List Stmt} {wi:TI} {g:TG} {tb:TS} {pos:Pos} (hp:PassesOwn (model X.prog X.w) X.A X.env X.xe) (hc:X.calm=true) (hi:PI X tg iter wi) (hg:PG X tg g) (hb:PSs X body tb)
  (hs:∀ x,foldedSetIterable iter X.env x=pure x:=by intro _;rfl):PS X (.For tg iter body [] pos) (c36 wi g tb):=by
 intro pins s σ H D I h
 refine wpAny_For (thn (hi pins s σ H _ I h) λv s1 h1=>thn h1 λitv s2 h2=>?_) hs
 obtain ⟨it,fp,tn,J,H2,e,I2,T,st2,f2,W,⟨m0,w0⟩,turn⟩:=h2
 subst e
 have stat:∀ {H':Hp},(∀ b∈fp,H' b=none)->∀ b∈fp,U7 X pins H' b:=λhn b hb=>⟨hn b hb,(f2 b hb).2⟩
 refine codeAny_forLoop_any (λn s'=>∃ i σ' H',Inv X pins σ' H' s'/\tn i s'.heap/\(∀ b∈fp,H' b=none)/\W i n σ' H') ?_ m0 ⟨0,σ,H2,I2,st2,λb hb=>(f2 b hb).1,w0⟩
 rintro n s3 ⟨i,σ3,H3,I3,st3,fr3,w3⟩
 rcases turn i n σ3 H3 w3 with ⟨stop,qn⟩ | ⟨go,N,hN,step⟩
 ·refine wpAny_passesOwn hp (thn (T.done X rfl rfl rfl hc i pins s3 σ3 H3 X.xe I3 (stat fr3) st3 stop) λr s4 ⟨hr,I4⟩=>?_)
  subst hr
  exact wpAny_execs_nil ⟨σ3,H3,I4,qn⟩
 ·refine wpAny_passesOwn hp (thn (T.item X rfl rfl rfl hc i pins s3 σ3 H3 X.xe I3 (stat fr3) st3 go) λr s4 ⟨u,hr,h4⟩=>?_)
  subst hr
  refine wpAny_passesOwn hp (thn h4 λ_ s5 ⟨x,H5,I5,r5,y5,st5,fr5⟩=>?_)
  have I5':=I5.pinned (stat fr5) (T.obj _ _ st5)
  refine wpAny_passesOwn hp (thn (hg _ s5 σ3 H5 x u _ I5' r5 (step x H5 y5)) λ_ s6 ⟨σ6,H6,I6,q6⟩=>?_)
  refine wpAny_passesOwn hp (thn (hb _ s6 σ6 H6 _ I6 q6) λf s7 q7=>?_)
  have again:∀ {σ7:St} {H7:Hp},Inv X (pins++p0 fp s5.heap) σ7 H7 s7->N σ7 H7->∃ m,m<n/\∃ i σ' H',Inv X pins σ' H' s7/\tn i s7.heap/\(∀ b∈fp,H' b=none)/\W i m σ' H':=λ{σ7 H7} I7 n7=>by
   obtain ⟨m',hm,w7⟩:=hN σ7 H7 n7
   refine ⟨m',hm,i+1,σ7,H7,I7.unpinned,T.keep _ _ _ st5 λb hb o e=>(I7.pin (b,o) (List.mem_append_right _ (List.mem_append_right _ (j6 hb e)))).1,λb hb=>?_,w7⟩
   obtain ⟨o,e,d⟩:=T.obj _ _ st5 b hb
   exact (I7.pin (b,o) (List.mem_append_right _ (List.mem_append_right _ (j6 hb e)))).2.1
  cases f with
  | next=>obtain ⟨σ7,H7,I7,n7⟩:=q7;exact again I7 n7
  | cont=>obtain ⟨σ7,H7,I7,n7⟩:=q7;exact again I7 n7
  | brk=>obtain ⟨σ7,H7,I7,q7⟩:=q7;exact ⟨σ7,H7,I7.unpinned,q7⟩
  | ret v=>obtain ⟨x7,σ7,H7,I7,r7,q7⟩:=q7;exact ⟨x7,σ7,H7,I7.unpinned,r7,q7⟩
end
noncomputable abbrev R2:=V->V->Hp->VK->Prop
def OpR (X:Cx) (f:Value->Value->Sem Value) (r:R2):Prop:=
 ∀ (pins:List (Addr×Obj)) (s:Shared) (σ:St) (H:Hp) (x y:V) (v u:Value) (Q:VK),Inv X pins σ H s->RelV x v->RelV y u->r x y H Q ->
  wpAny (model X.prog X.w) X.A (f v u) (EP X pins σ Q) X.xe s
def UnR (X:Cx) (f:Value->Sem Value) (r:V->Hp->VK->Prop):Prop:=
 ∀ (pins:List (Addr×Obj)) (s:Shared) (σ:St) (H:Hp) (x:V) (v:Value) (Q:VK),Inv X pins σ H s->RelV x v->r x H Q ->
  wpAny (model X.prog X.w) X.A (f v) (EP X pins σ Q) X.xe s
def i5 (X:Cx) (f:Value) (r:List V->Hp->VK->Prop):Prop:=
 ∀ (pins:List (Addr×Obj)) (s:Shared) (σ:St) (H:Hp) (xs:List V) (us:List Value) (Q:VK),Inv X pins σ H s->Vals xs us->r xs H Q ->
  wpAny (model X.prog X.w) X.A (call f us) (EP X pins σ Q) X.xe s
def c3s (X:Cx) (r:V->Hp->(Bool->Hp->Prop)->Prop):Prop:=
 ∀ (pins:List (Addr×Obj)) (s:Shared) (σ:St) (H:Hp) (x:V) (v:Value) (Q:Bool->Hp->Prop),Inv X pins σ H s->RelV x v->r x H Q ->
  wpAny (model X.prog X.w) X.A (truthy v) (TP X pins σ Q) X.xe s
def tOp (r:R2) (ta tb:TE):TE:=λσ H Q=>ta σ H λx H1=>tb σ H1 λy H2=>r x y H2 Q
def tUn (r:V->Hp->VK->Prop) (ta:TE):TE:=λσ H Q=>ta σ H λx H1=>r x H1 Q
def rI (C:Int->Int->Prop) (g:Int->Int->V):R2:=λx y H Q=>∃ i j,x=.int i/\y=.int j/\C i j/\Q (g i j) H
def rI0 (g:Int->Int->V):R2:=λx y H Q=>∃ i j,x=.int i/\y=.int j/\Q (g i j) H
def rU (g:Int->V):V->Hp->VK->Prop:=λx H Q=>∃ i,x=.int i/\Q (g i) H
section
variable {X:Cx} {a b c:Expr} {ta tb tc:TE} {pos:Pos}
theorem b9y (ha:PE X a ta) (hb:PE X b tb) {pins:List (Addr×Obj)} {s:Shared} {σ:St} {H:Hp} {R:V->V->Hp->Prop} (I:Inv X pins σ H s)
  (h:ta σ H λx H1=>tb σ H1 λy H2=>R x y H2) {Q:Value->Shared->Prop} {f:Value->Value->Sem Value}
  (hf:∀ v u s2 x y H2,Inv X pins σ H2 s2->RelV x v->RelV y u->R x y H2->wpAny (model X.prog X.w) X.A (f v u) Q X.xe s2) :
  wpAny (model X.prog X.w) X.A (eval a X.env) (λv s₁=>wpAny (model X.prog X.w) X.A (eval b X.env) (λu s₂=>wpAny (model X.prog X.w) X.A (f v u) Q X.xe s₂) X.xe s₁) X.xe s:=by
 refine thn (ha pins s σ H _ I h) λv s1 ⟨x,H1,I1,r1,q1⟩=>?_
 refine thn (hb pins s1 σ H1 _ I1 q1) λu s2 ⟨y,H2,I2,r2,q2⟩=>?_
 exact hf v u s2 x y H2 I2 r1 r2 q2
theorem c2m {op:Operator} {r:R2} (ho:OpR X (binaryOp op) r) (ha:PE X a ta) (hb:PE X b tb):PE X (.BinOp a op b pos) (tOp r ta tb):=by
 intro pins s σ H Q I h
 exact wpAny_BinOp (b9y ha hb I h λv u s2 x y H2 I2 rx ry q=>ho pins s2 σ H2 x y v u Q I2 rx ry q)
theorem c2s {op:UnaryOp} {r:V->Hp->VK->Prop} (ho:UnR X (unaryOp op) r) (ha:PE X a ta):PE X (.UnaryOp op a pos) (tUn r ta):=by
 intro pins s σ H Q I h
 exact UnaryOp_ (thn (ha pins s σ H _ I h) λv s1 ⟨x,H1,I1,r1,q1⟩=>ho pins s1 σ H1 x v Q I1 r1 q1)
theorem opI {f:Value->Value->Sem Value} {C:Int->Int->Prop} {g:Int->Int->Int}
  (rule:∀ (i j:Int) (t u:Tok) (s:Shared) (Q:Value->Shared->Prop) (E:Value->Shared->Prop),C i j->Q (.int (g i j) s.toks) { s with toks:=s.toks+1 }->wpAny (model X.prog X.w) X.A (f (.int i t) (.int j u)) Q E s) :
  OpR X f (rI C λi j=>.int (g i j)):=by
 intro pins s σ H x y v u Q I rx ry h
 obtain ⟨i,j,rfl,rfl,hc,q⟩:=h
 obtain ⟨t,rfl⟩:=rx
 obtain ⟨t',rfl⟩:=ry
 exact rule i j t t' s _ _ hc ⟨.int (g i j),H,I.tok _,⟨_,rfl⟩,q⟩
theorem c0d {f:Value->Value->Sem Value} {g:Int->Int->Int}
  (rule:∀ (i j:Int) (t u:Tok) (s:Shared) (Q:Value->Shared->Prop) (E:Value->Shared->Prop),Q (.int (g i j) s.toks) { s with toks:=s.toks+1 }->wpAny (model X.prog X.w) X.A (f (.int i t) (.int j u)) Q E s) :
  OpR X f (rI0 λi j=>.int (g i j)):=by
 intro pins s σ H x y v u Q I rx ry h
 obtain ⟨i,j,rfl,rfl,q⟩:=h
 obtain ⟨t,rfl⟩:=rx
 obtain ⟨t',rfl⟩:=ry
 exact rule i j t t' s _ _ ⟨.int (g i j),H,I.tok _,⟨_,rfl⟩,q⟩
theorem b5f {f:Value->Value->Sem Value} {g:Int->Int->Bool}
  (rule:∀ (i j:Int) (t u:Tok) (s:Shared) (Q:Value->Shared->Prop) (E:Value->Shared->Prop),Q (.bool (g i j)) s->wpAny (model X.prog X.w) X.A (f (.int i t) (.int j u)) Q E s) :
  OpR X f (rI0 λi j=>.bl (g i j)):=by
 intro pins s σ H x y v u Q I rx ry h
 obtain ⟨i,j,rfl,rfl,q⟩:=h
 obtain ⟨t,rfl⟩:=rx
 obtain ⟨t',rfl⟩:=ry
 exact rule i j t t' s _ _ ⟨.bl (g i j),H,I,rfl,q⟩
def b11 (i j:Int):Prop:=0<j/\j<1073741824
def b39 (i j:Int):Prop:=0<=j/\j<=1000000/\i.natAbs<2 ^ 64
def CMul (i j:Int):Prop:=(-(2 ^ 64)<i/\i<2 ^ 64)\/(-(2 ^ 64)<j/\j<2 ^ 64)
theorem CMul.ok {i j:Int} (h:CMul i j):IntMulOk i j:=by
 rcases h with ⟨h1,h2⟩ | ⟨h1,h2⟩
 ·exact .of_left (intBits_le_64 h1 h2)
 ·exact .of_right (intBits_le_64 h1 h2)
theorem b7q:OpR X (binaryOp .Add) (rI0 λi j=>.int (i+j)):=c0d λ_ _ _ _ _ _ _ q=>add_int q
theorem b9p:OpR X (binaryOp .Sub) (rI0 λi j=>.int (i-j)):=c0d λ_ _ _ _ _ _ _ q=>sub_int q
theorem b61:OpR X (binaryOp .Mult) (rI CMul λi j=>.int (i * j)):=opI λ_ _ _ _ _ _ _ hc q=>mul_int q hc.ok
theorem b5n:OpR X (binaryOp .FloorDiv) (rI b11 λi j=>.int (i / j)):=opI λi j _ _ _ _ _ hc q=>by
 have h1:(0:Int)<j:=hc.1
 have h2:j<1073741824:=hc.2
 exact floordiv_int (by omega) (by rw [Int.fdiv_eq_ediv_of_nonneg i (by omega)];exact q) (.inl (PyProof.noPylong_small (by omega)))
theorem b7l:OpR X (binaryOp .Mod) (rI (λ_ j=>0<j) λi j=>.int (i % j)):=opI λi j _ _ _ _ _ hc q=>by
 have h1:(0:Int)<j:=hc
 exact mod_int' (by omega) (by rw [Int.fmod_eq_emod_of_nonneg i (by omega)];exact q)
theorem b7t:OpR X (binaryOp .Pow) (rI b39 λi j=>.int (i ^ j.toNat)):=opI λ_ _ _ _ _ _ _ hc q=>pow_int_small hc.1 hc.2.1 hc.2.2 q
theorem unI {f:Value->Sem Value} {g:Int->Int}
  (rule:∀ (i:Int) (t:Tok) (s:Shared) (Q:Value->Shared->Prop) (E:Value->Shared->Prop),Q (.int (g i) s.toks) { s with toks:=s.toks+1 }->wpAny (model X.prog X.w) X.A (f (.int i t)) Q E s) :
  UnR X f (rU λi=>.int (g i)):=by
 intro pins s σ H x v Q I rx h
 obtain ⟨i,rfl,q⟩:=h
 obtain ⟨t,rfl⟩:=rx
 exact rule i t s _ _ ⟨.int (g i),H,I.tok _,⟨_,rfl⟩,q⟩
theorem b9a:UnR X (unaryOp .USub) (rU λi=>.int (-i)):=unI λ_ _ _ _ _ q=>neg_int q
end
noncomputable def c1c:V->V->Bool
 | .non,.non=>true | .non,.int _=>true | .int _,.non=>true | .non,.bl _=>true | .bl _,.non=>true | .non,.str _=>true | .str _,.non=>true
 | .int _,.int _=>true | .bl _,.bl _=>true | .str _,.str _=>true | .byt _,.byt _=>true
 | .int _,.str _=>true | .str _,.int _=>true | .bl _,.str _=>true | .str _,.bl _=>true
 | _,_=>false
def rEq:R2:=λx y H Q=>c1c x y=true/\Q (.bl (decide (x=y))) H
def rNe:R2:=λx y H Q=>c1c x y=true/\Q (.bl (!decide (x=y))) H
theorem a5z {i j:Int}:decide (V.int i=V.int j)=(i==j):=by
 rw [Bool.eq_iff_iff]
 simp
theorem a90 {i j:Bool}:decide (V.bl i=V.bl j)=(i==j):=by
 rw [Bool.eq_iff_iff]
 simp
theorem a6h {i j:Str}:decide (V.str i=V.str j)=(i==j):=by
 rw [Bool.eq_iff_iff]
 simp
theorem a5m {i j:Array UInt8}:decide (V.byt i=V.byt j)=(i.toList==j.toList):=by
 rw [Bool.eq_iff_iff]
 cases i
 cases j
 simp
section
variable {X:Cx} {a b c:Expr} {ta tb tc:TE} {pos:Pos}
theorem c9 {pins:List (Addr×Obj)} {σ:St} {H:Hp} {s:Shared} {Q:VK} {k k':Bool} (I:Inv X pins σ H s) (q:Q (.bl k) H) (e:k=k'):EP X pins σ Q (.bool k') s:=by
 subst e
 exact ⟨.bl k,H,I,rfl,q⟩
theorem c1i:OpR X (compareOp .Eq) rEq:=by
 intro pins s σ H x y v u Q I rx ry h
 obtain ⟨hs,q⟩:=h
 cases x with
 | non=>
  cases rx
  cases y with
  | non=>cases ry;exact PySem.EqNone.eq_none_none (c9 I q (by simp))
  | bl j=>cases ry;exact PySem.EqNone.eq_none_bool (c9 I q (by simp))
  | int j=>obtain ⟨t',rfl⟩:=ry;exact PySem.EqNone.eq_none_int (c9 I q (by simp))
  | str j=>obtain ⟨t',rfl⟩:=ry;exact PySem.EqNone.eq_none_str (c9 I q (by simp))
  | _=>exact absurd (show false=true from hs) Bool.false_ne_true
 | bl i=>
  cases rx
  cases y with
  | non=>cases ry;exact PySem.EqNone.eq_bool_none (c9 I q (by simp))
  | bl j=>cases ry;exact eq_bool (c9 I q a90)
  | str j=>obtain ⟨t',rfl⟩:=ry;exact PySem.EqMixed.eq_bool_str (c9 I q (by simp))
  | _=>exact absurd (show false=true from hs) Bool.false_ne_true
 | int i=>
  obtain ⟨t,rfl⟩:=rx
  cases y with
  | non=>cases ry;exact PySem.EqNone.eq_int_none (c9 I q (by simp))
  | int j=>obtain ⟨t',rfl⟩:=ry;exact eq_int (c9 I q a5z)
  | str j=>obtain ⟨t',rfl⟩:=ry;exact PySem.EqMixed.eq_int_str (c9 I q (by simp))
  | _=>exact absurd (show false=true from hs) Bool.false_ne_true
 | str i=>
  obtain ⟨t,rfl⟩:=rx
  cases y with
  | non=>cases ry;exact PySem.EqNone.eq_str_none (c9 I q (by simp))
  | bl j=>cases ry;exact PySem.EqMixed.eq_str_bool (c9 I q (by simp))
  | int j=>obtain ⟨t',rfl⟩:=ry;exact PySem.EqMixed.eq_str_int (c9 I q (by simp))
  | str j=>obtain ⟨t',rfl⟩:=ry;exact eq_str (c9 I q a6h)
  | _=>exact absurd (show false=true from hs) Bool.false_ne_true
 | byt i=>
  obtain ⟨t,rfl⟩:=rx
  cases y with
  | byt j=>obtain ⟨t',rfl⟩:=ry;exact PySem.W.eq_bytes (c9 I q a5m)
  | _=>exact absurd (show false=true from hs) Bool.false_ne_true
 | _=>cases y <;> exact absurd (show false=true from hs) Bool.false_ne_true
theorem c0f:OpR X (compareOp .NotEq) rNe:=by
 intro pins s σ H x y v u Q I rx ry h
 obtain ⟨hs,q⟩:=h
 cases x with
 | non=>
  cases rx
  cases y with
  | non=>cases ry;exact PySem.EqNone.ne_none_none (c9 I q (by simp))
  | bl j=>cases ry;exact PySem.EqNone.ne_none_bool (c9 I q (by simp))
  | int j=>obtain ⟨t',rfl⟩:=ry;exact PySem.EqNone.ne_none_int (c9 I q (by simp))
  | str j=>obtain ⟨t',rfl⟩:=ry;exact PySem.EqNone.ne_none_str (c9 I q (by simp))
  | _=>exact absurd (show false=true from hs) Bool.false_ne_true
 | bl i=>
  cases rx
  cases y with
  | non=>cases ry;exact PySem.EqNone.ne_bool_none (c9 I q (by simp))
  | bl j=>cases ry;exact ne_bool (c9 I q (congrArg not a90))
  | str j=>obtain ⟨t',rfl⟩:=ry;exact PySem.EqMixed.ne_bool_str (c9 I q (by simp))
  | _=>exact absurd (show false=true from hs) Bool.false_ne_true
 | int i=>
  obtain ⟨t,rfl⟩:=rx
  cases y with
  | non=>cases ry;exact PySem.EqNone.ne_int_none (c9 I q (by simp))
  | int j=>obtain ⟨t',rfl⟩:=ry;exact ne_int (c9 I q (congrArg not a5z))
  | str j=>obtain ⟨t',rfl⟩:=ry;exact PySem.EqMixed.ne_int_str (c9 I q (by simp))
  | _=>exact absurd (show false=true from hs) Bool.false_ne_true
 | str i=>
  obtain ⟨t,rfl⟩:=rx
  cases y with
  | non=>cases ry;exact PySem.EqNone.ne_str_none (c9 I q (by simp))
  | bl j=>cases ry;exact PySem.EqMixed.ne_str_bool (c9 I q (by simp))
  | int j=>obtain ⟨t',rfl⟩:=ry;exact PySem.EqMixed.ne_str_int (c9 I q (by simp))
  | str j=>obtain ⟨t',rfl⟩:=ry;exact ne_str (c9 I q (congrArg not a6h))
  | _=>exact absurd (show false=true from hs) Bool.false_ne_true
 | byt i=>
  obtain ⟨t,rfl⟩:=rx
  cases y with
  | byt j=>obtain ⟨t',rfl⟩:=ry;exact PySem.W.ne_bytes (c9 I q (congrArg not a5m))
  | _=>exact absurd (show false=true from hs) Bool.false_ne_true
 | _=>cases y <;> exact absurd (show false=true from hs) Bool.false_ne_true
theorem c1y:OpR X (compareOp .Lt) (rI0 λi j=>.bl (decide (i<j))):=b5f λ_ _ _ _ _ _ _ q=>lt_int q
theorem c2x:OpR X (compareOp .LtE) (rI0 λi j=>.bl (decide (i<=j))):=b5f λ_ _ _ _ _ _ _ q=>le_int q
theorem c0e:OpR X (compareOp .Gt) (rI0 λi j=>.bl (decide (j<i))):=b5f λ_ _ _ _ _ _ _ q=>gt_int q
theorem b99:OpR X (compareOp .GtE) (rI0 λi j=>.bl (decide (j<=i))):=b5f λ_ _ _ _ _ _ _ q=>ge_int q
theorem b5g {op:CmpOp} {r:R2} (ho:OpR X (compareOp op) r) (ha:PE X a ta) (hb:PE X b tb) (hm:behindInMarks op b=false):PE X (.Compare a [op] [b] pos) (tOp r ta tb):=by
 intro pins s σ H Q I h
 exact wpAny_Compare1 (b9y ha hb I h λv u s2 x y H2 I2 rx ry q=>ho pins s2 σ H2 x y v u Q I2 rx ry q) hm
def b6n (t:TE):TT:=λσ H Q=>t σ H λx H'=>∃ k,x=.bl k/\Q k H'
theorem b3h {op:CmpOp} {r:R2} (ho:OpR X (compareOp op) r) (ha:PE X a ta) (hb:PE X b tb) (hm:behindInMarks op b=false):PT X (.Compare a [op] [b] pos) (b6n (tOp r ta tb)):=by
 intro pins s σ H Q I h
 refine wpAny_isTrue_Compare1 (thn (ha pins s σ H _ I h) λv s1 ⟨x,H1,I1,r1,q1⟩=>thn (hb pins s1 σ H1 _ I1 q1) λu s2 ⟨y,H2,I2,r2,q2⟩=>
  thn (ho pins s2 σ H2 x y v u _ I2 r1 r2 q2) λc s3 ⟨z,H3,I3,r3,k,e,q3⟩=>?_) hm
 subst e
 cases r3
 exact wpAny_truthy_bool ⟨H3,I3,q3⟩
def a1a (r r':R2) (ta tb tc:TE):TE:=λσ H Q=>ta σ H λx H1=>tb σ H1 λy H2=>r x y H2 λz H3=>∃ k,z=.bl k /\
 (if k=true then tc σ H3 λw' H4=>r' y w' H4 Q else Q (.bl false) H3)
theorem b0m {op op':CmpOp} {r r':R2} (ho:OpR X (compareOp op) r) (ho':OpR X (compareOp op') r') (ha:PE X a ta) (hb:PE X b tb) (hc:PE X c tc)
  (hm:lastMarks [op,op'] [b,c]=false:=by with_unfolding_all rfl):PE X (.Compare a [op,op'] [b,c] pos) (a1a r r' ta tb tc):=by
 intro pins s σ H Q I h
 refine Compare_chain (thn (ha pins s σ H _ I h) λv s1 ⟨x,H1,I1,r1,q1⟩=>chain_link (thn (hb pins s1 σ H1 _ I1 q1) λu s2 ⟨y,H2,I2,r2,q2⟩=>
  thn (ho pins s2 σ H2 x y v u _ I2 r1 r2 q2) λd s3 ⟨z,H3,I3,r3,k,e,q3⟩=>?_)) hm
 subst e
 cases r3
 refine wpAny_truthy_bool ?_
 cases k with
 | false=>exact ite_ff ⟨.bl false,H3,I3,rfl,q3⟩
 | true=>exact ite_tt (chain_last (thn (hc pins s3 σ H3 _ I3 q3) λw' s4 ⟨z',H4,I4,r4,q4⟩=>ho' pins s4 σ H4 y z' u w' Q I4 r2 r4 q4))
theorem a9m {op op':CmpOp} {r r':R2} (ho:OpR X (compareOp op) r) (ho':OpR X (compareOp op') r') (ha:PE X a ta) (hb:PE X b tb) (hc:PE X c tc)
  (hm:lastMarks [op,op'] [b,c]=false:=by with_unfolding_all rfl):PT X (.Compare a [op,op'] [b,c] pos) (b6n (a1a r r' ta tb tc)):=by
 intro pins s σ H Q I h
 refine isTrue_chain (thn (ha pins s σ H _ I h) λv s1 ⟨x,H1,I1,r1,q1⟩=>test_link (thn (hb pins s1 σ H1 _ I1 q1) λu s2 ⟨y,H2,I2,r2,q2⟩=>
  thn (ho pins s2 σ H2 x y v u _ I2 r1 r2 q2) λd s3 ⟨z,H3,I3,r3,k,e,q3⟩=>?_)) hm
 subst e
 cases r3
 refine wpAny_truthy_bool ?_
 cases k with
 | false=>
  obtain ⟨k',e',q'⟩:=q3
  cases e'
  exact ite_ff ⟨H3,I3,q'⟩
 | true=>
  refine ite_tt (test_last (thn (hc pins s3 σ H3 _ I3 q3) λw' s4 ⟨z',H4,I4,r4,q4⟩=>thn (ho' pins s4 σ H4 y z' u w' _ I4 r2 r4 q4) λd' s5 ⟨z2,H5,I5,r5,k2,e2,q5⟩=>?_))
  subst e2
  cases r5
  exact wpAny_truthy_bool ⟨H5,I5,q5⟩
def a7i (K:PySem.W.Frag) (x:V) (H:Hp) (k:Bool):Prop:=
 match x with
 | .non=>k=false
 | .bl b=>k=b
 | .int i=>k=(i != 0)
 | .str y=>y.length<=sizeLine/\k=((y.length:Int) != 0)
 | .byt y=>y.size<=sizeLine/\k=((y.size:Int) != 0)
 | .ref p=>(∃ xs,SqL K H p xs/\k=!xs.isEmpty)\/(∃ xs,SqT K H p xs/\k=!xs.isEmpty)\/∃ kvs,H p=some (.dK kvs)/\k=!kvs.isEmpty
 | _=>False
theorem a4j {κ:Type} {kvs:List (κ×V)} {vs:List (κ×Value)} (r:KV kvs vs):(!vs.isEmpty)=!kvs.isEmpty:=by
 cases r <;> rfl
theorem X6 {xs:List V} {its:List Value} (r:Vals xs its):(!its.toArray.isEmpty)=!xs.isEmpty:=by
 cases r <;> simp
theorem O6:(sizeLine:Nat)<2 ^ 63:=by rw [sizeLine_eq];decide
theorem a1g:c3s X (λx H Q=>∃ k,a7i X.K x H k/\Q k H):=by
 intro pins s σ H x v Q I rx h
 obtain ⟨k,e,q⟩:=h
 have hl:=O6
 have hs:sizeLine=16777216:=sizeLine_eq
 cases x with
 | non=>
  cases rx
  have e':k=false:=e
  subst e'
  exact truthy_none ⟨H,I,q⟩
 | bl b=>
  cases rx
  have e':k=b:=e
  subst e'
  exact wpAny_truthy_bool ⟨H,I,q⟩
 | int i=>
  obtain ⟨t,rfl⟩:=rx
  have e':k=(i != 0):=e
  subst e'
  exact PySem.P.truthy_int ⟨H,I,q⟩
 | str y=>
  obtain ⟨t,rfl⟩:=rx
  obtain ⟨hy,e'⟩:y.length<=sizeLine/\k=((y.length:Int) != 0):=e
  subst e'
  exact PySem.P.truthy_str (by omega) ⟨H,I.tok _,q⟩
 | byt y=>
  obtain ⟨t,rfl⟩:=rx
  obtain ⟨hy,e'⟩:y.size<=sizeLine/\k=((y.size:Int) != 0):=e
  subst e'
  exact PySem.W.truthy_bytes (by omega) ⟨H,I.tok _,q⟩
 | ref p=>
  cases rx
  have e':(∃ xs,SqL X.K H p xs/\k=!xs.isEmpty)\/(∃ xs,SqT X.K H p xs/\k=!xs.isEmpty)\/∃ kvs,H p=some (.dK kvs)/\k=!kvs.isEmpty:=e
  rcases e' with ⟨xs,hx,e'⟩ | ⟨xs,hx,e'⟩ | ⟨kvs,hx,e'⟩
  ·subst e'
   obtain ⟨its,r,pl,hz⟩:=I.list hx
   have hlen:=r.length
   exact wpAny_truthy_list pl.isList (by simp only [List.size_toArray];omega) ⟨H,I.tok _,by rw [X6 r];exact q⟩
  ·subst e'
   obtain ⟨its,r,pl,hz⟩:=I.tuple hx
   have hlen:=r.length
   exact truthy_tuple pl (by simp only [List.size_toArray];omega) ⟨H,I.tok _,by rw [X6 r];exact q⟩
  ·subst e'
   obtain ⟨hz,hS,vs,r,m⟩:kvs.length<=sizeLine/\(p==sysModules)=false/\∃ vs,KV kvs vs/\s.heap.DictOf (j4 X.prog X.w) p vs:=I.hok p _ hx
   have hlen:kvs.length=vs.length:=Paired.length r
   exact wpAny_truthy_dict hS m (by omega) ⟨H,I.tok _,by rw [a4j r];exact q⟩
 | _=>exact (show False from e).elim
theorem b0f (ha:PE X a ta) (he:∀ whole,isTrue a X.env whole=(do let v <- whole;standAt a.pos;holding [v] (truthy v))) :
  PT X a (λσ H Q=>ta σ H λx H'=>∃ k,a7i X.K x H' k/\Q k H'):=by
 intro pins s σ H Q I h
 exact isTrue_plain (thn (ha pins s σ H _ I h) λv s1 ⟨x,H1,I1,r1,q1⟩=>a1g pins s1 σ H1 x v Q I1 r1 q1) (he _)
theorem a5f:OpR X (binaryOp .Add) (λx y H Q=>∃ i j,x=.str i/\y=.str j/\i.length+j.length<=sizeLine/\Q (.str (i++j)) H):=by
 intro pins s σ H x y v u Q I rx ry h
 obtain ⟨i,j,rfl,rfl,hz,q⟩:=h
 obtain ⟨t,rfl⟩:=rx
 obtain ⟨t',rfl⟩:=ry
 exact add_str (λt' tk=>⟨.str (i++j),H,I.tok _,⟨_,rfl⟩,q⟩) hz
theorem E1 {x:V} {us:List Value} (r:Vals [x] us):∃ u,us=[u]/\RelV x u:=by
 cases r with
 | cons r1 r2=>cases r2;exact ⟨_,rfl,r1⟩
theorem b10 {x y:V} {us:List Value} (r:Vals [x,y] us):∃ u w',us=[u,w']/\RelV x u/\RelV y w':=by
 cases r with
 | cons r1 r2=>
  cases r2 with
  | cons r3 r4=>cases r4;exact ⟨_,_,rfl,r1,r3⟩
theorem a7s (hc:X.calm=true):i5 X (.builtin "max") (λxs H Q=>∃ i j,xs=[.int i,.int j]/\Q (.int (if j > i then j else i)) H):=by
 intro pins s σ H xs us Q I r h
 obtain ⟨i,j,rfl,q⟩:=h
 obtain ⟨u,w',rfl,⟨t,rfl⟩,⟨t',rfl⟩⟩:=b10 r
 refine max_two_ints (I.ok.hd hc) λh' tk k=>⟨_,H,I.kept k,?_,q⟩
 by_cases hj:j > i
 ·rw [if_pos hj,if_pos hj];exact ⟨_,rfl⟩
 ·rw [if_neg hj,if_neg hj];exact ⟨_,rfl⟩
theorem a1u:i5 X (.type "str") (λxs H Q=>∃ i,xs=[.int i]/\i.natAbs.log2<1920/\Q (.str (toString i)) H):=by
 intro pins s σ H xs us Q I r h
 obtain ⟨i,rfl,hz,q⟩:=h
 obtain ⟨u,rfl,t,rfl⟩:=E1 r
 exact PySem.P.str_of_int hz ⟨.str _,H,I.tok _,⟨_,rfl⟩,q⟩
end
theorem a7e {h:Heap} {dx:Addr} {mA:Str->Option Value} (n:h.Ns1 dx mA):∃ od,h.get? dx=some od/\∀ name,PySem.W.lookIn name od=some (mA name):=by
 obtain ⟨o,es,ep,ho,hd,hk,_,hm⟩:=n
 refine ⟨o,ho,λname=>?_⟩
 have e:=hm name
 unfold nsFind findBy at e
 rw [<- Array.find?_toList] at e
 unfold PySem.W.lookIn
 rw [hd]
 dsimp only
 split
 ·rename_i y q
  rw [q] at e
  exact congrArg some e
 ·rename_i q
  rw [q] at e
  have a:es.toList.any (·.refKey)=false:=by
   rw [List.any_eq_false]
   intro y hy
   obtain ⟨z,t,hkey⟩:=hk y (Array.mem_toList_iff.mp hy)
   simp [DictEntry.refKey,hkey]
  have a':¬ es.toList.any (·.refKey)=true:=by rw [a];exact Bool.false_ne_true
  rw [if_neg a']
  exact congrArg some e
theorem RelO.some_of {v:V} {o:Option Value} (r:RelO (some v) o):∃ u,o=some u/\RelV v u:=by
 cases o with
 | none=>exact (show False from r).elim
 | some u=>exact ⟨u,rfl,r⟩
def D4 (K:PySem.W.Frag) (C:Addr) (f:Str):Prop:=PySem.W.findIn K (.ref C) f=some none
structure Room (q:Bool) (k:Nat) (A:Around):Prop where
 hd:q=false->A.handled=none
 dp:A.depth+3 * k+5<recursionLimit
 un:A.units+16 * k+200<cLine
 gd:A.guards=some []
theorem Room.any {q:Bool} {k:Nat} {A:Around} (r:Room false k A):Room q k A:=⟨λ_=>r.hd rfl,r.dp,r.un,r.gd⟩
theorem Room.deeper {q:Bool} {k:Nat} {A:Around} (r:Room q (k+1) A) (env:Env):Room q k (A.deeper env):=
 ⟨r.hd,by have:=r.dp;show A.depth+1+3 * k+5<_;omega,by have:=r.un;show A.units+3+16 * k+200<_;omega,r.gd⟩
theorem Room.depth {q:Bool} {k:Nat} {A:Around} (r:Room q k A):A.depth<recursionLimit:=by have:=r.dp;omega
theorem Room.units {q:Bool} {k:Nat} {A:Around} (r:Room q k A):A.units+64<cLine:=by have:=r.un;omega
def tNil:TA:=λ_ H Q=>Q [] H
def c24 (ta:TE) (tr:TA):TA:=λσ H Q=>ta σ H λx H1=>tr σ H1 λxs H2=>Q (x :: xs) H2
section
variable {X:Cx} {e:Expr} {es:List Expr} {te:TE} {t:TA} {pos:Pos}
theorem b2o:PA X [] tNil:=λ_ _ _ _ H Q I h=>Calls.spliced_nil ⟨[],H,I,.nil,h⟩
theorem a1j (ha:PE X e te) (hr:PA X es t) (hs:starEach (e :: es) X.env=(false,eval e X.env) :: starEach es X.env:=by rfl):PA X (e :: es) (c24 te t):=by
 intro pos pins s σ H Q I h
 rw [hs]
 show wpAny _ _ (spliced ((false,eval e X.env) :: backTo pos (starEach es X.env))) _ _ s
 refine Calls.spliced_cons (thn (ha pins s σ H _ I h) λu s1 ⟨x,H1,I1,r1,q1⟩=>?_)
 exact thn (hr pos pins s1 σ H1 _ I1 q1) λus s2 ⟨xs,H2,I2,r2,q2⟩=>⟨x :: xs,H2,I2,.cons r1 r2,q2⟩
def c3r (t:TA):TE:=λσ H Q=>t σ H λxs H1=>xs.length<=sizeLine/\∀ p,H1 p=none->Q (.ref p) (upd H1 p (.tup xs))
def c4q (t:TA):TE:=λσ H Q=>t σ H λxs H1=>xs.length<=sizeLine/\∀ p,H1 p=none->Q (.ref p) (upd H1 p (.lst xs))
theorem b66 {x1} (h:PA X es t):PE X (.Tuple es x1 pos) (c3r t):=by
 intro pins s σ H Q I hq
 refine wpAny_Tuple_spliced (thn (h pos pins s σ H _ I hq) λus s1 ⟨xs,H1,I1,r,z,q⟩=>⟨by rw [<- r.length];exact z,?_⟩)
 have hf:H1 s1.heap.objs.size=none:=I1.hok.fresh (Nat.le_refl _)
 refine ⟨.ref s1.heap.objs.size,upd H1 s1.heap.objs.size (.tup xs),I1.laid (t':=s1.toks) (λb u e=>Heap.get?_push_of_some _ e) (Nat.le_refl _) ?_,rfl,q _ hf⟩
 exact ⟨z,us,r,⟨_,Heap.get?_push_size _ rfl,rfl,_,rfl,rfl⟩⟩
theorem b1c (h:PA X es t):PE X (.List es pos) (c4q t):=by
 intro pins s σ H Q I hq
 refine wpAny_List_spliced (thn (h pos pins s σ H _ I hq) λus s1 ⟨xs,H1,I1,r,z,q⟩=>⟨by rw [<- r.length];exact z,?_⟩)
 have hf:H1 s1.heap.objs.size=none:=I1.hok.fresh (Nat.le_refl _)
 refine ⟨.ref s1.heap.objs.size,upd H1 s1.heap.objs.size (.lst xs),I1.laid (t':=s1.toks) (λb u e=>Heap.get?_push_of_some _ e) (Nat.le_refl _) ?_,rfl,q _ hf⟩
 exact ⟨z,us,0,r,Heap.get?_push_size _ rfl⟩
end
noncomputable abbrev Sp:=List V->Hp->VK->XK->Prop
structure CXT where
 cx:List Env->Hp->Shared->XK->Value->Shared->Prop
 q:Bool
instance:CoeFun CXT λ_=>List Env->Hp->Shared->XK->Value->Shared->Prop:=⟨CXT.cx⟩
structure Env0 (P:Program) (w:World) (K:PySem.W.Frag) (mg:Str->Option Value) (base:Heap) (A:Around) (outer:List Env) (s:Shared) (H:Hp):Prop where
 frames:A.frames=some outer
 mod:Mod K mg base
 bs:∀ b o,base.get? b=some o->s.heap.get? b=some o/\H b=none
 bsz:base.objs.size<=s.heap.objs.size
 funs:s.heap.FunFrames base outer
 frf:∀ b∈frs outer,H b=none
 hok:HOk P w H s.heap
 bare:AllBare s.gens
def CE (outer:List Env) (P:Program) (w:World) (H:Hp) (s:Shared) (Q:VK) (u:Value) (s':Shared):Prop:=
 ∃ v H',s'.os=s.os/\AllBare s'.gens/\Un (frs outer) [] H H' s.heap s'.heap/\HOk P w H' s'.heap/\RelV v u/\Q v H'
def CR (CX:CXT) (outer:List Env) (P:Program) (w:World) (H:Hp) (s:Shared) (Q:VK) (E:XK) (r:Result) (s':Shared):Prop:=
 match r with
 | .ok (.ret u)=>CE outer P w H s Q u s'
 | .ok _=>False
 | .error e=>CX outer H s E e s'
structure FnOk (P:Program) (w:World) (K:PySem.W.Frag) (mg:Str->Option Value) (base:Heap) (CX:CXT) (k:Nat) (f:Addr) (fd:FuncData) (ps:List Str) (sp:Sp):Prop where
 len:∀ vs H Q E,sp vs H Q E->vs.length=ps.length
 run:∀ (A:Around) (outer:List Env) (s:Shared) (H:Hp) (args:Args) (us:List Value) (vs:List V) (Q:VK) (E:XK),Room CX.q k A->Env0 P w K mg base A outer s H->BindsTo s fd args (ps.zip us)->Vals vs us->sp vs H Q E ->
  codeAny (model P w) A (.call (.ref f) args) (CR CX outer P w H s Q E) s
theorem FnOk.imp {P:Program} {w:World} {K:PySem.W.Frag} {mg:Str->Option Value} {base:Heap} {CX:CXT} {k:Nat} {f:Addr} {fd:FuncData} {ps:List Str} {sp sp':Sp} (F:FnOk P w K mg base CX k f fd ps sp)
  (h:∀ vs H Q E,sp' vs H Q E->sp vs H Q E):FnOk P w K mg base CX k f fd ps sp':=
 ⟨λvs H Q E q=>F.len vs H Q E (h _ _ _ _ q),λA outer s H args us vs Q E hr he hb hv hs=>F.run A outer s H args us vs Q E hr he hb hv (h _ _ _ _ hs)⟩
section
variable {X:Cx} {pins:List (Addr×Obj)} {σ:St} {H:Hp} {s s':Shared}
theorem Inv.env0 (I:Inv X pins σ H s):Env0 X.prog X.w X.K X.mg X.base X.A X.stack s H:=
 ⟨I.ok.frames,I.ok.mod,I.bs,Nat.le_trans I.ok.bsz I.sz,I.stack,I.stkFree,I.hok,I.bare⟩
theorem Inv.after {Q:VK} {u:Value} (I:Inv X pins σ H s) (h:CE X.stack X.prog X.w H s Q u s'):EP X pins σ Q u s':=by
 obtain ⟨v,H',os,bare,un,hok,r,q⟩:=h
 obtain ⟨hh,g,d,t,os'⟩:=s'
 obtain rfl:os'=s.os:=os
 exact ⟨v,H',I.call (h':=hh) (g':=g) (d':=d) (t':=t) (ch:=[]) un hok bare (λb z=>absurd z (by simp)),r,q⟩
end
def b55 (sp:Sp) (dvs:List V) (E:XK) (t:TA):TE:=λσ H Q=>t σ H λvs H1=>sp (vs++dvs) H1 Q E
def Binds (K:PySem.W.Frag) (fd:FuncData) (ps:List Str) (ds:List Value):Prop:=
 ∀ (s:Shared) (us:List Value),K.In s.heap->(us++ds).length=ps.length->BindsTo s fd ⟨us,[]⟩ (ps.zip (us++ds))
theorem Binds.all {K:PySem.W.Frag} {fd:FuncData} {ps:List Str} (h:∀ us:List Value,us.length=ps.length->bindArgs fd ⟨us,[]⟩=pure (ps.zip us)):Binds K fd ps []:=λs us _ hl=>by
 rw [List.append_nil] at hl ⊢
 exact .of_eq (h us hl)
def a13 (CX:CXT) (X:Cx) (E:XK):Prop:=∀ (pins:List (Addr×Obj)) (σ:St) (H:Hp) (s:Shared) (e:Value) (s':Shared),Inv X pins σ H s->CX X.stack H s E e s'->X.xe e s'
section
variable {X:Cx} {CX:CXT} {k:Nat} {f C:Addr} {fd:FuncData} {ps:List Str} {sp:Sp} {dvs:List V} {ds:List Value} {E:XK} {x m:Str} {p pos apos:Pos} {e o:Expr} {es:List Expr} {ta:TE} {t:TA}
theorem b0z {pins:List (Addr×Obj)} {σ:St} {H:Hp} {s:Shared} {Q:VK} {us:List Value} {vs:List V} (F:FnOk X.prog X.w X.K X.mg X.base CX k f fd ps sp) (hr:Room CX.q k X.A) (hb:Binds X.K fd ps ds) (hd:Vals dvs ds) (hx:a13 CX X E)
  (I:Inv X pins σ H s) (r:Vals vs us) (h:sp (vs++dvs) H Q E):wpAny (model X.prog X.w) X.A (call (.ref f) us) (EP X pins σ Q) X.xe s:=by
 have r2:Vals (vs++dvs) (us++ds):=r.append hd
 have hl:(us++ds).length=ps.length:=by rw [<- r2.length];exact F.len _ _ _ _ h
 refine wpAny_call (codeAny_mono (F.run X.A X.stack s H ⟨us,[]⟩ (us++ds) (vs++dvs) Q E hr I.env0 (hb s us I.kIn hl) r2 h) λr s' hq=>?_)
 cases r with
 | error e=>exact hx pins σ H s e s' I hq
 | ok fl=>
  cases fl with
  | ret u=>exact I.after hq
  | next=>exact False.elim hq
  | brk=>exact False.elim hq
  | cont=>exact False.elim hq
theorem b36 (F:FnOk X.prog X.w X.K X.mg X.base CX k f fd ps sp) (hr:Room CX.q k X.A) (hg:Gl X x) (hm:X.mg x=some (.ref f)) (hk:PySem.W.keepIn X.K (.ref f)=true) (hb:Binds X.K fd ps ds) (hd:Vals dvs ds) (hx:a13 CX X E)
  (ha:PA X (e :: es) t) (hdb:(x==("__debug__" : Str))=false:=by decide) (he:starEach (e :: es) X.env=(false,eval e X.env) :: starEach es X.env:=by rfl) (hpl:(backTo pos (starEach es X.env)).any (·.1)=false:=by rfl) :
  PE X (.Call (.Name x p) (e :: es) [] pos) (b55 sp dvs E t):=by
 intro pins s σ H Q I h
 refine wpAny_Call_Name_kw (a1x I hg hm ?_ hdb)
 refine PySem.W.callWith_K (h₀:=X.base) I.ok.mod.kin hk (thn (ha pos pins s σ H _ I h) λus s1 ⟨vs,H1,I1,r,q⟩=>⟨I1.kIn,?_⟩) he hpl
 exact b0z F hr hb hd hx I1 r q
theorem b1b (F:FnOk X.prog X.w X.K X.mg X.base CX k f fd ps sp) (hr:Room CX.q k X.A) (hg:Gl X x) (hm:X.mg x=some (.ref f)) (hk:PySem.W.keepIn X.K (.ref f)=true) (hb:Binds X.K fd ps ds) (hd:Vals dvs ds) (hx:a13 CX X E)
  (hdb:(x==("__debug__" : Str))=false:=by decide):PE X (.Call (.Name x p) [] [] pos) (b55 sp dvs E tNil):=by
 intro pins s σ H Q I h
 refine wpAny_Call_Name_kw (a1x I hg hm ?_ hdb)
 exact PySem.W.callWith_K0 I.kIn hk (b0z (us:=[]) F hr hb hd hx I .nil h)
end
structure FnScope (N P:List Str) (sc:Scope):Prop where
 kind:sc.kind=.function
 co:sc.isCoroutine=false
 gen:sc.isGenerator=false
 nd:N.Nodup
 pre:N.take P.length=P
 par:∀ x∈P,sc.names.lookup x=some .local\/sc.names.lookup x=some .cell
 nofree:∀ y∈sc.names,y.2≠.free
theorem Z2 {kindOf:Str->Option NameKind} {x:Str}:∀ {binds:List (Str×Value)} {m:Str->Option Value},(∀ v,(x,v)∉binds)->bindL kindOf binds m x=m x
 | [],_,_=>rfl
 | (n,v) :: r,m,h=>by
  unfold bindL
  rw [Z2 λw hw=>h w (List.mem_cons_of_mem _ hw)]
  split
  ·have:x≠n:=by rintro rfl;exact h v List.mem_cons_self
   simp [this]
  ·rfl
theorem Z5 {kindOf:Str->Option NameKind} {x:Str}:∀ {binds:List (Str×Value)} {m:Str->Option Value},(∀ v,(x,v)∉binds)->bindC kindOf binds m x=m x
 | [],_,_=>rfl
 | (n,v) :: r,m,h=>by
  unfold bindC
  rw [Z5 λw hw=>h w (List.mem_cons_of_mem _ hw)]
  split
  ·rfl
  ·have:x≠n:=by rintro rfl;exact h v List.mem_cons_self
   simp [this]
theorem a0p {kindOf:Str->Option NameKind} {x:Str} {v:Value}:∀ {P:List Str} {vs:List Value} {i:Nat} {m:Str->Option Value},P.Nodup->P[i]?=some x->vs[i]?=some v->kindOf x=some .local ->
  bindL kindOf (P.zip vs) m x=some v
 | [],_,_,_,_,h,_,_=>by simp at h
 | _ :: _,[],_,_,_,_,h,_=>by simp at h
 | p :: P,w :: vs,0,m,nd,h1,h2,hk=>by
  simp at h1 h2;subst h1;subst h2
  show bindL kindOf ((p,w) :: P.zip vs) m p=_
  unfold bindL
  rw [Z2 λv hv=>(List.nodup_cons.mp nd).1 (List.of_mem_zip hv).1,if_pos hk]
  simp
 | p :: P,w :: vs,i+1,m,nd,h1,h2,hk=>by
  show bindL kindOf ((p,w) :: P.zip vs) m x=_
  unfold bindL
  exact a0p (i:=i) (List.nodup_cons.mp nd).2 (by simpa using h1) (by simpa using h2) hk
theorem a0q {kindOf:Str->Option NameKind} {x:Str} {v:Value}:∀ {P:List Str} {vs:List Value} {i:Nat} {m:Str->Option Value},P.Nodup->P[i]?=some x->vs[i]?=some v->kindOf x≠some .local ->
  bindC kindOf (P.zip vs) m x=some v
 | [],_,_,_,_,h,_,_=>by simp at h
 | _ :: _,[],_,_,_,_,h,_=>by simp at h
 | p :: P,w :: vs,0,m,nd,h1,h2,hk=>by
  simp at h1 h2;subst h1;subst h2
  show bindC kindOf ((p,w) :: P.zip vs) m p=_
  unfold bindC
  rw [Z5 λv hv=>(List.nodup_cons.mp nd).1 (List.of_mem_zip hv).1,if_neg hk]
  simp
 | p :: P,w :: vs,i+1,m,nd,h1,h2,hk=>by
  show bindC kindOf ((p,w) :: P.zip vs) m x=_
  unfold bindC
  exact a0q (i:=i) (List.nodup_cons.mp nd).2 (by simpa using h1) (by simpa using h2) hk
noncomputable def start (N:List Str) (vs:List V):St:=vs.map some++List.replicate (N.length-vs.length) none
noncomputable def Y2 (CX:CXT) (P:Program) (w:World) (K:PySem.W.Frag) (mg:Str->Option Value) (base:Heap) (N:List Str) (qual:Str) (scope:Scope) (f:Addr) (cd:Value) (A:Around) (outer:List Env) (s:Shared) (H:Hp) (E:XK):Cx where
 prog:=P
 w:=w
 K:=K
 mg:=mg
 base:=base
 A:=A.deeper (envOfC qual scope s.heap.objs.size f cd)
 N:=N
 s₀:=s
 H₀:=H
 env:=envOfC qual scope s.heap.objs.size f cd
 outer:=outer
 stack:=envOfC qual scope s.heap.objs.size f cd :: outer
 ex:=[]
 calm:=!CX.q
 fn:=λ_=>true
 pn:=[]
 xe:=λe s'=>wpAny (model P w) (A.deeper (envOfC qual scope s.heap.objs.size f cd)) (leaving (envOfC qual scope s.heap.objs.size f cd) e) (λ_ s''=>CX outer H s E e s'') (λe' s''=>CX outer H s E e' s'') s'
theorem a28 {sc:Scope} {n:Nat} {x:Str} (h:sc.names.lookup x=some .cell):∃ c,(cellsFrom n sc.names []).lookup x=some c:=by
 have q:=PySem.W.cellsFrom_some sc.names n [] (.inl h)
 exact Option.isSome_iff_exists.mp q
theorem a8p {CX:CXT} {P:Program} {w:World} {K:PySem.W.Frag} {mg:Str->Option Value} {base:Heap} {N ps:List Str} {qual:Str} {scope:Scope} {f:Addr} {cd:Value} {A:Around} {outer:List Env} {s s1:Shared} {H:Hp} {E:XK} {us:List Value} {vs:List V}
  (S:FnScope N ps scope) (hd:CX.q=false->A.handled=none) (e0:Env0 P w K mg base A outer s H) (hl:vs.length=ps.length) (r:Vals vs us)
  (x:InCallC s s.heap.objs.size (bindL (envOfC qual scope s.heap.objs.size f cd).kindOf (ps.zip us) λ_=>none) (cellsFrom (s.heap.objs.size+1) scope.names []) (bindC (envOfC qual scope s.heap.objs.size f cd).kindOf (ps.zip us) λ_=>none) s1) :
  Inv (Y2 CX P w K mg base N qual scope f cd A outer s H E) [] (start N vs) H s1:=by
 have hpl:ps.length<=N.length:=by have:=congrArg List.length S.pre;rw [List.length_take] at this;omega
 obtain ⟨h1,tk,rfl,hk⟩:=x.done
 have noA:∀ b:Addr,b∉(Y2 CX P w K mg base N qual scope f cd A outer s H E).ex:=λb z=>absurd (show b∈([]:List Addr) from z) (by simp)
 refine ⟨⟨e0.mod,S.kind,rfl,rfl,Nat.le_refl _,λy z c h1 h2=>?_,λy hy=>?_,λy c _ h=>?_,λz=>hd (by have z:(!CX.q)=true:=z;simpa using z),Around.frames_deeper e0.frames,.inr ⟨rfl,rfl⟩,λb z=>absurd z (noA b),e0.bs,e0.bsz,λb _ _=>noA b,λb z=>absurd z (noA b),e0.funs,e0.frf⟩,
  rfl,e0.bare,Un.kept hk,⟨_,x.toInCall.ns,λi y v h1 h2 h3=>?_⟩,λy c h=>⟨_,x.cell y c h⟩,e0.hok.fresh (Nat.le_refl _),λy c h=>?_,λp hp=>absurd (show p∈([]:List (Addr×Obj)) from hp) (by simp),e0.hok.kept hk,?_⟩
 ·exact name_of_addr x.apart (PySem.mem_of_lookup h1) (PySem.mem_of_lookup h2)
 ·have hy:scope.names.lookup y=some .cell\/scope.names.lookup y=some .free:=hy
  rcases hy with hy | hy
  ·exact a28 hy
  ·exact absurd rfl (S.nofree _ (PySem.mem_of_lookup hy))
 ·exact Nat.le_of_lt (x.above y c (PySem.mem_of_lookup h))
 ·have hi:i<vs.length:=by
   unfold start at h2
   by_cases hi:i<vs.length
   ·exact hi
   ·rw [List.getElem?_append_right (by simpa using hi)] at h2
    rw [List.getElem?_replicate] at h2
    split at h2 <;> cases h2
  have ha:vs[i]?=some v:=by
   unfold start at h2
   rw [List.getElem?_append_left (by simpa using hi),List.getElem?_map] at h2
   cases e:vs[i]? with
   | none=>rw [e] at h2;cases h2
   | some a=>rw [e] at h2;cases h2;rfl
  obtain ⟨u,hu,rv⟩:=r.get ha
  have hp:ps[i]?=some y:=by
   rw [<- S.pre,List.getElem?_take_of_lt (by omega)];exact h1
  have ndP:ps.Nodup:=by rw [<- S.pre];exact S.nd.sublist (List.take_sublist _ _)
  refine ⟨u,rv,?_⟩
  rcases S.par y (List.mem_of_getElem? hp) with k | k
  ·exact .inl ⟨k,a0p ndP hp hu k⟩
  ·obtain ⟨c,e⟩:=a28 (n:=s.heap.objs.size+1) k
   refine .inr ⟨.inl k,c,e,?_⟩
   have q:=x.cell y c e
   rw [a0q ndP hp hu (by show scope.names.lookup y≠_;rw [k];decide)] at q
   exact q
 ·exact e0.hok.fresh (Nat.le_of_lt (x.above y c (PySem.mem_of_lookup h)))
 ·unfold start
  show _=N.length
  rw [List.length_append,List.length_map,List.length_replicate]
  omega
theorem c2c {CX:CXT} {P:Program} {w:World} {K:PySem.W.Frag} {mg:Str->Option Value} {base:Heap} {k:Nat} {f:Addr} {name qual:Str} {params:Arguments} {body:List Stmt} {scope:Scope} {dV kV doc pm cdv ct oc:Value} {an od:Option Addr}
  {osl:Array (Option Value)} {N ps:List Str} {sp:Sp} (lk:K.lookup f=some ⟨oc,od,.func (PySem.W.fnOf name qual params body scope dV kV doc pm an cdv ct),osl⟩) (hcd:PySem.W.codeIn K cdv qual=true) (S:FnScope N ps scope)
  (len:∀ vs H Q E,sp vs H Q E->vs.length=ps.length)
  (hbody:∀ (A:Around) (outer:List Env) (s:Shared) (H:Hp) (vs:List V) (Q:VK) (E:XK),Room CX.q k (A.deeper (envOfC qual scope s.heap.objs.size f cdv))->sp vs H Q E ->
   ∃ t,PSs (Y2 CX P w K mg base N qual scope f cdv A outer s H E) body t/\t { nx:=λ_ H'=>Q .non H',rt:=Q } (start N vs) H) :
  FnOk P w K mg base CX (k+1) f (PySem.W.fnOf name qual params body scope dV kV doc pm an cdv ct) ps sp:=by
 refine ⟨len,λA outer s H args us vs Q E hr e0 hb r hsp=>?_⟩
 have hl:=len _ _ _ _ hsp
 have KX:K.In s.heap:=e0.mod.kin.keeps λb o e=>(e0.bs b o e).1
 have lim:s.heap.NoLimit:=e0.mod.nolimit.keeps λb o e=>(e0.bs b o e).1
 have hkind:∀ y∈ps.zip us,scope.names.lookup y.1=some .local\/(scope.names.lookup y.1=some .cell/\((cellsFrom (s.heap.objs.size+1) scope.names []).lookup y.1).isSome=true):=λ⟨n,v⟩ hy=>by
  rcases S.par n (List.of_mem_zip hy).1 with q | q
  ·exact .inl q
  ·exact .inr ⟨q,PySem.W.cellsFrom_some _ _ _ (.inl q)⟩
 refine codeAny_call_function hr.depth (KX _ _ lk) rfl S.co S.gen rfl (PySem.W.codeRec_of KX hcd) (hb _ _ _ _ ?_)
 refine wpAny_newFunctionEnv_cells S.kind hkind λenv he s1 x=>?_
 subst he
 refine ⟨lim.keeps x.toInCall.keep,codeAny_func ?_⟩
 obtain ⟨t,ht,hq⟩:=hbody A outer s H vs Q E (hr.deeper _) hsp
 have I:Inv (Y2 CX P w K mg base N qual scope f cdv A outer s H E) [] (start N vs) H s1:=a8p S hr.hd e0 hl r x
 refine wpAny_mono (ht [] s1 (start N vs) H _ I hq) (λfl s' hs=>?_) λe s' hs=>hs
 have fin:∀ {σ':St} {H':Hp} {v:V} {u:Value},Inv (Y2 CX P w K mg base N qual scope f cdv A outer s H E) [] σ' H' s'->RelV v u->Q v H'->CE outer P w H s Q u s':=
  λ{σ' H' v u} J rv q=>⟨v,H',J.os,J.bare,J.base,J.hok,rv,q⟩
 cases fl with
 | ret u=>
  obtain ⟨v,σ',H',J,rv,q⟩:=hs
  exact fin J rv q
 | next=>
  obtain ⟨σ',H',J,q⟩:=hs
  exact fin (v:=V.non) (u:=Value.none) J rfl q
 | brk=>
  obtain ⟨_,_,_,q⟩:=hs
  exact False.elim q
 | cont=>
  obtain ⟨_,_,_,q⟩:=hs
  exact False.elim q
section
variable {X:Cx} {x:Str} {p pos:Pos} {e:Expr} {es:List Expr} {t:TA} {id T:String} {r:List V->Hp->VK->Prop}
def tCB (r:List V->Hp->VK->Prop) (t:TA):TE:=λσ H Q=>t σ H λvs H1=>r vs H1 Q
theorem a2y (hc:i5 X (.builtin id) r) (hg:Gl X x) (hm:X.mg x=none) (hv:bootBuiltins x=some (.builtin id)) (ha:PA X (e :: es) t) (hn:x ≠ "__name__":=by decide) (hdb:(x==("__debug__" : Str))=false:=by decide)
  (he:starEach (e :: es) X.env=(false,eval e X.env) :: starEach es X.env:=by rfl) (hpl:(backTo pos (starEach es X.env)).any (·.1)=false:=by rfl):PE X (.Call (.Name x p) (e :: es) [] pos) (tCB r t):=by
 intro pins s σ H Q I h
 refine wpAny_Call_Name_kw (y4 I hg hm hv ?_ hn hdb)
 exact PyProof.Rows.callWith_builtin1 (thn (ha pos pins s σ H _ I h) λus s1 ⟨vs,H1,I1,r1,q1⟩=>hc pins s1 σ H1 vs us Q I1 r1 q1) he hpl
theorem a8m (hc:i5 X (.type T) r) (hg:Gl X x) (hm:X.mg x=none) (hv:bootBuiltins x=some (.type T)) (ha:PA X (e :: es) t) (hn:x ≠ "__name__":=by decide) (hdb:(x==("__debug__" : Str))=false:=by decide)
  (he:starEach (e :: es) X.env=(false,eval e X.env) :: starEach es X.env:=by rfl) (hpl:(backTo pos (starEach es X.env)).any (·.1)=false:=by rfl):PE X (.Call (.Name x p) (e :: es) [] pos) (tCB r t):=by
 intro pins s σ H Q I h
 refine wpAny_Call_Name_kw (y4 I hg hm hv ?_ hn hdb)
 exact PyProof.Rows.callWith_type1 (thn (ha pos pins s σ H _ I h) λus s1 ⟨vs,H1,I1,r1,q1⟩=>hc pins s1 σ H1 vs us Q I1 r1 q1) he hpl
end
end L2
namespace HT
open PySem PyProof.Rows
section
variable {prog:Program} {w:World} {A:Around} {E:Value->Shared->Prop} {s:Shared}
theorem cat_tup {t b:Addr} {vs ws:List Value} {Q:Value->Shared->Prop} (ht:IsTup s.heap t vs.toArray) (hb:IsTup s.heap b ws.toArray) (hv:vs≠[])
  (h1:ws=[]->Q (.ref t) s) (h2:ws≠[]->Q (.ref s.heap.objs.size) { s with heap:=s.heap.push { cls:=.type "tuple",data:=.seq (vs++ws).toArray } })
  (hsz:vs.length+ws.length<=sizeLine):wpAny (model prog w) A (binaryOp .Add (.ref t) (.ref b)) Q E s:=by
 obtain ⟨⟨cls,dd,data,sl⟩,ho,hc,n,hd⟩:=id ht
 obtain ⟨⟨cls2,dd2,data2,sl2⟩,ho2,hc2,n2,hd2⟩:=id hb
 simp only at hc hd hc2 hd2
 subst hc hd hc2 hd2
 have e:vs.toArray++ws.toArray=(vs++ws).toArray:=by simp
 by_cases hw:ws=[]
 ·exact concat_meets ⟨_,ho,rfl⟩ ⟨_,ho2,rfl⟩ noFill_tuple_add seq_tuple_add PySem.F.slot_tuple_add PySem.F.entry_tuple_add (PySem.F.args_tuple_add_2 _ _)
   (tuple_addW1 t b vs.toArray ws.toArray n n2 dd dd2 sl sl2 (by simpa using hv) (by simp [hw])) ⟨ho,ho2,h1 hw⟩
 ·refine concat_meets ⟨_,ho,rfl⟩ ⟨_,ho2,rfl⟩ noFill_tuple_add seq_tuple_add PySem.F.slot_tuple_add PySem.F.entry_tuple_add (PySem.F.args_tuple_add_2 _ _)
   (tuple_addW2 t b vs.toArray ws.toArray n n2 dd dd2 sl sl2 (by simpa using hv) (by simpa using hw) (by rw [List.size_toArray,List.size_toArray];exact hsz)) ⟨ho,ho2,?_⟩
  rw [e]
  exact h2 hw
noncomputable def sIx (n d:Nat):Option Int->Nat
 | none=>d
 | some v=>if v<0 then (v+(n:Int)).toNat else min v.toNat n
theorem sIx_none (n d:Nat):sIx n d none=d:=rfl
theorem b7j (n d:Nat) (hd:d<=n) (o:Option Int):sIx n d o<=n:=by
 cases o with
 | none=>exact hd
 | some v=>
  show (if v<0 then (v+(n:Int)).toNat else min v.toNat n)<=n
  by_cases hv:v<0
  ·rw [if_pos hv];omega
  ·rw [if_neg hv];exact Nat.min_le_right _ _
theorem a6z (v:Int) (n d:Nat):(if v<0 then max (v+(n:Int)) 0 else min v (n:Int))=((sIx n d (some v):Nat):Int):=by
 show (if v<0 then max (v+(n:Int)) 0 else min v (n:Int))=(((if v<0 then (v+(n:Int)).toNat else min v.toNat n):Nat):Int)
 by_cases hv:v<0
 ·simp only [if_pos hv];omega
 ·simp only [if_neg hv];omega
theorem a4o (lo hi:Option Int) (n:Nat):Builtin.Slice.sliceAdjust lo hi 1 (n:Int)=(((sIx n 0 lo:Nat):Int),((sIx n n hi:Nat):Int)):=by
 have h1:¬ ((1:Int)<0):=by omega
 unfold Builtin.Slice.sliceAdjust
 simp only [h1,if_false]
 refine Prod.ext ?_ ?_
 ·cases lo with
  | none=>rfl
  | some v=>exact a6z v n 0
 ·cases hi with
  | none=>rfl
  | some v=>exact a6z v n n
theorem a5b (i j:Nat):Builtin.Slice.slicePlaces (i:Int) (j:Int) 1=j-i:=by
 unfold Builtin.Slice.slicePlaces
 have h1:(1:Int) > 0:=by omega
 simp only [h1,if_true,Int.ediv_one]
 split <;> omega
theorem U6 {v:Value} {o:Option Int} {Q:Option Int->Shared->Prop} (p:IsPart v o) (h:Q o s):wpAny (model prog w) A (Builtin.Slice.slicePartIndex v) Q E s:=by
 cases p with
 | none=>exact slicePart_none h
 | int i t=>exact slicePart_int h
theorem sliceApplied_gen {sl:Addr} {vl vu:Value} {lo hi:Option Int} {n:Nat} {Q:Int×Int×Nat->Shared->Prop} (hs:s.heap.IsSliceOf sl vl vu .none) (pl:IsPart vl lo) (pu:IsPart vu hi)
  (h:Q (((sIx n 0 lo:Nat):Int),1,sIx n n hi-sIx n 0 lo) s):wpAny (model prog w) A (Builtin.Slice.sliceApplied (.ref sl) (pure (n:Int))) Q E s:=by
 obtain ⟨os,hos,hcs,hds⟩:=id hs
 unfold Builtin.Slice.sliceApplied Builtin.Slice.sliceFields
 refine wpAny_bind (wpAny_bind (wpAny_field hos hds (x:=vl) rfl (wpAny_bind (wpAny_field hos hds (x:=vu) rfl (wpAny_bind (wpAny_field hos hds (x:=.none) rfl (wpAny_pure ?_)))))))
 refine wpAny_bind (slicePart_none ?_)
 show wpAny _ _ (if ((1:Int)==0)=true then _ else _) _ _ s
 rw [if_neg (by decide)]
 refine wpAny_bind (U6 pl (wpAny_bind (U6 pu (wpAny_bind (wpAny_pure ?_)))))
 show wpAny _ _ (match Builtin.Slice.sliceAdjust lo hi 1 (n:Int) with | (lo,hi)=>pure (lo,(1:Int),Builtin.Slice.slicePlaces lo hi 1)) _ _ s
 rw [a4o lo hi n]
 show wpAny _ _ (pure (((sIx n 0 lo:Nat):Int),(1:Int),Builtin.Slice.slicePlaces ((sIx n 0 lo:Nat):Int) ((sIx n n hi:Nat):Int) 1)) _ _ s
 rw [a5b]
 exact wpAny_pure h
theorem b0d (xs:Array Value) (i k:Nat):((List.range k).filterMap λ(m:Nat)=>xs[((i:Int)+(m:Int) * 1).toNat]?).toArray=((xs.toList.drop i).take k).toArray:=by
 have e:(λ(m:Nat)=>xs[((i:Int)+(m:Int) * 1).toNat]?)=λm=>xs[i+m]?:=by
  funext m
  have:((i:Int)+(m:Int) * 1).toNat=i+m:=by omega
  rw [this]
 rw [e]
 have:=pick_run xs i k
 rw [List.filterMap_map] at this
 have e2:((λx=>xs[x]?) ∘ λx=>i+x)=λm=>xs[i+m]?:=rfl
 rw [e2] at this
 rw [this]
theorem getItem_tuple_cut {t sl:Addr} {items:Array Value} {vl vu:Value} {lo hi:Option Int} {Q:Value->Shared->Prop} (ht:IsTup s.heap t items) (hs:s.heap.IsSliceOf sl vl vu .none) (pl:IsPart vl lo) (pu:IsPart vu hi)
  (hw:¬ (sIx items.size 0 lo=0/\sIx items.size items.size hi=items.size))
  (h:Q (.ref s.heap.objs.size) { s with heap:=s.heap.push { cls:=.type "tuple",data:=.seq ((items.toList.drop (sIx items.size 0 lo)).take (sIx items.size items.size hi-sIx items.size 0 lo)).toArray } })
  (hsz:items.size<=sizeLine):wpAny (model prog w) A (getItem (.ref t) (.ref sl)) Q E s:=by
 have htake:sizeOk (.seq ((items.toList.drop (sIx items.size 0 lo)).take (sIx items.size items.size hi-sIx items.size 0 lo)).toArray):=by
  show ((items.toList.drop (sIx items.size 0 lo)).take (sIx items.size items.size hi-sIx items.size 0 lo)).toArray.size<=sizeLine
  rw [List.size_toArray,List.length_take,List.length_drop,Array.length_toList]
  omega
 have hj:sIx items.size items.size hi<=items.size:=b7j _ _ (Nat.le_refl _) hi
 obtain ⟨os,hos,hcs,hds⟩:=id hs
 have hTs:s.TypeIs (.ref sl) "slice":=⟨os,hos,hcs⟩
 unfold getItem
 try with_reducible refine wpAny_holding ?_
 first | refine wpAny_bind (wpAny_pure ?_) | skip
 refine wpAny_bind (wpAny_sequenceKey ht.typeIs (by decide) ?_)
 refine wpAny_bind (wpAny_callSpecial?_slot (name:=Str.ofString "__getitem__") ht.typeIs PyProof.Rows.slot_tuple_getitem
  (wpAny_call_entry PyProof.Rows.slot_tuple_getitem ht.typeIs entry_tuple_getitem ?_ (args_tuple_getitem _ _)))
 show wpAny _ _ (Builtin.Tuple.tupleItemsOf (.ref t) >>= _) _ _ s
 refine wpAny_bind (tupleItemsOf_ ht ?_)
 refine wpAny_bind (wpAny_typeOf hTs ?_)
 rw [if_pos (by decide)]
 refine wpAny_bind (sliceApplied_gen hs pl pu ?_)
 have hno:¬ ((((sIx items.size 0 lo:Nat):Int)==0&&(1:Int)==1&&(sIx items.size items.size hi-sIx items.size 0 lo)==items.size)=true):=by
  intro q
  rw [Bool.and_eq_true,Bool.and_eq_true] at q
  have q1:((sIx items.size 0 lo:Nat):Int)=0:=eq_of_beq q.1.1
  have q2:sIx items.size items.size hi-sIx items.size 0 lo=items.size:=eq_of_beq q.2
  exact hw ⟨by omega,by omega⟩
 show wpAny _ _ (if (((sIx items.size 0 lo:Nat):Int)==0&&(1:Int)==1&&(sIx items.size items.size hi-sIx items.size 0 lo)==items.size)=true then _ else _) _ _ s
 rw [if_neg hno,b0d]
 first
  | exact wpAny_bind (m:=Builtin.Tuple.tupleExact _) (wpAny_newObj_type (wpAny_pure ⟨_,rfl,wpAny_pure h⟩) htake)
  | exact wpAny_bind (m:=Builtin.Tuple.tupleExact _) (wpAny_newObj_type (wpAny_bind (wpAny_pure (wpAny_pure ⟨_,rfl,wpAny_pure h⟩))) htake)
  | exact wpAny_bind (wpAny_bind (m:=Builtin.Tuple.tupleExact _) (wpAny_newObj_type (wpAny_pure (wpAny_pure ⟨_,rfl,wpAny_pure h⟩)) htake))
  | exact wpAny_bind (wpAny_bind (m:=Builtin.Tuple.tupleExact _) (wpAny_newObj_type (wpAny_pure ⟨_,rfl,wpAny_pure h⟩) htake))
end
end HT
namespace L2
open PySem PySem.Spec PyProof.Rows
noncomputable abbrev TO:=St->Hp->(Option Int->Hp->Prop)->Prop
def PO (X:Cx) (e:Option Expr) (t:TO):Prop:=
 ∀ (pins:List (Addr×Obj)) (s:Shared) (σ:St) (H:Hp) (Q:Option Int->Hp->Prop),Inv X pins σ H s->t σ H Q ->
  wpAny (model X.prog X.w) X.A (evalPart e X.env) (λu s'=>∃ o H',Inv X pins σ H' s'/\IsPart u o/\Q o H') X.xe s
def tNoPart:TO:=λ_ H Q=>Q none H
def c1w (t:TE):TO:=λσ H Q=>t σ H λx H1=>∃ i,x=.int i/\Q (some i) H1
section
variable {X:Cx} {e:Expr} {te:TE} {lo hi:Option Expr} {tl th:TO} {pos p2:Pos}
theorem b5h:PO X none tNoPart:=by
 intro pins s σ H Q I h
 rw [evalPart_none]
 exact wpAny_pure ⟨none,H,I,.none,h⟩
theorem b43 (h:PE X e te):PO X (some e) (c1w te):=by
 intro pins s σ H Q I hw
 rw [evalPart_some]
 refine thn (h pins s σ H _ I hw) λu s1 ⟨x,H1,I1,r1,q1⟩=>?_
 obtain ⟨i,rfl,q⟩:=q1
 obtain ⟨t,rfl⟩:=r1
 exact ⟨some i,H1,I1,.int i t,q⟩
def SlR (X:Cx) (r:V->Option Int->Option Int->Hp->VK->Prop):Prop:=
 ∀ (pins:List (Addr×Obj)) (s:Shared) (σ:St) (H:Hp) (x:V) (v vl vu:Value) (lo hi:Option Int) (sl:Addr) (Q:VK),Inv X pins σ H s->RelV x v->s.heap.IsSliceOf sl vl vu .none->IsPart vl lo->IsPart vu hi->r x lo hi H Q ->
  ∃ T id,typeLookup (.type T) "__getitem__" = pure (some (.builtin id))/\s.TypeIs v T/\wpAny (model X.prog X.w) X.A (getItem v (.ref sl)) (EP X pins σ Q) X.xe s
def tSl (r:V->Option Int->Option Int->Hp->VK->Prop) (te:TE) (tl th:TO):TE:=λσ H Q=>te σ H λx H1=>tl σ H1 λl H2=>th σ H2 λu H3=>r x l u H3 Q
theorem a97 {r:V->Option Int->Option Int->Hp->VK->Prop} (hr:SlR X r) (he:PE X e te) (hl:PO X lo tl) (hu:PO X hi th):PE X (.Subscript e (.Slice lo hi none p2) pos) (tSl r te tl th):=by
 intro pins s σ H Q I h
 refine Subscript_ (thn (he pins s σ H _ I h) λv s1 ⟨x,H1,I1,r1,q1⟩=>?_)
 refine wpAny_Slice (thn (hl pins s1 σ H1 _ I1 q1) λvl s2 ⟨l,H2,I2,pl,q2⟩=>thn (hu pins s2 σ H2 _ I2 q2) λvu s3 ⟨u,H3,I3,pu,q3⟩=>?_)
 rw [evalPart_none]
 refine wpAny_pure ?_
 have I4:Inv X pins σ H3 { s3 with heap:=s3.heap.push { cls:=.type "slice",data:=.fields #[vl,vu,.none] } }:=I3.kept (t':=s3.toks) λb ob q=>Heap.get?_push_of_some _ q
 obtain ⟨T,id,hT,ht,hg⟩:=hr pins { s3 with heap:=s3.heap.push { cls:=.type "slice",data:=.fields #[vl,vu,.none] } } σ H3 x v vl vu l u s3.heap.objs.size Q I4 r1 (Heap.IsSliceOf.new ..) pl pu q3
 show wpAny (model X.prog X.w) X.A (subscriptTail e (.Slice lo hi none p2) v (.ref s3.heap.objs.size)) (EP X pins σ Q) X.xe { s3 with heap:=s3.heap.push { cls:=.type "slice",data:=.fields #[vl,vu,.none] } }
 exact tail_any (ops:=[.ref s3.heap.objs.size,v]) ht hT hg (by with_unfolding_all rfl)
noncomputable def a3q (xs:List V) (lo hi:Option Int):List V:=(xs.drop (HT.sIx xs.length 0 lo)).take (HT.sIx xs.length xs.length hi-HT.sIx xs.length 0 lo)
theorem Q5 (xs:List V) (lo hi:Option Int):(a3q xs lo hi).length<=xs.length:=by
 unfold a3q
 rw [List.length_take,List.length_drop]
 omega
def c3o (K:PySem.W.Frag):V->Option Int->Option Int->Hp->VK->Prop:=λx lo hi H Q=>∃ a xs,x=.ref a/\SqT K H a xs /\
 ¬ (HT.sIx xs.length 0 lo=0/\HT.sIx xs.length xs.length hi=xs.length)/\∀ p,H p=none->Q (.ref p) (upd H p (.tup (a3q xs lo hi)))
theorem b9b:SlR X (c3o X.K):=by
 intro pins s σ H x v vl vu lo hi sl Q I rx hs pl pu h
 obtain ⟨a,xs,rfl,hx,hw,q⟩:=h
 cases rx
 obtain ⟨its,r,ht,hz⟩:=I.tuple hx
 have hlen:its.toArray.size=xs.length:=by rw [List.size_toArray];exact r.length.symm
 refine ⟨"tuple",_,PyProof.Rows.slot_tuple_getitem.lookup,ht.typeIs,?_⟩
 refine HT.getItem_tuple_cut ht hs pl pu (by rw [hlen];exact hw) ?_ (by rw [hlen];exact hz)
 rw [hlen]
 refine ⟨.ref s.heap.objs.size,_,I.laid (t':=s.toks) (o:=.tup (a3q xs lo hi)) (λb ob q=>Heap.get?_push_of_some _ q) (Nat.le_refl _) ?_,rfl,q _ (I.hok.fresh (Nat.le_refl _))⟩
 exact ⟨Nat.le_trans (Q5 xs lo hi) hz,_,(r.drop (HT.sIx xs.length 0 lo)).take (HT.sIx xs.length xs.length hi-HT.sIx xs.length 0 lo),TupN.new _ _⟩
def c1m (K:PySem.W.Frag):R2:=λx y H Q=>∃ a b xs ys,x=.ref a/\y=.ref b/\SqT K H a xs/\SqT K H b ys/\xs≠[]/\xs.length+ys.length<=sizeLine /\
 (ys=[]->Q (.ref a) H)/\(ys≠[]->∀ p,H p=none->Q (.ref p) (upd H p (.tup (xs++ys))))
theorem Vals.nil_iff {xs:List V} {us:List Value} (r:Vals xs us):us=[]↔xs=[]:=by
 cases r with
 | nil=>simp
 | cons _ _=>simp
theorem b4j:OpR X (binaryOp .Add) (c1m X.K):=by
 intro pins s σ H x y v u Q I rx ry h
 obtain ⟨a,b,xs,ys,rfl,rfl,ha,hb,hx,hz,q1,q2⟩:=h
 cases rx
 cases ry
 obtain ⟨its,r1,p1,_⟩:=I.tuple ha
 obtain ⟨its2,r2,p2,_⟩:=I.tuple hb
 refine HT.cat_tup p1 p2 (λz=>hx (r1.nil_iff.mp z)) (λz=>⟨.ref a,H,I,rfl,q1 (r2.nil_iff.mp z)⟩) (λz=>?_) (by rw [<- r1.length,<- r2.length];exact hz)
 refine ⟨.ref s.heap.objs.size,_,I.laid (t':=s.toks) (o:=.tup (xs++ys)) (λb ob q=>Heap.get?_push_of_some _ q) (Nat.le_refl _) ?_,rfl,q2 (λw=>z (r2.nil_iff.mpr w)) _ (I.hok.fresh (Nat.le_refl _))⟩
 exact ⟨by rw [List.length_append];exact hz,_,r1.append r2,TupN.new _ _⟩
end
noncomputable def ixN (n:Nat) (i:Int):Option Nat:=if 0<=i then (if i<n then some i.toNat else none) else if -(n:Int)<=i then some (i+n).toNat else none
noncomputable def atI {α:Type} (xs:List α) (i:Int):Option α:=(ixN xs.length i).bind λj=>xs[j]?
theorem a1i {n:Nat} {i:Int} {j:Nat} (h:ixN n i=some j):seqIndex? i n=some j/\j<n/\-(n:Int)<=i/\i<n:=by
 unfold ixN at h
 by_cases h0:0<=i
 ·rw [if_pos h0] at h
  by_cases h1:i<n
  ·rw [if_pos h1] at h
   have e:i.toNat=j:=Option.some.inj h
   exact ⟨by rw [seqIndex_of h0 h1,e],by omega,by omega,h1⟩
  ·rw [if_neg h1] at h;cases h
 ·rw [if_neg h0] at h
  by_cases h1:-(n:Int)<=i
  ·rw [if_pos h1] at h
   have e:(i+n).toNat=j:=Option.some.inj h
   exact ⟨by rw [seqIndex_neg (by omega) h1,e],by omega,h1,by omega⟩
  ·rw [if_neg h1] at h;cases h
theorem a6m {α:Type} {xs:List α} {i:Int} {v:α} (h:atI xs i=some v):∃ j,seqIndex? i xs.length=some j/\xs[j]?=some v/\j<xs.length/\-(xs.length:Int)<=i/\i<xs.length:=by
 unfold atI at h
 cases e:ixN xs.length i with
 | none=>rw [e] at h;cases h
 | some j=>
  rw [e] at h
  obtain ⟨h1,h2,h3,h4⟩:=a1i e
  exact ⟨j,h1,h,h2,h3,h4⟩
theorem a1c {α:Type} {xs:List α} {j:Nat} {v:α} (h:xs[j]?=some v):atI xs (j:Int)=some v:=by
 have hj:j<xs.length:=(List.getElem?_eq_some_iff.mp h).1
 have e:ixN xs.length (j:Int)=some j:=by
  unfold ixN
  rw [if_pos (by omega),if_pos (by omega)];simp
 unfold atI;rw [e];exact h
def a12 (b:Expr):Prop:=∀ o i,subscripted b false o i=operate [o,i] (getItem o i)
def IxR (X:Cx) (r:R2):Prop:=
 ∀ (value slice:Expr) (pins:List (Addr×Obj)) (s:Shared) (σ:St) (H:Hp) (x y:V) (v u:Value) (Q:VK),Inv X pins σ H s->RelV x v->RelV y u->r x y H Q ->
  subscripted slice false v u=operate [v,u] (getItem v u)->wpAny (model X.prog X.w) X.A (subscriptTail value slice v u) (EP X pins σ Q) X.xe s
def MtR (X:Cx) (id:String) (r:V->List V->Hp->VK->Prop):Prop:=
 ∀ (pins:List (Addr×Obj)) (s:Shared) (σ:St) (H:Hp) (x:V) (xs:List V) (v:Value) (us:List Value) (Q:VK),Inv X pins σ H s->RelV x v->Vals xs us->r x xs H Q ->
  wpAny (model X.prog X.w) X.A (call (.builtin id) (v :: us)) (EP X pins σ Q) X.xe s
section
variable {X:Cx} {a b:Expr} {ta tb:TE} {pos:Pos}
theorem c1e {r:R2} (hr:IxR X r) (ha:PE X a ta) (hb:PE X b tb) (hs:a12 b):PE X (.Subscript a b pos) (tOp r ta tb):=by
 intro pins s σ H Q I h
 exact Subscript_ (b9y ha hb I h λv u s2 x y H2 I2 rx ry q=>hr a b pins s2 σ H2 x y v u Q I2 rx ry q (hs _ _))
def c4v (K:PySem.W.Frag):R2:=λx y H Q=>∃ p xs i v,x=.ref p/\y=.int i/\SqL K H p xs/\atI xs i=some v/\Q v H
def c3p (K:PySem.W.Frag):R2:=λx y H Q=>∃ p xs i v,x=.ref p/\y=.int i/\SqT K H p xs/\atI xs i=some v/\Q v H
theorem b44:IxR X (c4v X.K):=by
 intro value slice pins s σ H x y v u Q I rx ry h hs
 obtain ⟨p,xs,i,z,rfl,rfl,hq,he,q⟩:=h
 cases rx
 obtain ⟨t,rfl⟩:=ry
 obtain ⟨its,r,pl,hz⟩:=I.list hq
 obtain ⟨j,h1,h2,h3,h4,h5⟩:=a6m he
 obtain ⟨w,ew,rw'⟩:=r.get h2
 have hl:=r.length
 have hn:=O6
 have fin:EP X pins σ Q w s:=⟨z,H,I,rw',q⟩
 by_cases h0:0<=i
 ·have hj:i.toNat=j:=by
   rw [seqIndex_of h0 h5] at h1
   exact Option.some.inj h1
  exact item_listR pl.isList h0 (by omega) (by rw [hj];simpa using ew) fin hs
 ·have hj:(i+(its.toArray.size:Int)).toNat=j:=by
   rw [seqIndex_neg (by omega) h4] at h1
   rw [List.size_toArray,<- hl]
   exact Option.some.inj h1
  exact subscriptTail_builtinR (x:=w) pl.isList.typeIs slot_list_getitem.lookup
   (wpAny_getItem_list_neg (Q:=λr s'=>r=w/\EP X pins σ Q r s') pl.isList (by omega) (by rw [List.size_toArray] <;> omega) (by omega) (by rw [hj];simpa using ew) ⟨rfl,fin⟩) hs
theorem b7o:IxR X (c3p X.K):=by
 intro value slice pins s σ H x y v u Q I rx ry h hs
 obtain ⟨p,xs,i,z,rfl,rfl,hq,he,q⟩:=h
 cases rx
 obtain ⟨t,rfl⟩:=ry
 obtain ⟨its,r,pl,hz⟩:=I.tuple hq
 obtain ⟨j,h1,h2,h3,h4,h5⟩:=a6m he
 obtain ⟨w,ew,rw'⟩:=r.get h2
 have hl:=r.length
 have hn:=O6
 have fin:EP X pins σ Q w s:=⟨z,H,I,rw',q⟩
 exact subscriptTail_builtinR (x:=w) pl.typeIs slot_tuple_getitem.lookup
  (getItem_tuple (j:=j) (Q:=λr s'=>r=w/\EP X pins σ Q r s') pl (by omega) (by omega) (by rw [List.size_toArray,<- hl];exact h1) (by simpa using ew) ⟨rfl,fin⟩) hs
theorem a49 (its:List Value) (n j:Nat) (u:Value):Obj.mapSeq (·.setIfInBounds j u) { cls:=.type "list",data:=.seq its.toArray n }={ cls:=.type "list",data:=.seq (its.set j u).toArray n }:=by
 simp [Obj.mapSeq]
theorem Inv.lst {pins:List (Addr×Obj)} {σ:St} {H:Hp} {s:Shared} {p:Addr} {xs:List V} (I:Inv X pins σ H s) (h:H p=some (.lst xs)) :
  ∃ (its:List Value) (n:Nat),Vals xs its/\s.heap.get? p=some { cls:=.type "list",data:=.seq its.toArray n }/\xs.length<=sizeLine:=by
 obtain ⟨z,its,n,r,e⟩:=I.hok p _ h
 exact ⟨its,n,r,e,z⟩
theorem Inv.lstUpd {pins:List (Addr×Obj)} {σ:St} {H:Hp} {s:Shared} {p:Addr} {xs ys:List V} {its its':List Value} {n n':Nat} {f:Obj->Obj} (I:Inv X pins σ H s) (h:H p=some (.lst xs))
  (ho:s.heap.get? p=some { cls:=.type "list",data:=.seq its.toArray n }) (hf:f { cls:=.type "list",data:=.seq its.toArray n }={ cls:=.type "list",data:=.seq its'.toArray n' }) (r:Vals ys its') (hz:ys.length<=sizeLine) (t:Nat) :
  Inv X pins σ (upd H p (.lst ys)) { s with heap:=s.heap.update p f,toks:=t }:=by
 have e:(s.heap.update p f).get? p=some { cls:=.type "list",data:=.seq its'.toArray n' }:=by
  rw [Heap.get?_update_self f ho (by rw [hf] <;> rfl),hf]
 refine I.write (x:=p) (e:=p) (by rw [h];trivial) (.inl rfl) (λb u hb q=>(Heap.get?_update_other _ _ (Ne.symm hb)).trans q) ⟨_,e⟩ ?_
 exact ⟨hz,its',n',r,e⟩
def rSetL:V->V->V->Hp->(Hp->Prop)->Prop:=λo i v H Q=>∃ p xs k j,o=.ref p/\i=.int k/\H p=some (.lst xs)/\ixN xs.length k=some j/\Q (upd H p (.lst (xs.set j v)))
theorem a9e:b9v X rSetL:=by
 intro pins s σ H o i v ov iv u Q I ro ri rv h
 obtain ⟨p,xs,k,j,rfl,rfl,hp,hj,q⟩:=h
 cases ro
 obtain ⟨t,rfl⟩:=ri
 obtain ⟨its,n,r,ho,hz⟩:=I.lst hp
 obtain ⟨h1,h2,h3,h4⟩:=a1i hj
 have hl:=r.length
 have hn:=O6
 have I':Inv X pins σ (upd H p (.lst (xs.set j v))) { s with heap:=s.heap.update p (Obj.mapSeq (·.setIfInBounds j u)) }:=
  I.lstUpd hp ho (a49 its n j u) (r.set rv j) (by rw [List.length_set];exact hz) s.toks
 by_cases h0:0<=k
 ·have hk:k.toNat=j:=by
   rw [seqIndex_of h0 h4] at h1
   exact Option.some.inj h1
  exact PySem.W.ki_setAt ho h0 (by omega) (by rw [List.size_toArray,<- hl];exact h4) (by rw [hk];exact ⟨_,I',q⟩)
 ·have hk:(k+(its.toArray.size:Int)).toNat=j:=by
   rw [seqIndex_neg (by omega) h3] at h1
   rw [List.size_toArray,<- hl]
   exact Option.some.inj h1
  exact PySem.W.ki_setBack ho (by omega) (by rw [List.size_toArray,<- hl];exact h3) (by omega) (by rw [hk];exact ⟨_,I',q⟩)
theorem a1h (lo hi:Option Int) (n:Nat):(sliceBounds lo hi none n).1=((HT.sIx n 0 lo:Nat):Int)/\(sliceBounds lo hi none n).2.1=((HT.sIx n n hi:Nat):Int)/\(sliceBounds lo hi none n).2.2=1:=by
 refine ⟨?_,?_,rfl⟩
 ·cases lo with
  | none=>simp [sliceBounds,HT.sIx]
  | some i=>
   simp only [sliceBounds,HT.sIx,Option.getD_none,show (1:Int) > 0 by decide,if_true]
   by_cases h:i<0
   ·simp only [h,if_true] <;> omega
   ·simp only [h,if_false] <;> omega
 ·cases hi with
  | none=>simp [sliceBounds,HT.sIx]
  | some i=>
   simp only [sliceBounds,HT.sIx,Option.getD_none,show (1:Int) > 0 by decide,if_true]
   by_cases h:i<0
   ·simp only [h,if_true] <;> omega
   ·simp only [h,if_false] <;> omega
theorem Y7 (its:List Value) (lo hi:Option Int):slicePick its.toArray lo hi none=((its.drop (HT.sIx its.length 0 lo)).take (HT.sIx its.length its.length hi-HT.sIx its.length 0 lo)).toArray:=by
 obtain ⟨h1,h2,h3⟩:=a1h lo hi its.toArray.size
 unfold slicePick
 rw [h1,h2,h3]
 simp only [sliceRange_one,pick_run,List.size_toArray] <;> rfl
def c4g (K:PySem.W.Frag):V->Option Int->Option Int->Hp->VK->Prop:=λx lo hi H Q=>∃ a xs,x=.ref a/\SqL K H a xs/\∀ p,H p=none->Q (.ref p) (upd H p (.lst (a3q xs lo hi)))
theorem b49:SlR X (c4g X.K):=by
 intro pins s σ H x v vl vu lo hi sl Q I rx hs pl pu h
 obtain ⟨a,xs,rfl,hx,q⟩:=h
 cases rx
 obtain ⟨its,r,ht,hz⟩:=I.list hx
 have hlen:=r.length
 refine ⟨"list",_,slot_list_getitem.lookup,ht.isList.typeIs,?_⟩
 refine wpAny_getItem_list_slice ht.isList hs pl pu .none (by simp) ?_ (by rw [List.size_toArray] <;> omega)
 rw [Y7,<- hlen]
 refine ⟨.ref s.heap.objs.size,_,I.laid (t':=s.toks) (o:=.lst (a3q xs lo hi)) (λb ob q=>Heap.get?_push_of_some _ q) (Nat.le_refl _) ?_,rfl,q _ (I.hok.fresh (Nat.le_refl _))⟩
 exact ⟨Nat.le_trans (Q5 xs lo hi) hz,_,0,(r.drop (HT.sIx xs.length 0 lo)).take (HT.sIx xs.length xs.length hi-HT.sIx xs.length 0 lo),Heap.get?_push_size _ rfl⟩
theorem a02:i5 X (.builtin "len") (λxs H Q=>∃ p ys,xs=[.ref p]/\(SqL X.K H p ys\/SqT X.K H p ys)/\Q (.int ys.length) H):=by
 intro pins s σ H xs us Q I r h
 obtain ⟨p,ys,rfl,hq,q⟩:=h
 obtain ⟨u,rfl,rx⟩:=E1 r
 cases rx
 have hn:=O6
 rcases hq with hq | hq
 ·obtain ⟨its,r',pl,hz⟩:=I.list hq
  have hlen:=r'.length
  exact Calls.call_len_list pl.isList (by simp only [List.size_toArray] <;> omega) ⟨.int ys.length,H,I.tok _,⟨s.toks+1,by rw [List.size_toArray,hlen]⟩,q⟩
 ·obtain ⟨its,r',pl,hz⟩:=I.tuple hq
  have hlen:=r'.length
  exact len_tuple pl (by simp only [List.size_toArray] <;> omega) ⟨.int ys.length,H,I.tok _,⟨s.toks+1,by rw [List.size_toArray,hlen]⟩,q⟩
theorem a09:i5 X (.builtin "len") (λxs H Q=>∃ z,xs=[.str z]/\z.length<=sizeLine/\Q (.int z.length) H):=by
 intro pins s σ H xs us Q I r h
 obtain ⟨z,rfl,hz,q⟩:=h
 obtain ⟨u,rfl,t,rfl⟩:=E1 r
 have hn:=O6
 exact len_str (by omega) ⟨.int z.length,H,I.tok _,⟨_,rfl⟩,q⟩
theorem L8:i5 X (.type "list") (λxs H Q=>∃ p ys,xs=[.ref p]/\(SqL X.K H p ys\/SqT X.K H p ys)/\∀ l,H l=none->Q (.ref l) (upd H l (.lst ys))):=by
 intro pins s σ H xs us Q I r h
 obtain ⟨p,ys,rfl,hq,q⟩:=h
 obtain ⟨u,rfl,rx⟩:=E1 r
 cases rx
 have fin:∀ (its:List Value),Vals ys its->ys.length<=sizeLine->∀ (h':Heap) (c':Nat),(∀ b o',s.heap.get? b=some o'->h'.get? b=some o') ->
   h'.get? s.heap.objs.size=some { cls:=.type "list",dict:=none,data:=.seq its.toArray c',slots:=#[] }->EP X pins σ Q (.ref s.heap.objs.size) { s with heap:=h' }:=λits r' hz h' c' kp e=>
  ⟨.ref s.heap.objs.size,_,I.laid (t':=s.toks) kp (Nat.le_refl _) (show ObjOk X.prog X.w _ h' _ (.lst ys) from ⟨hz,its,c',r',e⟩),rfl,q _ (I.hok.fresh (Nat.le_refl _))⟩
 rcases hq with hq | hq
 ·obtain ⟨its,r',pl,hz⟩:=I.list hq
  have hlen:=r'.length
  obtain ⟨o,ho,hc,n,hd⟩:=pl.isList
  exact call_list_seq p (.inl rfl) ho hc hd (λh' c' kp e=>fin its r' hz h' c' kp e) (by simp only [List.size_toArray] <;> omega)
 ·obtain ⟨its,r',pl,hz⟩:=I.tuple hq
  have hlen:=r'.length
  obtain ⟨o,ho,hc,n,hd⟩:=pl
  exact call_list_seq p (.inr rfl) ho hc hd (λh' c' kp e=>fin its r' hz h' c' kp e) (by simp only [List.size_toArray] <;> omega)
theorem J8:i5 X (.type "tuple") (λxs H Q=>∃ p ys,xs=[.ref p]/\((SqL X.K H p ys/\∀ l,H l=none->Q (.ref l) (upd H l (.tup ys)))\/(SqT X.K H p ys/\Q (.ref p) H))):=by
 intro pins s σ H xs us Q I r h
 obtain ⟨p,ys,rfl,h⟩:=h
 obtain ⟨u,rfl,rx⟩:=E1 r
 cases rx
 rcases h with ⟨hq,q⟩ | ⟨hq,q⟩
 ·obtain ⟨its,r',pl,hz⟩:=I.list hq
  have hlen:=r'.length
  refine call_tuple_list pl.isList (λh' kp=>?_) (by simp only [List.size_toArray] <;> omega)
  have I1:Inv X pins σ H { s with heap:=h' }:=I.kept (t':=s.toks) kp
  have I2:Inv X pins σ (upd H h'.objs.size (.tup ys)) { s with heap:=h'.push { cls:=.type "tuple",data:=.seq its.toArray } }:=
   I1.laid (t':=s.toks) (λb o e=>Heap.get?_push_of_some _ e) (Nat.le_refl _) (show ObjOk X.prog X.w _ _ _ (.tup ys) from ⟨hz,its,r',TupN.new _ _⟩)
  exact ⟨.ref h'.objs.size,_,I2,rfl,q _ (I1.hok.fresh (Nat.le_refl _))⟩
 ·obtain ⟨its,r',pl,hz⟩:=I.tuple hq
  exact call_tuple_same pl ⟨.ref p,H,I,rfl,q⟩
def tyV (K:PySem.W.Frag) (T:String) (x:V) (H:Hp):Prop:=match x with
 | .str _=>T = "str"
 | .int _=>T = "int"
 | .ref p=>(T = "list"/\∃ xs,SqL K H p xs)\/(T = "tuple"/\∃ o,K.lookup p=some o/\o.cls=.type "tuple"/\o.dict=none) \/
   (T = "dict"/\((∃ kvs,H p=some (.dK kvs))\/∃ kvs,H p=some (.dT kvs)))\/(T = "set"/\∃ S n,H p=some (.set S n))\/(T = "tuple"/\∃ xs,Rd H p (.tup xs))
 | _=>False
theorem b6o {pins:List (Addr×Obj)} {σ:St} {H:Hp} {s:Shared} {T:String} {x:V} {v:Value} (I:Inv X pins σ H s) (r:RelV x v) (ty:tyV X.K T x H) :
  s.TypeIs v T/\∀ a,v=.ref a->∃ ob,s.heap.get? a=some ob/\ob.dict=none:=by
 cases x with
 | str z=>
  obtain ⟨t,rfl⟩:=r
  cases (show T = "str" from ty)
  exact ⟨typeIs_str s z t,λ_ e=>nomatch e⟩
 | int i=>
  obtain ⟨t,rfl⟩:=r
  cases (show T = "int" from ty)
  exact ⟨typeIs_int s i t,λ_ e=>nomatch e⟩
 | ref p=>
  cases r
  rcases ty with ⟨rfl,xs,hq⟩ | ⟨rfl,o,hk,hc,hd⟩ | ⟨rfl,hk⟩ | ⟨rfl,S,n,hk⟩ | ⟨rfl,xs,hk⟩
  ·obtain ⟨its,_,pl,_⟩:=I.list hq
   refine ⟨pl.isList.typeIs,λa e=>?_⟩
   cases e
   obtain ⟨o,n,e,c,hd,_⟩:=pl
   exact ⟨o,e,hd⟩
  ·refine ⟨⟨o,I.kIn p o hk,hc⟩,λa e=>?_⟩
   cases e
   exact ⟨o,I.kIn _ o hk,hd⟩
  ·have z:∃ o,s.heap.get? p=some o/\o.ExactDict:=by
    rcases hk with ⟨kvs,hk⟩ | ⟨kvs,hk⟩
    ·obtain ⟨_,_,_,_,o,_,_,e,ex,_⟩:=I.hok p _ hk
     exact ⟨o,e,ex⟩
    ·obtain ⟨_,_,_,_,o,_,_,e,ex,_⟩:=I.hok p _ hk
     exact ⟨o,e,ex⟩
   obtain ⟨o,e,ex⟩:=z
   refine ⟨⟨o,e,ex.1⟩,λa e2=>?_⟩
   cases e2
   exact ⟨o,e,ex.2.1⟩
  ·obtain ⟨o,_,_,_,e,ex,_⟩:=I.hok p _ hk
   refine ⟨⟨o,e,ex.1⟩,λa e2=>?_⟩
   cases e2
   exact ⟨o,e,ex.2.1⟩
  ·obtain ⟨_,its,_,o,e,c,n,_,hd⟩:=(show ObjOk X.prog X.w H s.heap p (.tup xs) from hk.ok I.hok)
   exact ⟨⟨o,e,c⟩,λa e2=>by cases e2;exact ⟨o,e,hd⟩⟩
 | _=>exact False.elim ty
def tBM (K:PySem.W.Frag) (T:String) (r:V->List V->Hp->VK->Prop) (to:TE) (t:TA):TE:=λσ H Q=>to σ H λx H1=>tyV K T x H1/\t σ H1 λxs H2=>r x xs H2 Q
variable {o e:Expr} {es:List Expr} {to:TE} {t:TA} {name:Str} {apos cpos:Pos} {T id:String} {r:V->List V->Hp->VK->Prop}
theorem b6k (pa:PlainAttrs T) (slot:Slot T name id) (hty:typeOf (.builtin id)=pure (.type "method_descriptor")) (hm:MtR X id r) (ho:PE X o to) (ha:PA X (e :: es) t)
  (hbase:attributeBase o name X.env (eval o X.env)=eval o X.env:=by rfl)
  (hfew:((backTo cpos (starEach (e :: es) X.env)).all (λx=>!x.1)&&(backToKw cpos (keywordEach [] X.env)).all (λx=>x.1.isSome)
   && decide ((e :: es).length+([]:List Keyword).length+(if ([]:List Keyword).isEmpty then 0 else 1)<30))=true:=by rfl)
  (hline:(apos.endLine==cpos.line)=true:=by rfl) (hs:starEach (e :: es) X.env=(false,eval e X.env) :: starEach es X.env:=by rfl) (hplain:(backTo cpos (starEach es X.env)).any (·.1)=false:=by rfl) :
  PE X (.Call (.Attribute o name apos) (e :: es) [] cpos) (tBM X.K T r to t):=by
 intro pins s σ H Q I h
 refine wpAny_Call_method_late hbase hfew hline rfl (thn (ho pins s σ H _ I h) λv s1 ⟨x,H1,I1,r1,ty,q1⟩=>?_)
 obtain ⟨h1,h2⟩:=b6o I1 r1 ty
 refine ⟨T,id,pa,slot,hty,h1,h2,?_⟩
 have hA:=ha cpos pins s1 σ H1 _ I1 q1
 rw [hs] at hA ⊢
 refine Calls.callWith_builtin (by show (false||(backTo cpos (starEach es X.env)).any (·.1))=false;rw [hplain] <;> rfl) (Calls.evalArgs_plain ?_)
 exact thn hA λus s2 ⟨vs,H2,I2,r2,q2⟩=>hm pins s2 σ H2 x vs v us Q I2 r1 r2 q2
end
def MtM (X:Cx) (id:String) (r:V->List V->Hp->VK->Prop):Prop:=
 ∀ (pins:List (Addr×Obj)) (s:Shared) (σ:St) (H:Hp) (x:V) (xs:List V) (v:Value) (us:List Value) (Q:VK),Inv X pins σ H s->RelV x v->Vals xs us->r x xs H Q ->
  wpAny (model X.prog X.w) X.A (call (.builtin id) (v :: us)) (EP X pins σ Q) X.xe s
theorem Vals.one:∀ {x:V} {us:List Value},Vals [x] us->∃ u,us=[u]/\RelV x u
 | _,_,.cons r .nil=>⟨_,rfl,r⟩
theorem Vals.eraseIdx:∀ {xs:List V} {us:List Value} (i:Nat),Vals xs us->Vals (xs.eraseIdx i) (us.eraseIdx i)
 | _,_,_,.nil=>.nil
 | _,_,0,.cons _ t=>t
 | _,_,i+1,.cons r t=>.cons r (Vals.eraseIdx i t)
theorem Vals.rep {xs:List V} {us:List Value} (h:Vals xs us):∀ k:Nat,Vals (List.replicate k xs).flatten (List.replicate k us).flatten
 | 0=>.nil
 | k+1=>by
  rw [List.replicate_succ,List.replicate_succ,List.flatten_cons,List.flatten_cons]
  exact Vals.append h (Vals.rep h k)
theorem a0m {α:Type}:∀ (l:List α) (i:Nat),(l.eraseIdx i).length<=l.length
 | [],_=>Nat.le_refl _
 | _ :: _,0=>Nat.le_succ _
 | _ :: r,i+1=>Nat.succ_le_succ (a0m r i)
theorem P2 (its:List Value):∀ (k:Nat) (acc:List Value),
  List.foldl (λx1 x2=>x1++x2) acc.toArray (List.replicate k its.toArray)=(acc++(List.replicate k its).flatten).toArray
 | 0,acc=>by simp
 | k+1,acc=>by
  have e:acc.toArray++its.toArray=(acc++its).toArray:=by simp
  have e2:(acc++its)++(List.replicate k its).flatten=acc++(List.replicate (k+1) its).flatten:=by
   rw [List.replicate_succ,List.flatten_cons,List.append_assoc]
  rw [<- e2,<- P2 its k (acc++its),<- e,List.replicate_succ,List.foldl_cons]
section
variable {X:Cx} {pins:List (Addr×Obj)} {σ:St} {H:Hp} {s:Shared} {l b:Addr} {xs ys zs:List V}
theorem Inv.lset {its its':List Value} {n:Nat} {f:Array Value->Array Value} {t':Nat} (I:Inv X pins σ H s) (hH:H l=some (.lst xs))
  (e:s.heap.get? l=some { cls:=.type "list",data:=.seq its.toArray n }) (hf:f its.toArray=its'.toArray) (hv:Vals ys its') (hz:ys.length<=sizeLine) :
  Inv X pins σ (upd H l (.lst ys)) { s with heap:=s.heap.update l (Obj.mapSeq f),toks:=t' }:=by
 have q:=PySem.IsL.update e f
 rw [hf] at q
 refine I.write (x:=l) (e:=l) (by rw [hH];exact trivial) (.inl rfl) (λb' u hb hu=>(Heap.get?_update_other s.heap (Obj.mapSeq f) (Ne.symm hb)).trans hu) ⟨_,q⟩ ?_
 exact ⟨hz,its',_,hv,q⟩
theorem Inv.lnew {its:List Value} {t':Nat} (I:Inv X pins σ H s) (hv:Vals ys its) (hz:ys.length<=sizeLine) :
  Inv X pins σ (upd H s.heap.objs.size (.lst ys)) { s with heap:=s.heap.push { cls:=.type "list",data:=.seq its.toArray },toks:=t' }:=
 I.laid (λ_ _ q=>Heap.get?_push_of_some _ q) (Nat.le_refl _) ⟨hz,its,0,hv,Heap.get?_push_size _ rfl⟩
theorem Inv.fresh (I:Inv X pins σ H s):H s.heap.objs.size=none:=I.hok.fresh (Nat.le_refl _)
theorem Inv.lstM (I:Inv X pins σ H s) (hH:H l=some (.lst xs)):xs.length<=sizeLine/\∃ (its:List Value) (n:Nat),Vals xs its/\xs.length=its.length/\s.heap.get? l=some { cls:=.type "list",data:=.seq its.toArray n }:=by
 obtain ⟨z,its,n,r,e⟩:=I.hok l _ hH
 exact ⟨z,its,n,r,r.length,e⟩
theorem a3o {n:Nat} (h:n<=sizeLine):Builtin.List.listTooLong n=false:=by
 unfold Builtin.List.listTooLong
 exact decide_eq_false (by omega)
end
section
variable {X:Cx}
def rAppend:V->List V->Hp->VK->Prop:=λx vs H Q=>∃ l xs y,x=.ref l/\vs=[y]/\H l=some (.lst xs)/\xs.length<sizeLine/\Q .non (upd H l (.lst (xs++[y])))
theorem O9:MtM X "list.append" rAppend:=by
 intro pins s σ H x vs v us Q I rx rv h
 obtain ⟨l,xs,y,rfl,rfl,hH,hz,q⟩:=h
 cases rx
 obtain ⟨u,rfl,ru⟩:=rv.one
 obtain ⟨z,its,n,r,hl,e⟩:=I.lstM hH
 refine call_meets F.slot_list_append ⟨_,e,rfl⟩ F.entry_list_append (F.args_list_append_2 _ _) (PySem.list_append l its.toArray n u (by rw [List.size_toArray];omega)) ⟨e,?_⟩
 refine ⟨.non,_,I.lset (its':=its++[u]) hH e (by simp) (r.append (.cons ru .nil)) ?_,rfl,q⟩
 rw [List.length_append,List.length_singleton]
 omega
def rPopAt:V->List V->Hp->VK->Prop:=λx vs H Q=>∃ l xs i k y,x=.ref l/\vs=[.int i]/\H l=some (.lst xs)/\-(2 ^ 63)<=i/\i<2 ^ 63/\seqIndex? i xs.length=some k/\xs[k]?=some y/\Q y (upd H l (.lst (xs.eraseIdx k)))
theorem a9a:MtM X "list.pop" rPopAt:=by
 intro pins s σ H x vs v us Q I rx rv h
 obtain ⟨l,xs,i,k,y,rfl,rfl,hH,h1,h2,hk,hy,q⟩:=h
 cases rx
 obtain ⟨u,rfl,ru⟩:=rv.one
 obtain ⟨t,rfl⟩:=ru
 obtain ⟨z,its,n,r,hl,e⟩:=I.lstM hH
 obtain ⟨w,hw,rw'⟩:=r.get hy
 refine call_meets F.slot_list_pop ⟨_,e,rfl⟩ F.entry_list_pop (F.args_list_pop_2 _ _)
  (MeetsSeq.list_pop_at l its.toArray n i t k w (fitsIndex_both h1 h2) (by rw [List.size_toArray,<- hl];exact hk) (by rw [<- Array.getElem?_toList];exact hw) (by rw [List.size_toArray];omega)) ⟨e,?_⟩
 refine ⟨y,_,I.lset (its':=its.eraseIdx k) hH e ?_ (r.eraseIdx k) ?_,rw',q⟩
 ·show its.toArray.eraseIdxIfInBounds k=(its.eraseIdx k).toArray
  rw [List.eraseIdxIfInBounds_toArray]
 ·have:=a0m xs k
  omega
def rCat:R2:=λx y H Q=>∃ l b xs zs,x=.ref l/\y=.ref b/\H l=some (.lst xs)/\H b=some (.lst zs)/\xs.length+zs.length<=sizeLine/\∀ p,H p=none->Q (.ref p) (upd H p (.lst (xs++zs)))
theorem b8q:OpR X (binaryOp .Add) rCat:=by
 intro pins s σ H x y v u Q I rx ry h
 obtain ⟨l,b,xs,zs,rfl,rfl,hH,hB,hz,q⟩:=h
 cases rx
 cases ry
 obtain ⟨z,its,n,r,hl,e⟩:=I.lstM hH
 obtain ⟨z2,its2,n2,r2,hl2,e2⟩:=I.lstM hB
 refine PySem.P.add_list e e2 ?_ (by rw [List.size_toArray,List.size_toArray];omega)
 have ea:its.toArray++its2.toArray=(its++its2).toArray:=by simp
 rw [ea]
 exact ⟨.ref _,_,I.lnew (t':=s.toks) (r.append r2) (by rw [List.length_append];omega),rfl,q _ I.fresh⟩
def rRep:R2:=λx y H Q=>∃ l k xs,x=.ref l/\y=.int k/\H l=some (.lst xs)/\-(2 ^ 63)<=k/\k<2 ^ 63/\xs.length * k.toNat<=sizeLine /\
 ∀ p,H p=none->Q (.ref p) (upd H p (.lst (List.replicate k.toNat xs).flatten))
theorem a6y {α:Type} (xs:List α) (k:Nat):(List.replicate k xs).flatten.length=k * xs.length:=by
 induction k with
 | zero=>simp
 | succ k ih=>rw [List.replicate_succ,List.flatten_cons,List.length_append,ih,Nat.succ_mul,Nat.add_comm]
theorem b8e:OpR X (binaryOp .Mult) rRep:=by
 intro pins s σ H x y v u Q I rx ry h
 obtain ⟨l,k,xs,rfl,rfl,hH,h1,h2,hz,q⟩:=h
 cases rx
 obtain ⟨t,rfl⟩:=ry
 obtain ⟨z,its,n,r,hl,e⟩:=I.lstM hH
 have hlen:its.toArray.size * k.toNat<=sizeLine:=by rw [List.size_toArray,<- hl];exact hz
 have hcap:¬ its.toArray.size * k.toNat > (2 ^ 63-1) / 8:=by
  have:(sizeLine:Nat)<=(2 ^ 63-1) / 8:=by decide
  omega
 have hfit:¬ (!Builtin.List.listFitsIndex k)=true:=by
  rw [fitsIndex_both h1 h2]
  exact Bool.false_ne_true
 have hlong:¬ Builtin.List.listTooLong (its.toArray.size * k.toNat)=true:=by
  rw [a3o hlen]
  exact Bool.false_ne_true
 have hnew:List.foldl (λx1 x2=>x1++x2) #[] (List.replicate (if its.toArray.isEmpty=true then 0 else k.toNat) its.toArray)=(List.replicate k.toNat its).flatten.toArray:=by
  have f0:∀ m:Nat,List.foldl (λx1 x2=>x1++x2) #[] (List.replicate m its.toArray)=(List.replicate m its).flatten.toArray:=λm=>by
   have:=P2 its m []
   rw [List.nil_append] at this
   exact this
  rw [f0]
  cases its with
  | nil=>simp
  | cons a r'=>rw [if_neg (by simp)]
 refine wpAny_binaryOp_repeat_ref (T:="list") (U:="int") (by decide) ⟨_,e,rfl⟩ (λs'=>typeIs_int s' k t) noFill_list_mul F.fills_int_mul F.slot_int_rmul repeat_list F.slot_int_index.lookup
  (call_meets F.slot_int_rmul (typeIs_int s k t) F.entry_int_rmul (F.args_int_rmul_2 _ _) (int___rmul___int_list k t l its.toArray n)
   ⟨e,rfl,⟨_,e,rfl⟩,call_meets F.slot_list_mul ⟨_,e,rfl⟩ F.entry_list_mul (F.args_list_mul_2 _ _) (AutoListH.list___mul___list_int_3 l its.toArray n k t hfit hcap hlong) ⟨e,?_⟩⟩)
 rw [hnew]
 exact ⟨.ref _,_,I.lnew (t':=s.toks) (r.rep k.toNat) (by rw [a6y,Nat.mul_comm];exact hz),rfl,q _ I.fresh⟩
end
section
variable {κ:Type} [DecidableEq κ]
noncomputable def R5 (kvs:List (κ×V)) (k:κ):Option V:=(kvs.find? λkv=>decide (kv.1=k)).map (·.2)
noncomputable def C0 (kvs:List (κ×V)) (k:κ) (v:V):List (κ×V):=
 if (kvs.any λkv=>decide (kv.1=k))=true then kvs.map (λkv=>if kv.1=k then (kv.1,v) else kv) else kvs++[(k,v)]
theorem N6 {p:κ×V} {r:List (κ×V)} {k:κ} (e:p.1=k):R5 (p :: r) k=some p.2:=by simp [R5,List.find?_cons,e]
theorem N7 {p:κ×V} {r:List (κ×V)} {k:κ} (e:¬ p.1=k):R5 (p :: r) k=R5 r k:=by simp [R5,List.find?_cons,e]
theorem a3l (k:κ):∀ kvs:List (κ×V),(kvs.any λkv=>decide (kv.1=k))=(R5 kvs k).isSome
 | []=>rfl
 | p :: r=>by
  rw [List.any_cons]
  by_cases e:p.1=k
  ·simp only [N6 e,decide_eq_true e,Bool.true_or,Option.isSome_some]
  ·rw [N7 e,decide_eq_false e,Bool.false_or];exact a3l k r
theorem Q4 (kvs:List (κ×V)) (k:κ) (v:V):(C0 kvs k v).length<=kvs.length+1:=by
 unfold C0
 split
 ·rw [List.length_map];omega
 ·rw [List.length_append,List.length_cons,List.length_nil];omega
theorem RelO.isSome_eq {o:Option V} {u:Option Value} (r:RelO o u):o.isSome=u.isSome:=by
 cases o with
 | none=>cases u with
  | none=>rfl
  | some _=>exact (show False from r).elim
 | some _=>cases u with
  | none=>exact (show False from r).elim
  | some _=>rfl
theorem KV.val {kvs:List (κ×V)} {vs:List (κ×Value)} (r:KV kvs vs) (k:κ):RelO (R5 kvs k) (valueAt vs k):=by
 unfold KV at r
 induction r with
 | nil=>exact True.intro
 | @cons p q ps qs h t ih=>
  obtain ⟨h1,h2⟩:=h
  by_cases e:p.1=k
  ·have e':q.1=k:=h1.symm.trans e
   have b:valueAt (q :: qs) k=some q.2:=by simp [valueAt,List.find?_cons,e']
   rw [N6 e,b];exact h2
  ·have e':¬ q.1=k:=λz=>e (h1.trans z)
   have b:valueAt (q :: qs) k=valueAt qs k:=by simp [valueAt,List.find?_cons,e']
   rw [N7 e,b];exact ih
theorem KV.any {kvs:List (κ×V)} {vs:List (κ×Value)} (r:KV kvs vs) (k:κ):(kvs.any λkv=>decide (kv.1=k))=vs.any λkv=>decide (kv.1=k):=by
 unfold KV at r
 induction r with
 | nil=>rfl
 | cons h t ih=>rw [List.any_cons,List.any_cons,ih,h.1]
theorem KV.repl {kvs:List (κ×V)} {vs:List (κ×Value)} (r:KV kvs vs) (k:κ) {y:V} {u:Value} (ry:RelV y u) :
  KV (kvs.map λkv=>if kv.1=k then (kv.1,y) else kv) (vs.map λkv=>if kv.1=k then (kv.1,u) else kv):=by
 unfold KV at r ⊢
 induction r with
 | nil=>exact .nil
 | @cons p q ps qs h t ih=>
  rw [List.map_cons,List.map_cons]
  refine .cons ?_ ih
  obtain ⟨h1,h2⟩:=h
  by_cases e:p.1=k
  ·rw [if_pos e,if_pos (h1.symm.trans e)];exact ⟨h1,ry⟩
  ·rw [if_neg e,if_neg (λz=>e (h1.trans z))];exact ⟨h1,h2⟩
theorem KV.put {kvs:List (κ×V)} {vs:List (κ×Value)} (r:KV kvs vs) (k:κ) {y:V} {u:Value} (ry:RelV y u):KV (C0 kvs k y) (stored vs k u):=by
 unfold C0 stored
 rw [r.any k]
 by_cases e:(vs.any λkv=>decide (kv.1=k))=true
 ·rw [if_pos e,if_pos e];exact r.repl k ry
 ·rw [if_neg e,if_neg e];exact Paired.snoc r ⟨rfl,ry⟩
theorem KV.length {kvs:List (κ×V)} {vs:List (κ×Value)} (r:KV kvs vs):kvs.length=vs.length:=Paired.length r
end
theorem b1j {P:Program} {w:World} {k:Key} {u:Value} (r:RelV (kV k) u):(j4 P w).is k u=true:=by
 cases k with
 | inl i=>obtain ⟨t,e⟩:=(show ∃ t,u=Value.int i t from r);subst e;exact a3s P w i t
 | inr x=>obtain ⟨t,e⟩:=(show ∃ t,u=Value.str x t from r);subst e;exact a2l P w x t
theorem a0o {P:Program} {w:World}:∀ {ks:List Key} {us:List Value},Vals (ks.map kV) us->ItemsAre (j4 P w) ks us
 | [],_,r=>by rw [List.map_nil] at r;cases r;exact .nil
 | k :: ks,_,r=>by
  rw [List.map_cons] at r
  cases r with
  | cons h t=>exact .cons (b1j h) (a0o t)
noncomputable abbrev KT (H:Hp):List (List Key×V)->List (List Key×Addr×Value)->Prop:=Paired λp q=>p.1=q.1/\H q.2.1=some (.tup (p.1.map kV))/\RelV p.2 q.2.2
theorem KT.val {H:Hp} {kvs:List (List Key×V)} {xs:List (List Key×Addr×Value)} (r:KT H kvs xs) (k:List Key):RelO (R5 kvs k) ((atKey xs k).map (·.2)):=by
 induction r with
 | nil=>exact True.intro
 | @cons p q ps qs h t ih=>
  obtain ⟨h1,_,h2⟩:=h
  by_cases e:p.1=k
  ·have e':q.1=k:=h1.symm.trans e
   have b:atKey (q :: qs) k=some q.2:=by simp [atKey,List.find?_cons,e']
   rw [N6 e,b];exact h2
  ·have e':¬ q.1=k:=λz=>e (h1.trans z)
   have b:atKey (q :: qs) k=atKey qs k:=by simp [atKey,List.find?_cons,e']
   rw [N7 e,b];exact ih
theorem KT.repl {H:Hp} {kvs:List (List Key×V)} {xs:List (List Key×Addr×Value)} (r:KT H kvs xs) (k:List Key) {y:V} {u:Value} (ry:RelV y u) :
  KT H (kvs.map λkv=>if kv.1=k then (kv.1,y) else kv) (xs.map (putAt k u)):=by
 induction r with
 | nil=>exact .nil
 | @cons p q ps qs h t ih=>
  rw [List.map_cons,List.map_cons]
  refine .cons ?_ ih
  obtain ⟨h1,h2,h3⟩:=h
  unfold putAt
  by_cases e:p.1=k
  ·rw [if_pos e,if_pos (h1.symm.trans e)];exact ⟨h1,h2,ry⟩
  ·rw [if_neg e,if_neg (λz=>e (h1.trans z))];exact ⟨h1,h2,h3⟩
theorem KT.put {H:Hp} {kvs:List (List Key×V)} {xs:List (List Key×Addr×Value)} (r:KT H kvs xs) (k:List Key) {b:Addr} {y:V} {u:Value} (hb:H b=some (.tup (k.map kV))) (ry:RelV y u) :
  KT H (C0 kvs k y) (storedH xs k b u):=by
 have e:(kvs.any λkv=>decide (kv.1=k))=(atKey xs k).isSome:=by
  rw [a3l,(r.val k).isSome_eq,Option.isSome_map]
 unfold C0 storedH
 rw [e]
 by_cases q:(atKey xs k).isSome=true
 ·rw [if_pos q,if_pos q];exact r.repl k ry
 ·rw [if_neg q,if_neg q];exact Paired.snoc r ⟨rfl,hb,ry⟩
theorem KT.keeps {H H':Hp} {kvs:List (List Key×V)} {xs:List (List Key×Addr×Value)} (r:KT H kvs xs) (ht:∀ b ys,H b=some (.tup ys)->H' b=some (.tup ys)):KT H' kvs xs:=
 Paired.mapP r λ_ _ z=>⟨z.1,ht _ _ z.2.1,z.2.2⟩
section
variable {P:Program} {w:World} {H:Hp} {h:Heap} {a:Addr}
theorem b6b {u:HO} (ok:HOk P w H h) (e:Rd H a u):ObjOk P w H h a u:=e.ok ok
theorem a6p {kvs:List (Key×V)} (ok:HOk P w H h) (e:Rd H a (.dK kvs)):kvs.length<=sizeLine/\(a==sysModules)=false/\∃ vs,KV kvs vs/\h.DictOf (j4 P w) a vs:=
 show ObjOk P w H h a (.dK kvs) from b6b ok e
theorem c1b {kvs:List (Key×V)} (ok:HOk P w H h) (e:H a=some (.dK kvs)):kvs.length<=sizeLine/\(a==sysModules)=false/\∃ vs,KV kvs vs/\h.DictOf (j4 P w) a vs:=a6p ok (.inl e)
theorem a4m {ks:List Key} (ok:HOk P w H h) (e:H a=some (.tup (ks.map kV))):(tupleKind (j4 P w)).is h ks a:=by
 obtain ⟨_,its,r,o,h1,h2,n,h3⟩:=(show ObjOk P w H h a (.tup (ks.map kV)) from ok a _ e)
 exact ⟨o,its.toArray,n,h1,h2,h3.1,by simpa using a0o r⟩
theorem b08 {kvs:List (List Key×V)} (ok:HOk P w H h) (e:Rd H a (.dT kvs)):kvs.length<=sizeLine/\(a==sysModules)=false /\
  ∃ xs,KT H kvs xs/\h.DictOfH (tupleKind (j4 P w)) a xs:=by
 obtain ⟨z,y,xs,r,o,es,ep,h1,h2,h3,h4,h5⟩:=(show ObjOk P w H h a (.dT kvs) from b6b ok e)
 refine ⟨z,y,xs,r,o,es,ep,h1,h2,h3,h4,λx hx=>?_,h5⟩
 have all:∀ {l:List (List Key×V)} {m:List (List Key×Addr×Value)},KT H l m->∀ x∈m,(tupleKind (j4 P w)).is h x.1 x.2.1:=by
  intro l m q
  induction q with
  | nil=>intro x hx;exact nomatch hx
  | @cons p q ps qs hq t ih=>
   intro x hx
   rcases List.mem_cons.mp hx with e | hx
   ·subst e
    exact a4m ok (by rw [<- hq.1];exact hq.2.1)
   ·exact ih x hx
 exact all r x hx
theorem c1h {kvs:List (List Key×V)} (ok:HOk P w H h) (e:H a=some (.dT kvs)):kvs.length<=sizeLine/\(a==sysModules)=false /\
  ∃ xs,KT H kvs xs/\h.DictOfH (tupleKind (j4 P w)) a xs:=b08 ok (.inl e)
end
def DGet (H:Hp) (a:Addr) (y:V) (r:Option V):Prop:=
 (∃ kvs k,Rd H a (.dK kvs)/\y=kV k/\r=R5 kvs k)\/∃ kvs k b,Rd H a (.dT kvs)/\y=.ref b/\H b=some (.tup (k.map kV))/\r=R5 kvs k
def DPut (H:Hp) (a:Addr) (y v:V) (H':Hp):Prop:=
 (∃ kvs k,H a=some (.dK kvs)/\y=kV k/\kvs.length<sizeLine/\H'=upd H a (.dK (C0 kvs k v))) \/
 ∃ kvs k b,H a=some (.dT kvs)/\y=.ref b/\H b=some (.tup (k.map kV))/\kvs.length<sizeLine/\H'=upd H a (.dT (C0 kvs k v))
theorem DGet.k {H:Hp} {a:Addr} {kvs:List (Key×V)} {k:Key} (e:H a=some (.dK kvs)):DGet H a (kV k) (R5 kvs k):=.inl ⟨kvs,k,.inl e,rfl,rfl⟩
theorem DPut.k {H:Hp} {a:Addr} {kvs:List (Key×V)} {k:Key} {v:V} (e:H a=some (.dK kvs)) (hl:kvs.length<sizeLine):DPut H a (kV k) v (upd H a (.dK (C0 kvs k v))):=.inl ⟨kvs,k,e,rfl,hl,rfl⟩
section
variable {X:Cx} {pins:List (Addr×Obj)} {σ:St} {H:Hp} {s:Shared} {a:Addr} {y v:V} {u r:Value} {o:Option V} {A:Around} {E:Value->Shared->Prop}
theorem a75 {Q:Value->Shared->Prop} (hu:A.units+1<cLine) (I:Inv X pins σ H s) (g:DGet H a y (some v)) (ry:RelV y u) (h:∀ w' s',Inv X pins σ H s'->RelV v w'->Q w' s') :
  wpAny (model X.prog X.w) A (getItem (.ref a) u) Q E s:=by
 rcases g with ⟨kvs,k,e,ey,l⟩ | ⟨kvs,k,b,e,ey,eb,l⟩
 ·subst ey
  obtain ⟨z,hd,vs,rel,dd⟩:=a6p I.hok e
  obtain ⟨w',hw,rw'⟩:=RelO.some_of (v:=v) (o:=valueAt vs k) (by rw [l];exact rel.val k)
  exact wpAny_getItem_of (b1j ry) dd.mapOf hw (h w' _ (I.tok _) rw')
 ·subst ey
  cases (show u=Value.ref b from ry)
  obtain ⟨z,hd,xs,rel,dd⟩:=b08 I.hok e
  obtain ⟨w',hw,rw'⟩:=RelO.some_of (v:=v) (o:=(atKey xs k).map (·.2)) (by rw [l];exact rel.val k)
  obtain ⟨p,hp,hp2⟩:=Option.map_eq_some_iff.mp hw
  refine wpAny_getItem_heap (tupleKind_room_in1 hu) (a4m I.hok eb) dd hp ?_
  rw [hp2]
  exact h w' _ (I.tok _) rw'
theorem a5v {h':Heap} {t':Nat} {ob:HO} (I:Inv X pins σ H s) (mu:Mut (H a)) (hs:Heap.SameBut a s.heap h') (he:∃ q,h'.get? a=some q) (new:ObjOk X.prog X.w (upd H a ob) h' a ob) :
  Inv X pins σ (upd H a ob) { s with heap:=h',toks:=t' }:=
 I.write (x:=a) (e:=a) mu (.inl rfl) (λb q hb z=>(hs.2 b hb).trans z) he new
theorem b9u {P:Program} {w:World} {H':Hp} {h':Heap} {kvs:List (Key×V)} {vs:List (Key×Value)} (z:kvs.length<=sizeLine) (hd:(a==sysModules)=false) (rel:KV kvs vs) (dd:h'.DictOf (j4 P w) a vs) :
  ObjOk P w H' h' a (.dK kvs):=⟨z,hd,vs,rel,dd⟩
theorem a7b {H':Hp} {Q:Unit->Shared->Prop} (hu:A.units+1<cLine) (I:Inv X pins σ H s) (g:DPut H a y v H') (ry:RelV y u) (rv:RelV v r) (h:∀ s',Inv X pins σ H' s'->Q () s') :
  wpAny (model X.prog X.w) A (setItem (.ref a) u r) Q E s:=by
 rcases g with ⟨kvs,k,e,ey,l,eH⟩ | ⟨kvs,k,b,e,ey,eb,l,eH⟩
 ·subst ey eH
  obtain ⟨z,hd,vs,rel,dd⟩:=c1b I.hok e
  have hz:vs.length<=sizeLine:=by rw [<- rel.length];exact z
  have hl:(C0 kvs k v).length<=sizeLine:=by have:=Q4 kvs k v;omega
  refine wpAny_setItem_pairs (hsz:=hz) (b1j ry) dd λh' dd' hs=>h _ ?_
  have he:∃ q,h'.get? a=some q:=let ⟨q,_,_,hq,_⟩:=dd';⟨q,hq⟩
  exact a5v I (by rw [e];exact True.intro) hs he (b9u hl hd (rel.put k rv) dd')
 ·subst ey eH
  cases (show u=Value.ref b from ry)
  obtain ⟨z,hd,xs,rel,dd⟩:=c1h I.hok e
  have hz:xs.length<=sizeLine:=by rw [<- Paired.length rel];exact z
  have hl:(C0 kvs k v).length<=sizeLine:=by have:=Q4 kvs k v;omega
  refine wpAny_setItem_heap (hsz:=hz) (tupleKind_room_in1 hu) (a4m I.hok eb) dd λh' dd' hs=>h _ ?_
  obtain ⟨q,es,ep,hq,h2,h3,h4,_,h5⟩:=dd'
  refine a5v I (by rw [e];exact True.intro) hs ⟨q,hq⟩ ⟨hl,hd,_,(rel.put k eb rv).keeps λc ys ec=>?_,q,es,ep,hq,h2,h3,h4,h5⟩
  rw [a4 (b6j ec e (λz=>nomatch z))]
  exact ec
end
section
variable {X:Cx} {pins:List (Addr×Obj)} {σ:St} {H:Hp} {s:Shared} {a:Addr} {kvs:List (Key×V)} {k:Key} {u:Value} {A:Around} {E:Value->Shared->Prop}
theorem c1l {Q:Value->Shared->Prop} (I:Inv X pins σ H s) (e:Rd H a (.dK kvs)) (h:∀ t s',Inv X pins σ H s'->Q (.int kvs.length t) s'):wpAny (model X.prog X.w) A (call (.builtin "len") [.ref a]) Q E s:=by
 obtain ⟨z,hd,vs,rel,dd⟩:=a6p I.hok e
 refine call_len_dict hd dd (by rw [<- rel.length];rw [sizeLine_eq] at z;omega) ?_
 rw [<- rel.length]
 exact h _ _ (I.tok _)
end
theorem a20 {X:Cx} {pins:List (Addr×Obj)} {σ:St} {H:Hp} {s:Shared} {a:Addr} {y:V} {o:Option V} (I:Inv X pins σ H s) (g:DGet H a y o):s.TypeIs (.ref a) "dict":=by
 rcases g with ⟨kvs,k,e,_,_⟩ | ⟨kvs,k,b,e,_,_,_⟩
 ·obtain ⟨_,_,vs,_,dd⟩:=a6p I.hok e
  exact dd.typeIs
 ·obtain ⟨_,_,xs,_,dd⟩:=b08 I.hok e
  exact dd.typeIs
end L2
namespace Att
open PySem PySem.W PySem.Calls PyProof.Rows
theorem R1 {P:Params} {h:Heap}:∀ (ns:List Int) (vs:List Value),WellAll P h vs (ns.map WData.int)->IntsAre vs ns:=by
 intro ns
 induction ns with
 | nil=>
  intro vs w
  rw [List.map_nil] at w
  cases w
  exact .nil
 | cons n ns ih=>
  intro vs w
  rw [List.map_cons] at w
  cases w with
  | cons a b=>
   cases a
   exact .cons _ _ (ih _ b)
theorem a68 {l:OpenLaw} {n:Nat} (hn:l.most=some n) {P:Params} {h:Heap} {args:List WData} {vals:List Value}
  (hpre:l.row.toRowW.claim.pre args=true) (hwl:WellAll P h vals args) :
  ∃ a vs ns,vals=[Value.ref a]/\args=[WData.list (ns.map WData.int)]/\h.get? a=some { cls:=.type "list",data:=.seq vs.toArray }/\IntsAre vs ns/\ns.length<=n:=by
 have hsh:WShape.hasAll [] args [.list .int]=true:=(pre_splitW hpre).1
 have hc:l.pre.holds [] { args:=args }=true:=(pre_splitW hpre).2
 obtain ⟨d,r,rfl,h1,h2⟩:=hasAllW_cons hsh
 obtain rfl:=hasAllW_nil h2
 obtain ⟨xs,rfl,h3⟩:=hasW_list h1
 obtain ⟨ns,rfl⟩:=items_int h3
 have hlen:ns.length<=n:=by
  unfold OpenLaw.pre at hc
  have h4:(WTm.not (.lt (.lit (.int (n:Int))) (.len (.arg 0)))).holds [] { args:=[.list (ns.map .int)] }=true:=by
   have h4:=(holds_andW hc).1
   rw [hn] at h4
   exact h4
  have h5:=condW_of h4 (w_not (w_lt w_lit (w_len_list (w_arg rfl))))
  rw [List.length_map] at h5
  refine Nat.le_of_not_lt λq=>?_
  have q':(n:Int)<((ns.length:Nat):Int):=by omega
  first
   | (rw [decide_eq_true q'] at h5;exact absurd h5 (by decide))
   | (simp at h5;omega)
 cases hwl with
 | cons w1 w2=>
  cases w2
  cases w1 with
  | list ho hall=>exact ⟨_,_,ns,rfl,rfl,ho,R1 ns _ hall,hlen⟩
theorem a7a (l:OpenLaw) (args:List WData):l.row.toRowW.claim.post args (.bool true) args=true:=
 postW_of (r:=l.row.toRowW) (X:=(true==true))
  (show WShape.has [] (.bool true) .bool=true by first | rfl | decide | simp [WShape.has,WShape.arms,WShape.armsAll])
  (show (WTm.eq .res (.lit (.bool true))).value [] { args:=args,res:=some (.bool true),after:=args }=some (.bool (true==true)) from w_eq_bool (w_res rfl) w_lit) rfl
theorem attach_call {l:OpenLaw} {n:Nat} {q:Program} {loose:List Str} {XP:(Str->Option Value)->Heap->Prop} {YP:World->Heap->Prop} {d:DefRec}
  (hn:l.most=some n) (hdf:d.params.defaults=[])
  (call:∀ (w:World) (s₀ s₁:Shared) (mg mb:Str->Option Value) (fa:Addr) (o:Obj) (pm cd doc:Value) (a:Addr) (vs:List Value) (ns:List Int),
   Ground q loose [] XP w s₀ mg mb s₁.heap->YP w s₁.heap ->
   s₁.heap.get? fa=some o->o.data=.func (docDef d.name d.params d.body d.scope pm cd doc)->s₁.heap.CodeRec cd d.name->mg d.name=some (.ref fa) ->
   s₁.heap.get? a=some { cls:=.type "list",data:=.seq vs.toArray }->IntsAre vs ns->ns.length<=n->s₁.gens=#[] ->
   codeAny (model l.prog w) callerA (.call (.ref fa) ⟨[.ref a],[]⟩) (λr s'=>r=.ok (.ret (.bool true))/\OldK s₁.heap s'.heap/\s'.os=s₁.os/\AllBare s'.gens) s₁) :
  WalkO q loose XP YP l.row.toRowW d [] (λf vs=>PySem.call f vs):=by
 intro w s₀ s₁ mg mb G Y fa o pm cd doc dV kV ho hd hcd hD hmg hg args vals as hpre hlay hrd hwl hlo
 obtain rfl:dV=.none:=Dflts.none hD hdf
 obtain rfl:kV=.none:=Dflts.noKw hD
 obtain ⟨a,vs,ns,rfl,rfl,hobj,hints,hlen⟩:=a68 hn hpre hwl
 refine enter_call (codeAny_mono (call w s₀ s₁ mg mb fa o pm cd doc a vs ns G Y ho (fd_plain hd) hcd hmg hobj hints hlen hg) λr s' hq=>?_)
 obtain ⟨rfl,h2,h3,h4⟩:=hq
 exact ⟨.inl ⟨.bool true,.bool true,[],rfl,λ_=>rfl,.bool true,a7a l _,λ_=>⟨List.Pairwise.nil,λ_ hm=>(nomatch hm)⟩⟩,h2,h3,h4⟩
end Att
namespace L2
open PySem PySem.Spec PyProof.Rows
theorem B4:∀ {vs:List Value} {ns:List Int},IntsAre vs ns->Vals (ns.map V.int) vs
 | _,_,.nil=>.nil
 | _,_,.cons n t h=>.cons ⟨t,rfl⟩ (B4 h)
def b7w (H:Hp):Prop:=∀ b,H b=none\/∃ o xs,H b=some (.frz o (.lst xs))
theorem b0n {P:Program} {w:World} {K:PySem.W.Frag} {mg mb:Str->Option Value} {CX:CXT} {k:Nat} {fa a:Addr} {fd:FuncData} {x:Str} {sp:Sp} {s₁:Shared} {vs:List Value} {ns:List Int}
  (KX:K.In s₁.heap) (hns:s₁.heap.Ns mainGlobals mg) (hb:s₁.heap.Ns builtinsNs mb) (hbb:∀ x:Str,x ≠ "__name__"->mb x=bootBuiltins x) (hlim:s₁.heap.NoLimit) (hg:s₁.gens=#[])
  (ha:s₁.heap.get? a=some { cls:=.type "list",data:=.seq vs.toArray }) (hi:IntsAre vs ns) (hl:ns.length<=sizeLine) (hr:Room false k callerA)
  (F:∀ base:Heap,K.In base->base.Ns mainGlobals mg->FnOk P w K mg base CX k fa fd [x] sp) (hbind:∀ (s:Shared) (u:Value),BindsTo s fd ⟨[u],[]⟩ [(x,u)])
  (hsp:∀ H:Hp,b7w H->SqL K H a (ns.map V.int)->sp [.ref a] H (λv _=>v=.bl true) λ_ _ _=>False)
  (hCX:∀ H e s',CX [] H s₁ (λ_ _ _=>False) e s'->False) :
  codeAny (model P w) callerA (.call (.ref fa) ⟨[.ref a],[]⟩) (λr s'=>r=.ok (.ret (.bool true))/\OldK s₁.heap s'.heap/\s'.os=s₁.os/\AllBare s'.gens) s₁:=by
 have rv:=B4 hi
 have lenV:=hi.length
 have core:∀ H:Hp,b7w H->SqL K H a (ns.map V.int)->HOk P w H s₁.heap->(∀ b,H b≠none->b=a)->(H a≠none->K.lookup a=none) ->
   codeAny (model P w) callerA (.call (.ref fa) ⟨[.ref a],[]⟩) (λr s'=>r=.ok (.ret (.bool true))/\OldK s₁.heap s'.heap/\s'.os=s₁.os/\AllBare s'.gens) s₁:=by
  intro H hO hS hok hA hK
  have N8:∀ {b:Addr} {o:Obj},s₁.heap.get? b=some o->H b=none->(a01 s₁.heap H).get? b=some o:=λe n=>b15 e n
  have noA:∀ {b:Addr} {o:Obj} {es:Array DictEntry} {ep:Nat},s₁.heap.get? b=some o->o.data=.dict es ep->H b=none:=λ{b o es ep} e d=>by
   cases q:H b with
   | none=>rfl
   | some u=>
    have e':b=a:=hA b (by rw [q];simp)
    subst e'
    rw [ha] at e;cases e
    have d':Data.seq vs.toArray _=Data.dict es ep:=d
    cases d'
  have nsK:∀ {b:Addr} {m:Str->Option Value},s₁.heap.Ns b m->(a01 s₁.heap H).Ns b m:=λ{b m} ⟨o,es,ep,e,d,r⟩=>⟨o,es,ep,N8 e (noA e d),d,r⟩
  have hKb:K.In (a01 s₁.heap H):=λb o e=>N8 (KX b o e) (by
   cases q:H b with
   | none=>rfl
   | some u=>
    have e':b=a:=hA b (by rw [q];simp)
    subst e'
    rw [hK (by rw [q];simp)] at e;cases e)
  have hM:Mod K mg (a01 s₁.heap H):=⟨hKb,nsK hns,⟨mb,nsK hb,hbb⟩,let ⟨mc,h1,h2⟩:=hlim;⟨mc,nsK h1,h2⟩⟩
  have e0:Env0 P w K mg (a01 s₁.heap H) callerA [] s₁ H:=⟨rfl,hM,λb o e=>b2v e,Nat.le_of_eq (a8n _ _),trivial,λb hb=>absurd (show b∈([]:List Addr) from hb) (by simp),hok,.of_eq hg⟩
  refine codeAny_mono ((F _ hKb (nsK hns)).run callerA [] s₁ H ⟨[.ref a],[]⟩ [.ref a] [.ref a] _ _ hr.any e0 (hbind s₁ (.ref a)) (.cons rfl .nil) (hsp H hO hS)) λr s' h=>?_
  cases r with
  | error e=>exact (hCX H e s' h).elim
  | ok fl=>
   cases fl with
   | next=>exact False.elim h
   | brk=>exact False.elim h
   | cont=>exact False.elim h
   | ret u=>
    obtain ⟨v,H',os,bare,un,hok',r',q⟩:=h
    have q':v=.bl true:=q
    subst q'
    obtain rfl:u=Value.bool true:=r'
    refine ⟨rfl,OldK.of_keep λb o e=>?_,os,bare⟩
    cases q:H b with
    | none=>exact un.keep b o e q (by intro z;exact absurd (show b∈([]:List Addr) from z) (by simp)) (by simp)
    | some u=>
     rcases hO b with z | ⟨ob,xs,z⟩
     ·rw [q] at z;cases z
     ·have z2:=un.frzs b ob _ z
      obtain ⟨e1,_⟩:=hok b _ z
      obtain ⟨e2,_⟩:=hok' b _ z2
      rw [e] at e1;cases e1
      exact e2
 cases hk:K.lookup a with
 | some o=>
  have e:=KX a o hk
  rw [ha] at e
  cases e
  refine core (λ_=>none) (λ_=>.inl rfl) (.inr ⟨_,vs.toArray,_,hk,rfl,rfl,rfl,by rw [List.size_toArray,lenV];exact hl,by simpa using rv⟩) (λb u z=>by have z':(none:Option HO)=some u:=z;cases z') (λb z=>absurd rfl z) λz=>absurd rfl z
 | none=>
  refine core (λb=>if b=a then some (.frz { cls:=.type "list",data:=.seq vs.toArray } (.lst (ns.map V.int))) else none) (λb=>?_) (.inl (.inr ⟨{ cls:=.type "list",data:=.seq vs.toArray },if_pos rfl⟩)) (λb u z=>?_) (λb z=>?_) λ_=>hk
  ·by_cases hb:b=a
   ·exact .inr ⟨_,_,if_pos hb⟩
   ·exact .inl (if_neg hb)
  ·by_cases hb:b=a
   ·have z':=(if_pos hb).symm.trans z
    cases z'
    subst hb
    exact ⟨ha,by rw [List.length_map];exact hl,vs,_,rv,ha⟩
   ·have z':=(if_neg hb).symm.trans z
    cases z'
  ·by_cases hb:b=a
   ·exact hb
   ·exact absurd (if_neg hb) z
theorem walk_of {l:PySem.W.OpenLaw} {n k:Nat} {q:Program} {loose:List Str} {XP:(Str->Option Value)->Heap->Prop} {YP:World->Heap->Prop} {d:DefRec} {K:Params->PySem.W.Frag} {CX:World->CXT} {sp:World->Sp} {x:Str}
  (hn:l.most=some n) (hn2:n<=sizeLine) (hdf:d.params.defaults=[]) (hr:Room false k callerA)
  (hY:∀ (w:World) (h:Heap),YP w h->(K w.params).In h)
  (F:∀ (w:World) (mg:Str->Option Value) (fa:Addr) (h:Heap),(K w.params).In h->h.Ns mainGlobals mg->mg d.name=some (.ref fa) ->
   ∃ fd:FuncData,(∀ (s:Shared) (u:Value),BindsTo s fd ⟨[u],[]⟩ [(x,u)]) /\
    ∀ base:Heap,(K w.params).In base->base.Ns mainGlobals mg->FnOk l.prog w (K w.params) mg base (CX w) k fa fd [x] (sp w))
  (hsp:∀ (w:World) (H:Hp) (a:Addr) (ns:List Int),ns.length<=n->b7w H->SqL (K w.params) H a (ns.map V.int)->sp w [.ref a] H (λv _=>v=.bl true) λ_ _ _=>False)
  (hCX:∀ (w:World) (H:Hp) (s:Shared) (e:Value) (s':Shared),CX w [] H s (λ_ _ _=>False) e s'->False) :
  PySem.W.WalkO q loose XP YP l.row.toRowW d [] (λf vs=>PySem.call f vs):=by
 refine Att.attach_call hn hdf λw s₀ s₁ mg mb fa o pm cd doc a vs ns G Y ho hd hcd hmg hobj hints hlen hg=>?_
 have KX:=hY w _ Y
 obtain ⟨fd,hb,hF⟩:=F w mg fa _ KX G.T.g hmg
 exact b0n KX G.T.g G.T.b G.T.builtins G.T.nolimit hg hobj hints (Nat.le_trans hlen hn2) hr hF hb (λH hO hS=>hsp w H a ns hlen hO hS) λH e s'=>hCX w H s₁ e s'
noncomputable def w8 (s:Stmt):Arguments:=match s with
 | .FunctionDef _ a _ _ _ _ _ _ _ _=>a
 | _=>{ posonlyargs:=[],args:=[],vararg:=none,kwonlyargs:=[],kw_defaults:=[],kwarg:=none,defaults:=[] }
noncomputable def k7 (s:Stmt):List Stmt:=match s with
 | .FunctionDef _ _ b _ _ _ _ _ _ _=>b
 | _=>[]
noncomputable def b8 (s:Stmt):Scope:=match s with
 | .FunctionDef _ _ _ _ _ _ sc _ _ _=>sc
 | _=>{ kind:=.function,names:=[],isGenerator:=false,isCoroutine:=false }
noncomputable abbrev CX0:CXT:=⟨λ_ _ _ _ _ _=>False,false⟩
noncomputable abbrev E0:XK:=λ_ _ _=>False
structure Fun (K:PySem.W.Frag) (x qual:Str) (st:Stmt) (f:Addr) (fd:FuncData):Prop where
 ex:∃ (oc:Value) (od:Option Addr) (kV doc pm:Value) (an:Option Addr) (cdv ct:Value) (osl:Array (Option Value)),
  fd=PySem.W.fnOf x qual (w8 st) (k7 st) (b8 st) .none kV doc pm an cdv ct/\K.lookup f=some ⟨oc,od,.func fd,osl⟩/\PySem.W.codeIn K cdv qual=true
 kp:PySem.W.keepIn K (.ref f)=true
section
variable {P:Program} {w:World} {K:PySem.W.Frag} {mg:Str->Option Value} {base:Heap}
theorem Fun.binds {x qual:Str} {st:Stmt} {f:Addr} {fd:FuncData} {ps:List Str} (F:Fun K x qual st f fd)
  (h:∀ (kV doc pm:Value) (an:Option Addr) (cdv ct:Value) (us:List Value),us.length=ps.length->bindArgs (PySem.W.fnOf x qual (w8 st) (k7 st) (b8 st) .none kV doc pm an cdv ct) ⟨us,[]⟩=pure (ps.zip us)):Binds K fd ps []:=by
 obtain ⟨oc,od,kV,doc,pm,an,cdv,ct,osl,rfl,lk,hcd⟩:=F.ex
 exact .all (h kV doc pm an cdv ct)
theorem b2f {x qual:Str} {st:Stmt} {f:Addr} {oc:Value} {od an:Option Addr} {osl:Array (Option Value)} {kV doc pm cdv ct:Value} (l:K.lookup f=some ⟨oc,od,.func (PySem.W.fnOf x qual (w8 st) (k7 st) (b8 st) .none kV doc pm an cdv ct),osl⟩)
  (c:PySem.W.codeIn K cdv qual=true) (k:PySem.W.keepIn K (.ref f)=true):Fun K x qual st f (PySem.W.fnOf x qual (w8 st) (k7 st) (b8 st) .none kV doc pm an cdv ct):=⟨⟨oc,od,kV,doc,pm,an,cdv,ct,osl,rfl,l,c⟩,k⟩
end
theorem c08 {q:Bool} {A:Around} {k:Nat} (hr:Room q k A):A.units+1<cLine:=Nat.lt_of_le_of_lt (Nat.add_le_add_left (by decide:1<=64) _) hr.units
section
variable {X:Cx}
theorem a74:i5 X (.builtin "len") (λxs H Q=>∃ a kvs,xs=[V.ref a]/\H a=some (.dK kvs)/\Q (.int kvs.length) H):=by
 intro pins s σ H xs us Q I r h
 obtain ⟨a,kvs,rfl,ha,q⟩:=h
 obtain ⟨u,rfl,ru⟩:=E1 r
 cases ru
 exact c1l I (.inl ha) λt s' I'=>⟨.int kvs.length,H,I',⟨t,rfl⟩,q⟩
end
theorem b9x {A B:Prop} (h:A):if true=true then A else B:=by
 rw [if_pos rfl]
 exact h
theorem W7 {α β:Type} (g:β->α->β) {f:α->β->Sem (ForInStep β)}:∀ (l:List α) (c:β),(∀ x∈l,∀ c,f x c=pure (.yield (g c x)))->forIn l c f=pure (l.foldl g c)
 | [],_,_=>rfl
 | x :: l,c,h=>by
  rw [List.forIn_cons,h x List.mem_cons_self,pure_bind]
  exact W7 g l (g c x) λy hy=>h y (List.mem_cons_of_mem _ hy)
noncomputable def j3 (cells:List (Str×Addr)) (acc:List (Str×Addr)) (x:Str×NameKind):List (Str×Addr):=if x.2=NameKind.free then (x.1,(cells.lookup x.1).getD 0) :: acc else acc
noncomputable def L7 (cells:List (Str×Addr)) (names:List (Str×NameKind)):List (Str×Addr):=names.foldl (j3 cells) []
theorem J7 {scope:Scope} {env:Env} (h:∀ x∈scope.names,x.2=NameKind.free->∃ c,env.cells.lookup x.1=some c):closureFor scope env=pure (L7 env.cells scope.names):=by
 simp only [closureFor]
 rw [W7 (j3 env.cells) scope.names [] (λx hx c=>by
  obtain ⟨n,k⟩:=x
  by_cases hk:k=NameKind.free
  ·subst hk
   obtain ⟨a,ha⟩:=h _ hx rfl
   simp [cellOf,j3,ha]
  ·have:(k==NameKind.free)=false:=by simpa using hk
   simp [j3,hk,this])]
 rfl
theorem K2 {cells:List (Str×Addr)}:∀ (names:List (Str×NameKind)) (acc:List (Str×Addr)),(∀ x∈names,x.2=NameKind.free->∃ c,cells.lookup x.1=some c)->(∀ x c,acc.lookup x=some c->cells.lookup x=some c) ->
  ∀ x c,(names.foldl (j3 cells) acc).lookup x=some c->cells.lookup x=some c
 | [],_,_,ha,x,c,e=>ha x c e
 | y :: r,acc,hn,ha,x,c,e=>by
  refine K2 r (j3 cells acc y) (λz hz=>hn z (List.mem_cons_of_mem _ hz)) (λz d q=>?_) x c e
  unfold j3 at q
  split at q
  ·rename_i hk
   obtain ⟨a,hy⟩:=hn y List.mem_cons_self hk
   rw [List.lookup_cons] at q
   split at q
   ·rename_i hz
    have hz':z=y.1:=by simpa using hz
    rw [hy] at q
    rw [hz',hy];exact q
   ·exact ha z d q
  ·exact ha z d q
theorem U9 {cells:List (Str×Addr)}:∀ (names:List (Str×NameKind)) (acc:List (Str×Addr)) (x:Str),(acc.lookup x).isSome=true->((names.foldl (j3 cells) acc).lookup x).isSome=true
 | [],_,_,h=>h
 | y :: r,acc,x,h=>by
  refine U9 r (j3 cells acc y) x ?_
  unfold j3
  split
  ·rw [List.lookup_cons];split
   ·rfl
   ·exact h
  ·exact h
theorem U8 {cells:List (Str×Addr)}:∀ (names:List (Str×NameKind)) (acc:List (Str×Addr)) (x:Str),(x,NameKind.free)∈names->((names.foldl (j3 cells) acc).lookup x).isSome=true
 | [],_,_,h=>nomatch h
 | y :: r,acc,x,h=>by
  rcases List.mem_cons.mp h with h | h
  ·subst h
   refine U9 r _ x ?_
   simp [j3]
  ·exact U8 r _ x h
theorem mem_of_lookup {α β:Type} [BEq α] [LawfulBEq α]:∀ {l:List (α×β)} {x:α} {y:β},l.lookup x=some y->(x,y)∈l
 | [],_,_,h=>by simp at h
 | (a,b) :: r,x,y,h=>by
  rw [List.lookup_cons] at h
  split at h
  ·rename_i hx
   have:x=a:=by simpa using hx
   cases h;subst this;exact List.mem_cons_self
  ·exact List.mem_cons_of_mem _ (mem_of_lookup h)
theorem Q7 {f:Str×NameKind->Str×NameKind} (hf:∀ y,(f y).1=y.1):∀ (l:List (Str×NameKind)) (x:Str),(l.map f).lookup x=(l.lookup x).map λk=>(f (x,k)).2
 | [],_=>rfl
 | (n,k) :: r,x=>by
  rw [List.map_cons,show f (n,k) :: r.map f=((f (n,k)).1,(f (n,k)).2) :: r.map f from rfl,List.lookup_cons,List.lookup_cons,hf]
  cases hx:x==n with
  | true=>
   have e:x=n:=by simpa using hx
   subst e;rfl
  | false=>exact Q7 hf r x
noncomputable def rlF (env:Env) (y:Str×NameKind):Str×NameKind:=if (y.2==.free&&env.scope.kind==.function&&env.kindOf y.1==some .cell) then (y.1,.cell) else (y.1,y.2)
theorem b22 (env:Env) (y:Str×NameKind):(rlF env y).1=y.1:=by unfold rlF;split <;> rfl
theorem D3 (scope:Scope) (env:Env) (x:Str):(relabel scope env).names.lookup x=(scope.names.lookup x).map λk=>(rlF env (x,k)).2:=Q7 (f:=rlF env) (b22 env) scope.names x
theorem Y6 {scope:Scope} {env:Env} {x:Str} (h:scope.names.lookup x=some .free):(relabel scope env).names.lookup x=some .cell\/(relabel scope env).names.lookup x=some .free:=by
 rw [D3,h]
 show some (rlF env (x,.free)).2=_\/some (rlF env (x,.free)).2=_
 unfold rlF
 split
 ·exact .inl rfl
 ·exact .inr rfl
theorem N4 {scope:Scope} {env:Env} {x:Str} {k:NameKind} (h:(relabel scope env).names.lookup x=some k) (hk:k=.cell\/k=.free) (hc:∀ y∈scope.names,y.2≠NameKind.cell):scope.names.lookup x=some .free:=by
 rw [D3] at h
 cases e:scope.names.lookup x with
 | none=>rw [e] at h;cases h
 | some k'=>
  rw [e] at h
  have h':(rlF env (x,k')).2=k:=Option.some.inj h
  have hn:=hc (x,k') (mem_of_lookup e)
  unfold rlF at h'
  split at h'
  ·rename_i hb
   simp only [Bool.and_eq_true,beq_iff_eq] at hb
   exact congrArg some hb.1.1
  ·have h'':k'=k:=h'
   subst h''
   rcases hk with rfl | rfl
   ·exact absurd rfl hn
   ·rfl
theorem HOk.sameBut {P:Program} {w:World} {H:Hp} {h h':Heap} {a:Addr} (ok:HOk P w H h) (hf:H a=none) (hs:Heap.SameBut a h h'):HOk P w H h':=λb ob e=>by
 refine (ok b ob e).stay (λc w' hc q=>(hs.2 c ?_).trans q) (λ_ q=>q) λ_ _ q=>q
 rintro rfl
 rcases hc with rfl | hc
 ·rw [hf] at e;cases e
 ·rw [hf] at hc;cases hc
theorem Un.sameBut {fs ex:List Addr} {H H':Hp} {h h1 h':Heap} {C:Addr} (u:Un fs ex H H' h h1) (hs:Heap.SameBut C h1 h') (hC:h.objs.size<=C):Un fs ex H H' h h':=by
 have ne:∀ b o,h.get? b=some o->b≠C:=λb o e=>Nat.ne_of_lt (Nat.lt_of_lt_of_le (Heap.lt_size e) hC)
 exact ⟨λb o e n hb hx=>(hs.2 b (ne b o e)).trans (u.keep b o e n hb hx),λb o e n hb hx=>let ⟨sl,q⟩:=u.slot b o e n hb hx;⟨sl,(hs.2 b (ne b o e)).trans q⟩,u.free,
  λb o e hx=>let ⟨o',q⟩:=u.there b o e hx;⟨o',(hs.2 b (ne b o e)).trans q⟩,u.tups,u.frzs,u.tbls⟩
noncomputable def a8 (X:Cx) (pins:List (Addr×Obj)) (N':List Str) (scope:Scope) (C:Addr) (fp:List Addr) (s:Shared) (H:Hp):Cx where
 prog:=X.prog
 w:=X.w
 K:=X.K
 mg:=X.mg
 base:=X.base
 A:=X.A
 N:=N'
 s₀:=s
 H₀:=H
 env:=compEnvC scope (L7 X.env.cells scope.names) C X.env
 outer:=X.stack
 stack:=X.stack
 ex:=fp
 fn:=λ_=>false
 calm:=X.calm
 pn:=X.pn++pins
 xe:=λ_ _=>False
structure CompText (N:List Str) (env:Env) (N':List Str) (k:Nat) (caps:List Nat) (scope:Scope):Prop where
 kind:scope.kind=.function
 cell:∀ y∈scope.names,y.2≠NameKind.cell
 loc:∀ y∈scope.names,y.2=NameKind.local->scope.names.lookup y.1=some .local
 free:∀ y∈scope.names,y.2=NameKind.free->scope.names.lookup y.1=some .free/\(env.scope.names.lookup y.1=some .cell\/env.scope.names.lookup y.1=some .free)
 cps:∀ (j i:Nat),caps[j]?=some i->∃ x,N[i]?=some x/\N'[k+j]?=some x/\scope.names.lookup x=some .free
 len:N'.length=k+caps.length
noncomputable def s0 (caps:List Nat) (σ:St):St:=caps.map λi=>(σ[i]?).join
theorem b2l {caps:List Nat} {σ:St} {j:Nat} {v:V} (h:(s0 caps σ)[j]?=some (some v)):∃ i,caps[j]?=some i/\σ[i]?=some (some v):=by
 unfold s0 at h
 rw [List.getElem?_map] at h
 cases e:caps[j]? with
 | none=>rw [e] at h;cases h
 | some i=>
  rw [e] at h
  refine ⟨i,rfl,?_⟩
  have h':(σ[i]?).join=some v:=Option.some.inj h
  cases q:σ[i]? with
  | none=>rw [q] at h';cases h'
  | some o=>rw [q] at h';exact congrArg some h'
section
variable {X:Cx} {pins:List (Addr×Obj)} {σ:St} {H:Hp} {s:Shared} {N':List Str} {k:Nat} {caps:List Nat} {scope:Scope} {fp:List Addr}
theorem b5x (T:CompText X.N X.env N' k caps scope) (I:Inv X pins σ H s) (hf:∀ b∈fp,U7 X pins H b) {C:Addr} (hC:s.heap.objs.size<=C) (hlt:∀ b∈fp,b<s.heap.objs.size):(a8 X pins N' scope C fp s H).Ok:=by
 have fr:∀ x∈scope.names,x.2=NameKind.free->∃ c,X.env.cells.lookup x.1=some c:=λx hx hk=>I.ok.has x.1 (T.free x hx hk).2
 have snd:∀ x c,(L7 X.env.cells scope.names).lookup x=some c->X.env.cells.lookup x=some c:=K2 scope.names [] fr λx c e=>by simp at e
 refine ⟨I.mod,?_,I.ok.glob,I.ok.blt,hC,λx y c a b=>I.ok.inj x y c (snd x c a) (snd y c b),λx hx=>?_,λx c hfn=>(by cases hfn),I.ok.hd,I.ok.frames,.inl rfl,λb hb=>⟨?_,λx c e=>(hf b hb).2.2.2.2.1 x c (snd x c e)⟩,I.bs,?_,λb o e hb=>?_,λb hb hfs=>?_,I.stack,I.stkFree⟩
 ·exact T.kind
 ·have h:scope.names.lookup x=some .free:=by
   rcases hx with hx | hx
   ·exact N4 hx (.inl rfl) T.cell
   ·exact N4 hx (.inr rfl) T.cell
  exact Option.isSome_iff_exists.mp (U8 scope.names [] x (mem_of_lookup h))
 ·exact Nat.ne_of_lt (Nat.lt_of_lt_of_le (hlt b hb) hC)
 ·exact Nat.le_trans I.ok.bsz I.sz
 ·rcases (hf b hb).2.2.2.1 with z | z
  ·exact I.ok.noex b o e z
  ·exact absurd (Nat.lt_of_lt_of_le (Heap.lt_size (I.ok.bs b o e).1) z) (Nat.lt_irrefl _)
 ·rcases List.mem_cons.mp (I.stkSub b hfs) with z | z
  ·exact (hf b hb).2.1 z
  ·exact (hf b hb).2.2.1 z
theorem W9 (T:CompText X.N X.env N' k caps scope) (I:Inv X pins σ H s) (hf:∀ b∈fp,U7 X pins H b) (hlt:∀ b∈fp,b<s.heap.objs.size) {h':Heap} {m:Str->Option Value} {t:Nat}
  (hn:h'.Ns (s.heap.objs.size+1) m) (hk:∀ b o,s.heap.get? b=some o->h'.get? b=some o) (ha:h'.get? s.heap.objs.size=some { cls:=.type "list",data:=.seq #[] }) :
  Inv (a8 X pins N' scope (s.heap.objs.size+1) fp s H) [] (List.replicate k none++s0 caps σ) (upd H s.heap.objs.size (.lst [])) { s with heap:=h',toks:=t }:=by
 have ok:=b5x T I hf (C:=s.heap.objs.size+1) (Nat.le_succ _) hlt
 have fr:∀ x∈scope.names,x.2=NameKind.free->∃ c,X.env.cells.lookup x.1=some c:=λx hx hk=>I.ok.has x.1 (T.free x hx hk).2
 have snd:∀ x c,(L7 X.env.cells scope.names).lookup x=some c->X.env.cells.lookup x=some c:=K2 scope.names [] fr λx c e=>by simp at e
 have nacc:H s.heap.objs.size=none:=I.hok.fresh (Nat.le_refl _)
 have lt:∀ b u,H b=some u->b<s.heap.objs.size:=λb u e=>I.hok.lt e
 refine ⟨ok,rfl,I.bare,Un.laid hk (Nat.le_refl _) nacc,⟨m,hn,λi x v e1 e2 e3=>?_⟩,λx c e=>?_,?_,λx c e=>?_,λp hp=>?_,I.hok.laid hk (Nat.le_refl _) ⟨Nat.zero_le _,[],_,.nil,ha⟩,?_⟩
 ·by_cases hi:i<k
  ·rw [List.getElem?_append_left (by simpa using hi)] at e2
   simp [hi] at e2
  ·rw [List.getElem?_append_right (by simpa using Nat.le_of_not_lt hi)] at e2
   rw [List.length_replicate] at e2
   obtain ⟨j,hj,hv⟩:=b2l e2
   obtain ⟨y,h1,h2,h3⟩:=T.cps _ _ hj
   have hik:k+(i-k)=i:=by omega
   rw [hik] at h2
   have hxy:y=x:=Option.some.inj (h2.symm.trans e1)
   subst hxy
   have hvis:=(T.free (y,.free) (mem_of_lookup h3) rfl).2
   obtain ⟨mX,hnX,hlX⟩:=I.loc
   obtain ⟨u,r,l⟩:=hlX j y v h1 hv (by rcases hvis with z | z;exact .inr (.inl z);exact .inr (.inr z))
   refine ⟨u,r,?_⟩
   rcases l with ⟨hk',_⟩ | ⟨_,c,hc,hcell⟩
   ·have hk'':X.env.scope.names.lookup y=some .local:=hk'
    rcases hvis with z | z
    ·rw [hk''] at z;cases z
    ·rw [hk''] at z;cases z
   ·obtain ⟨c',hc'⟩:=Option.isSome_iff_exists.mp (U8 (cells:=X.env.cells) scope.names [] y (mem_of_lookup h3))
    have:c'=c:=Option.some.inj ((snd y c' hc').symm.trans hc)
    subst this
    obtain ⟨oc,ho,hd⟩:=hcell
    exact .inr ⟨Y6 h3,c',hc',oc,hk _ _ ho,hd⟩
 ·obtain ⟨v,oc,ho,hd⟩:=I.cell x c (snd x c e)
  exact ⟨v,oc,hk _ _ ho,hd⟩
 ·show upd H s.heap.objs.size (.lst []) (s.heap.objs.size+1)=none
  rw [a4 (Nat.succ_ne_self _)]
  exact I.hok.fresh (Nat.le_succ _)
 ·obtain ⟨v,oc,ho,hd⟩:=I.cell x c (snd x c e)
  rw [a4 (Nat.ne_of_lt (Heap.lt_size ho))]
  exact I.freeC x c (snd x c e)
 ·have hp':p∈X.pn++pins:=by
   have:p∈(X.pn++pins)++[]:=hp
   rwa [List.append_nil] at this
  obtain ⟨e,n,ne,nf,d⟩:=I.pin p hp'
  refine ⟨hk _ _ e,?_,Nat.ne_of_lt (Nat.lt_succ_of_lt (Heap.lt_size e)),λhb=>?_,d⟩
  ·rw [a4 (Nat.ne_of_lt (Heap.lt_size e))];exact n
  ·rcases List.mem_cons.mp (I.stkSub p.1 hb) with z | z
   ·exact ne z
   ·exact nf z
 ·show _=N'.length
  rw [T.len,List.length_append,List.length_replicate]
  unfold s0
  rw [List.length_map]
end
def PTL (X:Cx) (ifs:List Expr) (t:TT):Prop:=
 ∀ (pins:List (Addr×Obj)) (s:Shared) (σ:St) (H:Hp) (Q:Bool->Hp->Prop),Inv X pins σ H s->t σ H Q ->
  wpAny (model X.prog X.w) X.A (forIn ifs true λc r=>if r=true then do let ok <- isTrue c X.env (eval c X.env);pure (ForInStep.yield ok) else pure (ForInStep.yield r)) (TP X pins σ Q) X.xe s
def tTrue:TT:=λ_ H Q=>Q true H
theorem b5q {X:Cx}:PTL X [] tTrue:=λ_ _ _ H _ I h=>by
 rw [List.forIn_nil]
 exact wpAny_pure ⟨H,I,h⟩
theorem b4h {X:Cx} {c:Expr} {t:TT} (h:PT X c t):PTL X [c] t:=λpins s σ H Q I q=>by
 rw [List.forIn_cons]
 refine wpAny_bind ?_
 rw [if_pos rfl]
 refine wpAny_bind (thn (h pins s σ H Q I q) λb s' ⟨H',I',q'⟩=>wpAny_pure ?_)
 dsimp only
 rw [List.forIn_nil]
 exact wpAny_pure ⟨H',I',q'⟩
def b57 (caps:List Nat) (wi:TI) (tc:TT) (te:TE):TE:=λσ H Q=>wi σ H λJ H1=>∀ acc,H1 acc=none->∃ W:Nat->Nat->List V->Hp->Prop,(∃ m,W 0 m [] (upd H1 acc (.lst []))) /\
 ∀ i m ys H2,W i m ys H2->H2 acc=some (.lst ys)/\((J.stop i H2/\Q (.ref acc) H2)\/(J.go i H2/\∀ x H3,J.yld i H2 x H3->tc (some x :: s0 caps σ) H3 λb H5=>
  if b=true then te (some x :: s0 caps σ) H5 λy H6=>H6 acc=some (.lst ys)/\ys.length<sizeLine/\∃ m',m'<m/\W (i+1) m' (ys++[y]) (upd H6 acc (.lst (ys++[y])))
  else ∃ m',m'<m/\W (i+1) m' ys H5))
theorem B9 {M:Model} {A:Around} {E:Value->Shared->Prop} {s:Shared} {α:Type} {t:Sem α} {Q:α->Shared->Prop} {u:Sem Unit} (hu:u=pure ()) (h:wpAny M A u (λ_ s1=>wpAny M A t Q E s1) E s):wpAny M A t Q E s:=by
 have h1:=wpAny_bind (f:=λ_=>t) h
 rw [hu,pure_bind] at h1
 exact h1
theorem d7 {M:Model} {A:Around} {E:Value->Shared->Prop} {s:Shared} {α:Type} {t:Sem α} {Q:α->Shared->Prop} (h:wpAny M A t Q (λ_ _=>False) s):wpAny M A t Q E s:=wpAny_mono h (λ_ _ q=>q) λ_ _ q=>q.elim
theorem b51 {X:Cx} {elt iter:Expr} {x:Str} {px:Pos} {ifs:List Expr} {scope:Scope} {pos:Pos} {N':List Str} {caps:List Nat} {wi:TI} {tc:TT} {te:TE}
  (T:CompText X.N X.env N' 1 caps scope) (hc:X.calm=true) (hN:N'.Nodup) (hx0:N'[0]?=some x) (hxl:scope.names.lookup x=some .local) (hi:PI X (.Name x px) iter wi)
  (ht:∀ pins C fp s H,PTL (a8 X pins N' scope C fp s H) ifs tc) (he:∀ pins C fp s H,PE (a8 X pins N' scope C fp s H) elt te)
  (hs:∀ x,foldedSetIterable iter X.env x=pure x:=by intro _;rfl):PE X (.ListComp elt [⟨.Name x px,iter,ifs,0⟩] scope pos) (b57 caps wi tc te):=by
 intro pins s σ H Q I h
 have fr:∀ x∈scope.names,x.2=NameKind.free->∃ c,X.env.cells.lookup x.1=some c:=λx hx hk=>I.ok.has x.1 (T.free x hx hk).2
 rw [eval_ListComp]
 refine wpAny_comprehension_free (use:=none) rfl hs (J7 fr) T.kind T.loc ?_
 refine thn (hi pins s σ H _ I h) λv s1 h1=>thn h1 λitv s2 h2=>?_
 obtain ⟨it,fp,tn,J,H2,rfl,I2,Tn,st2,f2,h2⟩:=h2
 obtain ⟨W,⟨m0,w0⟩,turn⟩:=h2 s2.heap.objs.size (I2.hok.fresh (Nat.le_refl _))
 have hlt:∀ b∈fp,b<s2.heap.objs.size:=λb hb=>let ⟨o,e,_⟩:=Tn.obj _ _ st2 b hb;Heap.lt_size e
 refine wpAny_newObj_type (wpAny_newFunctionEnv T.cell (by intro y hy;simp at hy) (λh₁ hns₁ hsb₁=>?_) T.kind)
 dsimp only at hns₁ hsb₁ ⊢
 have hC:(s2.heap.push { cls:=.type "list",dict:=none,data:=.seq ([]:List Value).toArray }).objs.size=s2.heap.objs.size+1:=Heap.size_push ..
 rw [hC] at hns₁ hsb₁
 have old:∀ b o,s2.heap.get? b=some o->h₁.get? b=some o:=λb o e=>hsb₁.extBut b o (Nat.ne_of_lt (Nat.lt_succ_of_lt (Heap.lt_size e))) (Heap.get?_push_of_some _ (Heap.get?_push_of_some _ e))
 have hacc:h₁.get? s2.heap.objs.size=some { cls:=.type "list",data:=.seq #[] }:=hsb₁.extBut _ _ (Nat.ne_of_lt (Nat.lt_succ_self _)) (Heap.get?_push_of_some _ (Heap.get?_push_size _ rfl))
 have hst₁:tn 0 h₁:=Tn.keep _ _ _ st2 λb _ o e=>old b o e
 have I3:=W9 (t:=s2.toks+([]:List (Str×Value)).length) T I2 f2 hlt hns₁ old hacc
 have stat:∀ {H':Hp},(∀ b∈fp,H' b=none)->∀ b∈fp,U7 (a8 X pins N' scope (s2.heap.objs.size+1) fp s2 H2) [] H' b:=λhn b hb=>by
  refine ⟨hn b hb,(I3.ok.exf b hb).1,I3.ok.exfs b hb,.inl hb,(I3.ok.exf b hb).2,λp hp=>?_⟩
  have hp':p∈X.pn++pins:=by
   have:p∈(X.pn++pins)++[]:=hp
   rwa [List.append_nil] at this
  exact (f2 b hb).2.2.2.2.2 p hp'
 have loop:∀ s3:Shared,s3={ s2 with heap:=h₁,toks:=s2.toks+([]:List (Str×Value)).length } ->
   codeAny (model X.prog X.w) X.A (.compLoop (.ListComp elt [⟨.Name x px,iter,ifs,0⟩] scope pos) 0 (.ref it) (.ref s2.heap.objs.size) (compEnvC scope (L7 X.env.cells scope.names) (s2.heap.objs.size+1) X.env))
    (compPost (model X.prog X.w) X.A X.xe none (EP X pins σ Q) (.ref s2.heap.objs.size) (s2.heap.objs.size+1)) s3:=by
  rintro s3 rfl
  refine codeAny_compLoop_tests (λn s'=>∃ i ys H',Inv (a8 X pins N' scope (s2.heap.objs.size+1) fp s2 H2) [] (none :: s0 caps σ) H' s'/\tn i s'.heap/\(∀ b∈fp,H' b=none)/\W i n ys H') ?_ m0
   ⟨0,[],_,I3,hst₁,λb hb=>by rw [a4 (Nat.ne_of_lt (hlt b hb))];exact (f2 b hb).1,w0⟩ (λ_=>rfl)
  rintro n s4 ⟨i,ys,H4,I4,st4,fr4,w4⟩
  obtain ⟨hacc4,turn4⟩:=turn i n ys H4 w4
  refine d7 ?_
  rcases turn4 with ⟨stop,q⟩ | ⟨go,step⟩
  ·refine thn (Tn.done (a8 X pins N' scope (s2.heap.objs.size+1) fp s2 H2) rfl rfl rfl hc i [] s4 _ H4 (λ_ _=>False) I4 (stat fr4) st4 stop) λr s5 ⟨hr,I5⟩=>?_
   subst hr
   obtain ⟨m5,hn5,_⟩:=id I5.loc
   refine ⟨m5,hn5,λh' hs'=>?_⟩
   refine ⟨.ref s2.heap.objs.size,H4,?_,rfl,q⟩
   refine I2.call' (ch:=fp) (s':={ s5 with heap:=h' }) I5.os (Un.sameBut I5.base hs' (Nat.le_succ _)) (I5.hok.sameBut I5.free hs') I5.bare λb hb=>?_
   have:=f2 b hb
   exact ⟨this.2.2.2.1,this.2.1,this.2.2.2.2.1,this.2.2.2.2.2⟩
  ·refine thn (Tn.item (a8 X pins N' scope (s2.heap.objs.size+1) fp s2 H2) rfl rfl rfl hc i [] s4 _ H4 (λ_ _=>False) I4 (stat fr4) st4 go) λr s5 ⟨u,hr,h5⟩=>?_
   subst hr
   dsimp only
   refine d7 (B9 (u:=letOwnedTupleGo (.Name x px) (.ref it) u) rfl (thn h5 λ_ s6 ⟨xv,H6,I6,r6,y6,st6,fr6⟩=>?_))
   have I6':=I6.pinned (stat fr6) (Tn.obj _ _ st6)
   refine thn (N2 (X:=a8 X pins N' scope (s2.heap.objs.size+1) fp s2 H2) (i:=0) hN hx0 (.inl (lookup_relabel_local hxl)) (.inr (lookup_relabel_local hxl)) _ s6 _ H6 xv u (λσ2 H4=>σ2=some xv :: s0 caps σ/\H4=H6) I6' r6 ⟨rfl,rfl⟩) λ_ s7 ⟨σ7,H7,I7,e7,e7'⟩=>?_
   subst e7 e7'
   have back:∀ {σ8:St} {H8:Hp} {s8:Shared},Inv (a8 X pins N' scope (s2.heap.objs.size+1) fp s2 H2) ([]++p0 fp s6.heap) σ8 H8 s8->tn (i+1) s8.heap/\∀ b∈fp,H8 b=none:=λ{σ8 H8 s8} I8=>by
    refine ⟨Tn.keep _ _ _ st6 λb hb o e=>(I8.pin (b,o) (List.mem_append_right _ (List.mem_append_right _ (j6 hb e)))).1,λb hb=>?_⟩
    obtain ⟨o,e,d⟩:=Tn.obj _ _ st6 b hb
    exact (I8.pin (b,o) (List.mem_append_right _ (List.mem_append_right _ (j6 hb e)))).2.1
   refine d7 (thn (ht pins _ fp s2 H2 _ s7 _ _ _ I7 (step xv _ y6)) λb s8 ⟨H8,I8,q8⟩=>?_)
   have wk:∀ {H9:Hp} {s9:Shared},Inv (a8 X pins N' scope (s2.heap.objs.size+1) fp s2 H2) ([]++p0 fp s6.heap) (some xv :: s0 caps σ) H9 s9->Inv (a8 X pins N' scope (s2.heap.objs.size+1) fp s2 H2) [] (none :: s0 caps σ) H9 s9:=λ{H9 s9} I9=>
    I9.unpinned.weak rfl λj v e=>by
     cases j with
     | zero=>simp at e
     | succ j=>simpa using e
   cases b with
   | false=>
    obtain ⟨m',hm,w'⟩:=q8
    exact ⟨m',hm,i+1,ys,H8,wk I8,(back I8).1,(back I8).2,w'⟩
   | true=>
    refine d7 (thn (he pins _ fp s2 H2 _ s8 _ H8 _ I8 q8) λz s9 ⟨y,H9,I9,r9,hacc9,hl9,m',hm,w'⟩=>?_)
    refine d7 (thn (O9 (X:=a8 X pins N' scope (s2.heap.objs.size+1) fp s2 H2) _ s9 _ H9 (.ref s2.heap.objs.size) [y] (.ref s2.heap.objs.size) [z] (λ_ H'=>H'=upd H9 s2.heap.objs.size (.lst (ys++[y]))) I9 rfl (.cons r9 .nil) ⟨_,ys,y,rfl,rfl,hacc9,hl9,rfl⟩) λ_ s10 ⟨_,H10,I10,_,e10⟩=>?_)
    subst e10
    exact ⟨m',hm,i+1,ys++[y],_,wk I10,(back I10).1,(back I10).2,w'⟩
 have fin:=codeAny_compStart_list (loop _ rfl) (Tn.self _ 0 _ _ _ hst₁ (loop _ rfl))
 rw [<- hC] at fin
 exact fin
section
variable {prog:Program} {w:World} {A:Around} {R:Result->Shared->Prop} {s:Shared}
theorem a2b (elt t0 i0 target iter:Expr) (ifs0 ifs:List Expr) (scope:Scope) (pos:Pos) (it acc:Value) (env:PySem.Env) :
  compTurn (.ListComp elt [⟨t0,i0,ifs0,0⟩,⟨target,iter,ifs,0⟩] scope pos) 1 it acc env=(do
   standAt iter.pos
   match <- pyNext it with
   | none=>pure (.done .next)
   | some v=>
    letOwnedTupleGo target it v
    assign target env v
    let mut ok:=true
    for c in ifs do
     if ok then ok <- isTrue c env (eval c env)
    if ok then
     (do let _ <- call (.builtin "list.append") [acc,<- eval elt env])
    again (.compLoop (.ListComp elt [⟨t0,i0,ifs0,0⟩,⟨target,iter,ifs,0⟩] scope pos) 1 it acc env)):=by rfl
theorem b3n {elt t0 i0 target iter:Expr} {ifs0 ifs:List Expr} {scope:Scope} {pos:Pos} {it acc:Value} {env:PySem.Env} (I:Nat->Shared->Prop)
  (turn:∀ n s,I n s->wpAny (model prog w) A (pyNext it) (λr s₁=>match r with
   | none=>R (.ok .next) s₁
   | some v=>wpAny (model prog w) A (assign target env v) (λ_ s₂=>
     wpAny (model prog w) A (forIn ifs true λc r=>if r=true then do let ok <- isTrue c env (eval c env);pure (ForInStep.yield ok) else pure (ForInStep.yield r)) (λok s₃=>
      if ok=true then wpAny (model prog w) A (eval elt env) (λx s₄=>
       wpAny (model prog w) A (call (.builtin "list.append") [acc,x]) (λ_ s₅=>∃ m,m<n/\I m s₅) (notedBy (model prog w) A env λe s'=>R (.error e) s') s₄) (notedBy (model prog w) A env λe s'=>R (.error e) s') s₃
      else ∃ m,m<n/\I m s₃) (notedBy (model prog w) A env λe s'=>R (.error e) s') s₂) (notedBy (model prog w) A env λe s'=>R (.error e) s') s₁) (notedBy (model prog w) A env λe s'=>R (.error e) s') s)
  (n:Nat) (h:I n s) (ht:∀ v,letOwnedTupleGo target it v=pure ():=by intro _;rfl) :
  codeAny (model prog w) A (.compLoop (.ListComp elt [⟨t0,i0,ifs0,0⟩,⟨target,iter,ifs,0⟩] scope pos) 1 it acc env) R s:=by
 refine codeAny_loop rfl I (λn s hI=>?_) n h
 show wpAny _ A ((compTurn (.ListComp elt [⟨t0,i0,ifs0,0⟩,⟨target,iter,ifs,0⟩] scope pos) 1 it acc env).onRaise (λx=>do noteFrame x env;theTreesLotGoes x)) _ _ s
 refine wpAny_noted ?_
 rw [a2b]
 refine wpAny_bind (wpAny_standAt (wpAny_bind (wpAny_mono (turn n s hI) (λr s₁ h₁=>?_) λ_ _ h'=>h')))
 cases r with
 | none=>exact wpAny_pure h₁
 | some v=>
  refine wpAny_bind (wpAny_of_eq (ht v) ?_)
  refine wpAny_bind (wpAny_mono h₁ (λ_ s₂ h₂=>wpAny_bind (wpAny_mono h₂ (λok s₃ h₃=>?_) λ_ _ h'=>h')) λ_ _ h'=>h')
  cases ok with
  | false=>exact wpAny_pure ⟨rfl,h₃⟩
  | true=>
   exact wpAny_bind (wpAny_bind (wpAny_mono h₃ (λx s₄ h₄=>wpAny_bind (wpAny_mono h₄ (λ_ s₅ h₅=>wpAny_pure (wpAny_pure ⟨rfl,h₅⟩)) λ_ _ h'=>h')) λ_ _ h'=>h'))
theorem b0q {elt t0 i0 target iter:Expr} {ifs0 ifs:List Expr} {scope:Scope} {pos:Pos} {it acc:Value} {env:PySem.Env}
  (h0:codeAny (model prog w) A (.compLoop (.ListComp elt [⟨t0,i0,ifs0,0⟩,⟨target,iter,ifs,0⟩] scope pos) 1 it acc env) R s)
  (h:wpAny (model prog w) A (pyIter it) (λit' s'=>codeAny (model prog w) A (.compLoop (.ListComp elt [⟨t0,i0,ifs0,0⟩,⟨target,iter,ifs,0⟩] scope pos) 1 it' acc env) R s')
   (notedBy (model prog w) A env λx s'=>R (.error x) s') s) :
  codeAny (model prog w) A (.compStart (.ListComp elt [⟨t0,i0,ifs0,0⟩,⟨target,iter,ifs,0⟩] scope pos) 1 it acc env) R s:=by
 refine codeAny_of_tree ?_
 show wpAny _ _ ((compStart (.ListComp elt [⟨t0,i0,ifs0,0⟩,⟨target,iter,ifs,0⟩] scope pos) 1 it acc env).onRaise (λx=>do noteFrame x env;standAt theWindowsPlace)) _ _ s
 refine wpAny_notedAt ?_
 unfold compStart
 show wpAny _ _ (ask >>= _) _ _ s
 refine wpAny_bind (wpAny_askSetting (wpAny_ite ?_))
 split
 ·first
   | exact wpAny_bind (wpAny_pure (wpAny_pure (And.intro rfl h0)))
   | exact wpAny_pure (And.intro rfl h0)
 ·first
   | exact wpAny_bind (wpAny_rule (wpAny_bind (wpAny_standAt (wpAny_bind (wpAny_mono h (λit' s' h'=>wpAny_pure (And.intro rfl h')) λ_ _ x=>x)))))
   | (refine wpAny_bind (wpAny_rule ?_);show wpAny _ _ (standAt iter.pos >>= _) _ _ s;exact wpAny_bind (wpAny_standAt (wpAny_bind (wpAny_mono h (λit' s' h'=>wpAny_pure (And.intro rfl h')) λ_ _ x=>x))))
theorem a3h (elt t0 i0 target iter:Expr) (ifs0 ifs:List Expr) (scope:Scope) (pos:Pos) (it acc:Value) (env:PySem.Env) :
  compTurn (.ListComp elt [⟨t0,i0,ifs0,0⟩,⟨target,iter,ifs,0⟩] scope pos) 0 it acc env=(do
   standAt i0.pos
   match <- pyNext it with
   | none=>pure (.done .next)
   | some v=>
    letOwnedTupleGo t0 it v
    assign t0 env v
    let mut ok:=true
    for c in ifs0 do
     if ok then ok <- isTrue c env (eval c env)
    if ok then
     let x <- eval iter env
     standAt iter.pos
     let x <- foldedSetIterable iter env x
     let _ <- runOwn (.compStart (.ListComp elt [⟨t0,i0,ifs0,0⟩,⟨target,iter,ifs,0⟩] scope pos) 1 (<- holding [x] (pyIter x)) acc env) env
    again (.compLoop (.ListComp elt [⟨t0,i0,ifs0,0⟩,⟨target,iter,ifs,0⟩] scope pos) 0 it acc env)):=by rfl
theorem b3e {elt t0 i0 target iter:Expr} {ifs0 ifs:List Expr} {scope:Scope} {pos:Pos} {it acc:Value} {env:PySem.Env} (I:Nat->Shared->Prop)
  (turn:∀ n s,I n s->wpAny (model prog w) A (pyNext it) (λr s₁=>match r with
   | none=>R (.ok .next) s₁
   | some v=>wpAny (model prog w) A (assign t0 env v) (λ_ s₂=>
     wpAny (model prog w) A (forIn ifs0 true λc r=>if r=true then do let ok <- isTrue c env (eval c env);pure (ForInStep.yield ok) else pure (ForInStep.yield r)) (λok s₃=>
      if ok=true then wpAny (model prog w) A (eval iter env) (λx s₄=>
       wpAny (model prog w) A (pyIter x) (λitv s₅=>codeAny (model prog w) A (.compStart (.ListComp elt [⟨t0,i0,ifs0,0⟩,⟨target,iter,ifs,0⟩] scope pos) 1 itv acc env) (λr s₆=>match r with
        | .ok _=>∃ m,m<n/\I m s₆
        | .error _=>False) s₅) (λ_ _=>False) s₄) (λ_ _=>False) s₃
      else ∃ m,m<n/\I m s₃) (λ_ _=>False) s₂) (λ_ _=>False) s₁) (λ_ _=>False) s)
  (n:Nat) (h:I n s) (hfs:∀ x,foldedSetIterable iter env x=pure x) (ht:∀ v,letOwnedTupleGo t0 it v=pure ():=by intro _;rfl) :
  codeAny (model prog w) A (.compLoop (.ListComp elt [⟨t0,i0,ifs0,0⟩,⟨target,iter,ifs,0⟩] scope pos) 0 it acc env) R s:=by
 refine codeAny_loop rfl I (λn s hI=>?_) n h
 show wpAny _ A ((compTurn (.ListComp elt [⟨t0,i0,ifs0,0⟩,⟨target,iter,ifs,0⟩] scope pos) 0 it acc env).onRaise (λx=>do noteFrame x env;theTreesLotGoes x)) _ _ s
 refine wpAny_noted ?_
 rw [a3h]
 refine wpAny_bind (wpAny_standAt (wpAny_bind (wpAny_mono (turn n s hI) (λr s₁ h₁=>?_) λ_ _ h'=>h'.elim)))
 cases r with
 | none=>exact wpAny_pure h₁
 | some v=>
  refine wpAny_bind (wpAny_of_eq (ht v) ?_)
  refine wpAny_bind (wpAny_mono h₁ (λ_ s₂ h₂=>wpAny_bind (wpAny_mono h₂ (λok s₃ h₃=>?_) λ_ _ h'=>h'.elim)) λ_ _ h'=>h'.elim)
  cases ok with
  | false=>exact wpAny_pure ⟨rfl,h₃⟩
  | true=>
   refine wpAny_bind (wpAny_mono h₃ (λx s₄ h₄=>wpAny_bind (wpAny_standAt ?_)) λ_ _ h'=>h'.elim)
   rw [hfs x]
   refine wpAny_bind (wpAny_pure (wpAny_bind (wpAny_holding (wpAny_mono h₄ (λitv s₅ h₅=>?_) λ_ _ h'=>h'.elim))))
   refine wpAny_bind (wpAny_runOwn (codeAny_mono h₅ λr s₆ h₆=>?_))
   cases r with
   | ok f=>exact wpAny_pure ⟨rfl,h₆⟩
   | error e=>exact h₆.elim
end
def b01 (caps:List Nat) (wi:TI) (tc:TT) (wi1:TI) (tc1:TT) (te:TE):TE:=λσ H Q=>wi σ H λJ H1=>∀ acc,H1 acc=none->∃ W:Nat->Nat->List V->Hp->Prop,(∃ m,W 0 m [] (upd H1 acc (.lst []))) /\
 ∀ i m ys H2,W i m ys H2->H2 acc=some (.lst ys)/\((J.stop i H2/\Q (.ref acc) H2)\/(J.go i H2/\∀ x H3,J.yld i H2 x H3->tc (some x :: none :: s0 caps σ) H3 λb H5=>
  if b=true then wi1 (some x :: none :: s0 caps σ) H5 λJ1 H6=>∃ W1:Nat->Nat->List V->Hp->Prop,(∃ m1,W1 0 m1 ys H6) /\
   ∀ j m1 zs H7,W1 j m1 zs H7->H7 acc=some (.lst zs)/\((J1.stop j H7/\∃ m',m'<m/\W (i+1) m' zs H7)\/(J1.go j H7/\∀ y H8,J1.yld j H7 y H8->tc1 (some x :: some y :: s0 caps σ) H8 λb2 H9=>
    if b2=true then te (some x :: some y :: s0 caps σ) H9 λz H10=>H10 acc=some (.lst zs)/\zs.length<sizeLine/\∃ m1',m1'<m1/\W1 (j+1) m1' (zs++[z]) (upd H10 acc (.lst (zs++[z])))
    else ∃ m1',m1'<m1/\W1 (j+1) m1' zs H9))
  else ∃ m',m'<m/\W (i+1) m' ys H5))
theorem b19 {X:Cx} {elt iter iter2:Expr} {x y:Str} {px py:Pos} {ifs ifs2:List Expr} {scope:Scope} {pos:Pos} {N':List Str} {caps:List Nat} {wi wi1:TI} {tc tc1:TT} {te:TE}
  (T:CompText X.N X.env N' 2 caps scope) (hc:X.calm=true) (hN:N'.Nodup) (hx0:N'[0]?=some x) (hy0:N'[1]?=some y) (hxl:scope.names.lookup x=some .local) (hyl:scope.names.lookup y=some .local) (hi:PI X (.Name x px) iter wi)
  (ht:∀ pins C fp s H,PTL (a8 X pins N' scope C fp s H) ifs tc) (hi1:∀ pins C fp s H,PI (a8 X pins N' scope C fp s H) (.Name y py) iter2 wi1) (ht1:∀ pins C fp s H,PTL (a8 X pins N' scope C fp s H) ifs2 tc1)
  (he:∀ pins C fp s H,PE (a8 X pins N' scope C fp s H) elt te)
  (hs:∀ x,foldedSetIterable iter X.env x=pure x) (hs2:∀ env x,foldedSetIterable iter2 env x=pure x):PE X (.ListComp elt [⟨.Name x px,iter,ifs,0⟩,⟨.Name y py,iter2,ifs2,0⟩] scope pos) (b01 caps wi tc wi1 tc1 te):=by
 intro pins s σ H Q I h
 have fr:∀ x∈scope.names,x.2=NameKind.free->∃ c,X.env.cells.lookup x.1=some c:=λx hx hk=>I.ok.has x.1 (T.free x hx hk).2
 rw [eval_ListComp]
 refine wpAny_comprehension_free (use:=none) rfl hs (J7 fr) T.kind T.loc ?_
 refine thn (hi pins s σ H _ I h) λv s1 h1=>thn h1 λitv s2 h2=>?_
 obtain ⟨it,fp,tn,J,H2,rfl,I2,Tn,st2,f2,h2⟩:=h2
 obtain ⟨W,⟨m0,w0⟩,turn⟩:=h2 s2.heap.objs.size (I2.hok.fresh (Nat.le_refl _))
 have hlt:∀ b∈fp,b<s2.heap.objs.size:=λb hb=>let ⟨o,e,_⟩:=Tn.obj _ _ st2 b hb;Heap.lt_size e
 refine wpAny_newObj_type (wpAny_newFunctionEnv T.cell (by intro y hy;simp at hy) (λh₁ hns₁ hsb₁=>?_) T.kind)
 dsimp only at hns₁ hsb₁ ⊢
 have hC:(s2.heap.push { cls:=.type "list",dict:=none,data:=.seq ([]:List Value).toArray }).objs.size=s2.heap.objs.size+1:=Heap.size_push ..
 rw [hC] at hns₁ hsb₁
 have old:∀ b o,s2.heap.get? b=some o->h₁.get? b=some o:=λb o e=>hsb₁.extBut b o (Nat.ne_of_lt (Nat.lt_succ_of_lt (Heap.lt_size e))) (Heap.get?_push_of_some _ (Heap.get?_push_of_some _ e))
 have hacc:h₁.get? s2.heap.objs.size=some { cls:=.type "list",data:=.seq #[] }:=hsb₁.extBut _ _ (Nat.ne_of_lt (Nat.lt_succ_self _)) (Heap.get?_push_of_some _ (Heap.get?_push_size _ rfl))
 have hst₁:tn 0 h₁:=Tn.keep _ _ _ st2 λb _ o e=>old b o e
 have I3:Inv (a8 X pins N' scope (s2.heap.objs.size+1) fp s2 H2) [] (none :: none :: s0 caps σ) (upd H2 s2.heap.objs.size (.lst [])) { s2 with heap:=h₁,toks:=s2.toks+([]:List (Str×Value)).length }:=W9 (t:=s2.toks+([]:List (Str×Value)).length) T I2 f2 hlt hns₁ old hacc
 have stat:∀ {H':Hp},(∀ b∈fp,H' b=none)->∀ b∈fp,U7 (a8 X pins N' scope (s2.heap.objs.size+1) fp s2 H2) [] H' b:=λhn b hb=>by
  refine ⟨hn b hb,(I3.ok.exf b hb).1,I3.ok.exfs b hb,.inl hb,(I3.ok.exf b hb).2,λp hp=>?_⟩
  have hp':p∈X.pn++pins:=by
   have:p∈(X.pn++pins)++[]:=hp
   rwa [List.append_nil] at this
  exact (f2 b hb).2.2.2.2.2 p hp'
 have loop:∀ s3:Shared,s3={ s2 with heap:=h₁,toks:=s2.toks+([]:List (Str×Value)).length } ->
   codeAny (model X.prog X.w) X.A (.compLoop (.ListComp elt [⟨.Name x px,iter,ifs,0⟩,⟨.Name y py,iter2,ifs2,0⟩] scope pos) 0 (.ref it) (.ref s2.heap.objs.size) (compEnvC scope (L7 X.env.cells scope.names) (s2.heap.objs.size+1) X.env))
    (compPost (model X.prog X.w) X.A X.xe none (EP X pins σ Q) (.ref s2.heap.objs.size) (s2.heap.objs.size+1)) s3:=by
  rintro s3 rfl
  refine b3e (λn s'=>∃ i ys H',Inv (a8 X pins N' scope (s2.heap.objs.size+1) fp s2 H2) [] (none :: none :: s0 caps σ) H' s'/\tn i s'.heap/\(∀ b∈fp,H' b=none)/\W i n ys H') ?_ m0
   ⟨0,[],_,I3,hst₁,λb hb=>by rw [a4 (Nat.ne_of_lt (hlt b hb))];exact (f2 b hb).1,w0⟩ (hs2 _) (λ_=>rfl)
  rintro n s4 ⟨i,ys,H4,I4,st4,fr4,w4⟩
  obtain ⟨hacc4,turn4⟩:=turn i n ys H4 w4
  rcases turn4 with ⟨stop,q⟩ | ⟨go,step⟩
  ·refine thn (Tn.done (a8 X pins N' scope (s2.heap.objs.size+1) fp s2 H2) rfl rfl rfl hc i [] s4 _ H4 (λ_ _=>False) I4 (stat fr4) st4 stop) λr s5 ⟨hr,I5⟩=>?_
   subst hr
   obtain ⟨m5,hn5,_⟩:=id I5.loc
   refine ⟨m5,hn5,λh' hs'=>?_⟩
   refine ⟨.ref s2.heap.objs.size,H4,?_,rfl,q⟩
   refine I2.call' (ch:=fp) (s':={ s5 with heap:=h' }) I5.os (Un.sameBut I5.base hs' (Nat.le_succ _)) (I5.hok.sameBut I5.free hs') I5.bare λb hb=>?_
   have:=f2 b hb
   exact ⟨this.2.2.2.1,this.2.1,this.2.2.2.2.1,this.2.2.2.2.2⟩
  ·refine thn (Tn.item (a8 X pins N' scope (s2.heap.objs.size+1) fp s2 H2) rfl rfl rfl hc i [] s4 _ H4 (λ_ _=>False) I4 (stat fr4) st4 go) λr s5 ⟨u,hr,h5⟩=>?_
   subst hr
   dsimp only
   refine d7 (B9 (u:=letOwnedTupleGo (.Name x px) (.ref it) u) rfl (thn h5 λ_ s6 ⟨xv,H6,I6,r6,y6,st6,fr6⟩=>?_))
   have I6':=I6.pinned (stat fr6) (Tn.obj _ _ st6)
   refine thn (N2 (X:=a8 X pins N' scope (s2.heap.objs.size+1) fp s2 H2) (i:=0) hN hx0 (.inl (lookup_relabel_local hxl)) (.inr (lookup_relabel_local hxl)) _ s6 _ H6 xv u (λσ2 H4=>σ2=some xv :: none :: s0 caps σ/\H4=H6) I6' r6 ⟨rfl,rfl⟩) λ_ s7 ⟨σ7,H7,I7,e7,e7'⟩=>?_
   subst e7 e7'
   have back:∀ {σ8:St} {H8:Hp} {s8:Shared},Inv (a8 X pins N' scope (s2.heap.objs.size+1) fp s2 H2) ([]++p0 fp s6.heap) σ8 H8 s8->tn (i+1) s8.heap/\∀ b∈fp,H8 b=none:=λ{σ8 H8 s8} I8=>by
    refine ⟨Tn.keep _ _ _ st6 λb hb o e=>(I8.pin (b,o) (List.mem_append_right _ (List.mem_append_right _ (j6 hb e)))).1,λb hb=>?_⟩
    obtain ⟨o,e,d⟩:=Tn.obj _ _ st6 b hb
    exact (I8.pin (b,o) (List.mem_append_right _ (List.mem_append_right _ (j6 hb e)))).2.1
   refine d7 (thn (ht pins _ fp s2 H2 _ s7 _ _ _ I7 (step xv _ y6)) λb s8 ⟨H8,I8,q8⟩=>?_)
   have wk:∀ {H9:Hp} {s9:Shared},Inv (a8 X pins N' scope (s2.heap.objs.size+1) fp s2 H2) ([]++p0 fp s6.heap) (some xv :: none :: s0 caps σ) H9 s9->Inv (a8 X pins N' scope (s2.heap.objs.size+1) fp s2 H2) [] (none :: none :: s0 caps σ) H9 s9:=λ{H9 s9} I9=>
    I9.unpinned.weak rfl λj v e=>by
     cases j with
     | zero=>simp at e
     | succ j=>simpa using e
   cases b with
   | false=>
    obtain ⟨m',hm,w'⟩:=q8
    exact ⟨m',hm,i+1,ys,H8,wk I8,(back I8).1,(back I8).2,w'⟩
   | true=>
    rw [if_pos rfl] at q8 ⊢
    refine d7 (thn (hi1 pins _ fp s2 H2 _ s8 _ H8 _ I8 q8) λv9 s9 h9=>d7 (thn h9 λitv1 s10 h10=>?_))
    obtain ⟨it1,fp1,tn1,J1,H10,rfl,I10,Tn1,st10,f10,W1,⟨m1,w1⟩,turn1⟩:=h10
    have stat1:∀ {H':Hp},(∀ b∈fp1,H' b=none)->∀ b∈fp1,U7 (a8 X pins N' scope (s2.heap.objs.size+1) fp s2 H2) ([]++p0 fp s6.heap) H' b:=λhn b hb=>⟨hn b hb,(f10 b hb).2⟩
    have loop1:∀ s11:Shared,s11=s10->codeAny (model X.prog X.w) X.A (.compLoop (.ListComp elt [⟨.Name x px,iter,ifs,0⟩,⟨.Name y py,iter2,ifs2,0⟩] scope pos) 1 (.ref it1) (.ref s2.heap.objs.size) (compEnvC scope (L7 X.env.cells scope.names) (s2.heap.objs.size+1) X.env))
      (λr s₆=>match r with
       | .ok _=>∃ m,m<n/\∃ i ys H',Inv (a8 X pins N' scope (s2.heap.objs.size+1) fp s2 H2) [] (none :: none :: s0 caps σ) H' s₆/\tn i s₆.heap/\(∀ b∈fp,H' b=none)/\W i m ys H'
       | .error _=>False) s11:=by
     rintro s11 rfl
     refine b3n (λn1 s'=>∃ j zs H',Inv (a8 X pins N' scope (s2.heap.objs.size+1) fp s2 H2) ([]++p0 fp s6.heap) (some xv :: none :: s0 caps σ) H' s'/\tn1 j s'.heap/\(∀ b∈fp1,H' b=none)/\W1 j n1 zs H') ?_ m1
      ⟨0,ys,H10,I10,st10,λb hb=>(f10 b hb).1,w1⟩ (λ_=>rfl)
     rintro n1 t4 ⟨j,zs,G4,K4,ct4,cr4,v4⟩
     obtain ⟨hacc5,turn5⟩:=turn1 j n1 zs G4 v4
     refine d7 ?_
     rcases turn5 with ⟨stop1,m',hm',w'⟩ | ⟨go1,step1⟩
     ·refine thn (Tn1.done (a8 X pins N' scope (s2.heap.objs.size+1) fp s2 H2) rfl rfl rfl hc j _ t4 _ G4 (λ_ _=>False) K4 (stat1 cr4) ct4 stop1) λr t5 ⟨hr,K5⟩=>?_
      subst hr
      exact ⟨m',hm',i+1,zs,G4,wk K5,(back K5).1,(back K5).2,w'⟩
     ·refine thn (Tn1.item (a8 X pins N' scope (s2.heap.objs.size+1) fp s2 H2) rfl rfl rfl hc j _ t4 _ G4 (λ_ _=>False) K4 (stat1 cr4) ct4 go1) λr t5 ⟨u1,hr,g5⟩=>?_
      subst hr
      dsimp only
      refine d7 (B9 (u:=letOwnedTupleGo (.Name y py) (.ref it1) u1) rfl (thn g5 λ_ t6 ⟨yv,G6,K6,rr6,yy6,ct6,cr6⟩=>?_))
      have K6':=K6.pinned (stat1 cr6) (Tn1.obj _ _ ct6)
      refine thn (N2 (X:=a8 X pins N' scope (s2.heap.objs.size+1) fp s2 H2) (i:=1) hN hy0 (.inl (lookup_relabel_local hyl)) (.inr (lookup_relabel_local hyl)) _ t6 _ G6 yv u1 (λσ2 H4=>σ2=some xv :: some yv :: s0 caps σ/\H4=G6) K6' rr6 ⟨rfl,rfl⟩) λ_ t7 ⟨σ7,G7,K7,e7,e7'⟩=>?_
      subst e7 e7'
      have back1:∀ {σ8:St} {H8:Hp} {s8:Shared},Inv (a8 X pins N' scope (s2.heap.objs.size+1) fp s2 H2) (([]++p0 fp s6.heap)++p0 fp1 t6.heap) σ8 H8 s8->tn1 (j+1) s8.heap/\∀ b∈fp1,H8 b=none:=λ{σ8 H8 s8} I8=>by
       refine ⟨Tn1.keep _ _ _ ct6 λb hb o e=>(I8.pin (b,o) (List.mem_append_right _ (List.mem_append_right _ (j6 hb e)))).1,λb hb=>?_⟩
       obtain ⟨o,e,d⟩:=Tn1.obj _ _ ct6 b hb
       exact (I8.pin (b,o) (List.mem_append_right _ (List.mem_append_right _ (j6 hb e)))).2.1
      have wk1:∀ {H9:Hp} {s9:Shared},Inv (a8 X pins N' scope (s2.heap.objs.size+1) fp s2 H2) (([]++p0 fp s6.heap)++p0 fp1 t6.heap) (some xv :: some yv :: s0 caps σ) H9 s9->Inv (a8 X pins N' scope (s2.heap.objs.size+1) fp s2 H2) ([]++p0 fp s6.heap) (some xv :: none :: s0 caps σ) H9 s9:=λ{H9 s9} I9=>
       I9.unpinned.weak rfl λj v e=>by
        match j with
        | 0=>simpa using e
        | 1=>simp at e
        | j+2=>simpa using e
      refine d7 (thn (ht1 pins _ fp s2 H2 _ t7 _ _ _ K7 (step1 yv _ yy6)) λb2 t8 ⟨G8,K8,p8⟩=>?_)
      cases b2 with
      | false=>
       obtain ⟨m1',hm,w'⟩:=p8
       exact ⟨m1',hm,j+1,zs,G8,wk1 K8,(back1 K8).1,(back1 K8).2,w'⟩
      | true=>
       refine d7 (thn (he pins _ fp s2 H2 _ t8 _ G8 _ K8 p8) λz t9 ⟨zv,G9,K9,rr9,hacc9,hl9,m1',hm,w'⟩=>?_)
       refine d7 (thn (O9 (X:=a8 X pins N' scope (s2.heap.objs.size+1) fp s2 H2) _ t9 _ G9 (.ref s2.heap.objs.size) [zv] (.ref s2.heap.objs.size) [z] (λ_ H'=>H'=upd G9 s2.heap.objs.size (.lst (zs++[zv]))) K9 rfl (.cons rr9 .nil) ⟨_,zs,zv,rfl,rfl,hacc9,hl9,rfl⟩) λ_ t10 ⟨_,G10,K10,_,e10⟩=>?_)
       subst e10
       exact ⟨m1',hm,j+1,zs++[zv],_,wk1 K10,(back1 K10).1,(back1 K10).2,w'⟩
    exact b0q (loop1 _ rfl) (Tn1.self _ 0 _ _ _ st10 (loop1 _ rfl))
 have fin:=codeAny_compStart_list (loop _ rfl) (Tn.self _ 0 _ _ _ hst₁ (loop _ rfl))
 rw [<- hC] at fin
 exact fin
mutual
inductive DAt (K:PySem.W.Frag) (H:Hp):V->PyData->Prop where
 | non:DAt K H .non .none
 | bl (b:Bool):DAt K H (.bl b) (.bool b)
 | int (i:Int):DAt K H (.int i) (.int i)
 | str (x:Str):DAt K H (.str x) (.str x)
 | lst {a:Addr} {xs:List V} {ds:List PyData}:SqL K H a xs->DAll K H xs ds->DAt K H (.ref a) (.list ds)
 | tup {a:Addr} {xs:List V} {ds:List PyData}:SqT K H a xs->DAll K H xs ds->DAt K H (.ref a) (.tuple ds)
inductive DAll (K:PySem.W.Frag) (H:Hp):List V->List PyData->Prop where
 | nil:DAll K H [] []
 | cons {x:V} {d:PyData} {xs:List V} {ds:List PyData}:DAt K H x d->DAll K H xs ds->DAll K H (x :: xs) (d :: ds)
end
section
variable {X:Cx} {pins:List (Addr×Obj)} {σ:St} {H:Hp} {s:Shared}
mutual
theorem DAt.reads (I:Inv X pins σ H s):∀ {v:V} {d:PyData},DAt X.K H v d->∀ {u:Value},RelV v u->∃ as,Reads s.heap u d as
 | _,_,.non,u,r=>by cases (show u=Value.none from r);exact ⟨_,.none⟩
 | _,_,.bl b,u,r=>by cases (show u=Value.bool b from r);exact ⟨_,.bool b⟩
 | _,_,.int i,u,r=>by obtain ⟨t,e⟩:=(show ∃ t,u=Value.int i t from r);subst e;exact ⟨_,.int i t⟩
 | _,_,.str x,u,r=>by obtain ⟨t,e⟩:=(show ∃ t,u=Value.str x t from r);subst e;exact ⟨_,.str x t⟩
 | _,_,.lst (a:=a) h q,u,r=>by
  cases (show u=Value.ref a from r)
  obtain ⟨its,rv,⟨o,n,e1,e2,e3,e4⟩,_⟩:=I.list h
  obtain ⟨as,ra⟩:=DAll.reads I q rv
  exact ⟨_,.list e1 e2 e4 ra⟩
 | _,_,.tup (a:=a) h q,u,r=>by
  cases (show u=Value.ref a from r)
  obtain ⟨its,rv,⟨o,e1,e2,n,e4⟩,_⟩:=I.tuple h
  obtain ⟨as,ra⟩:=DAll.reads I q rv
  exact ⟨_,.tuple e1 e2 e4 ra⟩
theorem DAll.reads (I:Inv X pins σ H s):∀ {vs:List V} {ds:List PyData},DAll X.K H vs ds->∀ {us:List Value},Vals vs us->∃ as,ReadsAll s.heap us ds as
 | _,_,.nil,us,r=>by cases r;exact ⟨_,.nil⟩
 | _,_,.cons h q,us,r=>by
  cases r with
  | cons r1 r2=>
   obtain ⟨as,h1⟩:=DAt.reads I h r1
   obtain ⟨bs,h2⟩:=DAll.reads I q r2
   exact ⟨_,.cons h1 h2⟩
end
structure Shows (d:PyData):Prop where
 sh:d.showable=true
 nd:d.hasDict=false
 dp:d.depth<=60
 sz:d.shown.length<=sizeLine
theorem a7l (hg:X.A.guards=some []) (hu:X.A.units+64<cLine):i5 X (.builtin "repr") (λxs H Q=>∃ v d,xs=[v]/\DAt X.K H v d/\Shows d/\Q (.str d.shown) H):=by
 intro pins s σ H xs us Q I r h
 obtain ⟨v,d,rfl,hd,S,q⟩:=h
 obtain ⟨u,rfl,ru⟩:=E1 r
 have sh:=S.sh
 have sz:=S.sz
 cases hd with
 | non=>cases (show u=Value.none from ru);exact PySem.P.repr_of_none ⟨.str (PyData.shown .none),H,I.tok _,⟨_,rfl⟩,q⟩
 | bl b=>cases (show u=Value.bool b from ru);exact PySem.P.repr_of_bool ⟨.str (PyData.shown (.bool b)),H,I.tok _,⟨_,rfl⟩,q⟩
 | int i=>obtain ⟨t,e⟩:=(show ∃ t,u=Value.int i t from ru);subst e;exact PySem.P.repr_of_int (by simpa [PyData.showable] using sh) ⟨.str (PyData.shown (.int i)),H,I.tok _,⟨_,rfl⟩,q⟩
 | str x=>obtain ⟨t,e⟩:=(show ∃ t,u=Value.str x t from ru);subst e;exact PySem.P.repr_of_str ⟨.str (PyData.shown (.str x)),H,I.tok _,⟨_,rfl⟩,q⟩ sz
 | lst h1 h2=>
  obtain ⟨as,rr⟩:=DAt.reads I (.lst h1 h2) ru
  obtain ⟨a,rfl⟩:=isRef_of_reads rr rfl
  exact repr_of_reads' rr sh (PyData.noDict_hsm S.nd) hg (by have:=S.dp;omega) (λ_ _ e=>e) (λh' u tk hk=>⟨.str (PyData.shown _),H,I.kept hk,⟨_,rfl⟩,q⟩) sz
 | tup h1 h2=>
  obtain ⟨as,rr⟩:=DAt.reads I (.tup h1 h2) ru
  obtain ⟨a,rfl⟩:=isRef_of_reads rr rfl
  exact repr_of_reads' rr sh (PyData.noDict_hsm S.nd) hg (by have:=S.dp;omega) (λ_ _ e=>e) (λh' u tk hk=>⟨.str (PyData.shown _),H,I.kept hk,⟨_,rfl⟩,q⟩) sz
end
def c16 (K:PySem.W.Frag) (neg:Bool):R2:=λx y H Q=>∃ d e,DAt K H x d/\DAt K H y e/\d.canLay0=true/\e.canLay0=true/\min d.depth e.depth<=60/\Q (.bl (if neg then !PyData.eqv d e else PyData.eqv d e)) H
section
variable {X:Cx}
theorem b7m (hu:X.A.units+64<cLine):OpR X (compareOp .Eq) (c16 X.K false):=by
 intro pins s σ H x y v u Q I rx ry h
 obtain ⟨d,e,hd,he,c1,c2,dp,q⟩:=h
 obtain ⟨as,r1⟩:=hd.reads I rx
 obtain ⟨bs,r2⟩:=he.reads I ry
 exact SeqAt.compareEq_reads r1 r2 c1 c2 (by omega) ⟨.bl (PyData.eqv d e),H,I,rfl,q⟩
theorem b94 (hu:X.A.units+64<cLine):OpR X (compareOp .NotEq) (c16 X.K true):=by
 intro pins s σ H x y v u Q I rx ry h
 obtain ⟨d,e,hd,he,c1,c2,dp,q⟩:=h
 obtain ⟨as,r1⟩:=hd.reads I rx
 obtain ⟨bs,r2⟩:=he.reads I ry
 exact SeqAt.compareNe_reads r1 r2 c1 c2 (by omega) ⟨.bl (!PyData.eqv d e),H,I,rfl,q⟩
end
end L2
namespace L2
open PySem PySem.W PySem.Calls PyProof.Rows
noncomputable def a27 (K:Frag) (C:Addr):Bool:=match K.lookup C with
 | some ⟨oc,_,.cls cd,sl⟩=>oc==.type "type" && !cd.hasDel&&cd.hasDict&&(sl.toList[4]?).join==some (.builtin "ValueError.__new__")&&!cd.mro.isEmpty&&cd.mro.contains (.ref C)&&cd.mro.contains (.type "ValueError")&&cd.mro.contains (.type "BaseException") &&
   !cd.mro.contains (.type "AttributeError")&&!cd.mro.contains (.type "NameError")&&specialIn K (.ref C) "__call__" == some (some (.builtin "type.__call__"))&&instIn K (.ref C) (.type "type")==some true
 | _=>false
end L2
namespace L2
open PySem PySem.W PySem.Calls PyProof.Rows Builtin Builtin.ObjectAttr
theorem b1o:builtinKind "BaseException.__getattribute__" = some .slot:=by decide +kernel
theorem a7f:splitId "BaseException.__getattribute__" = some ("BaseException","__getattribute__"):=by decide +kernel
theorem a72:plainId "BaseException.__getattribute__" = true:=by decide +kernel
section
variable {prog:Program} {w:World} {A:Around} {R:Result->Shared->Prop} {s:Shared} {x:Addr} {name:Str} {t:Tok}
theorem b04 (hi:Looks (model prog w) s.heap (isInstance (.ref x) (.type "BaseException")) true)
  (h:wpAny (model prog w) A.in1 (Builtin.«object.__getattribute__» ⟨[.ref x,.str name t],[]⟩) (λfin s'=>match fin with | .done f=>R (.ok f) s' | .again c'=>c'.quiet=true/\codeAny (model prog w) A c' R s') (λe s'=>R (.error e) s') s) :
  codeAny (model prog w) A (.call (.builtin "BaseException.__getattribute__") ⟨[.ref x,.str name t],[]⟩) R s:=
 codeAny_call_builtin a72 PySem.F.entry_bexc_ga (@check_slot (model prog w) _ _ _ "BaseException.__getattribute__" "BaseException" "__getattribute__" (.ref x) [.str name t] [] _ b1o a7f hi (PySem.F.args_bexc_ga (.ref x) (.str name t)) h)
end
section
variable {prog:Program} {w:World} {A:Around} {E:Value->Shared->Prop} {s:Shared} {K:Frag} {x C:Addr} {ox:Obj} {od:Option Obj} {name:Str} {expr:Bool} {Q:Value->Shared->Prop}
structure XCls (K:Frag) (C:Addr):Prop where
 ga:findIn K (.ref C) "__getattribute__" = some (some (.builtin "BaseException.__getattribute__"))
 gg:findIn K (.ref C) "__getattr__" = some none
 be:mroIn K C (.type "BaseException")=some true
 ob:mroIn K C (.type "object")=some true
 hd:hasDictIn K C=true
 cl:findIn K (.ref C) "__class__" = some (some (.builtin "object.__class__"))
 cg:specialIn K (.builtin "object.__class__") "__get__" = some (some (.builtin "getset_descriptor.__get__"))
 ct:takesIn K (.builtin "object.__class__")=some true
theorem b91 {fill:Bool} {t:Tok} (X:K.In s.heap) (I:InstAt s.heap x ox C od) (hx:XCls K C)
  (h:wpAny (model prog w) A.in1 (Builtin.«object.__getattribute__» ⟨[.ref x,.str name t],[]⟩) (λfin s'=>match fin with | .done (.ret v)=>wpAny (model prog w) A (handedOut v) Q E s' | _=>False) (λ_ _=>False) s) :
  wpAny (model prog w) A (getAttrBy (.ref x) (.str name t) fill expr) Q E s:=by
 obtain ⟨hp,g,d,tk,os⟩:=s
 have L0:=I.type (M:=model prog w)
 have L1:=looks_findIn (M:=model prog w) X hx.ga
 have L2:=looks_findIn (M:=model prog w) X hx.gg
 have L4:Looks (model prog w) hp (isInstance (.ref x) (.type "BaseException")) true:=L0.andThen (looks_mroIn X hx.be)
 have f3:=(PySem.F.attrBase_ValueError).ga.bind (.ref x)
 have hx0:(expr&&onTheHeap (Value.builtin "BaseException.__getattribute__"))=false:=by cases expr <;> rfl
 have hx2:(Value.builtin "BaseException.__getattribute__" == Value.builtin "object.__getattribute__")=false:=by decide +kernel
 unfold getAttrBy
 refine wpAny_holding (wpAny_bind (L0.at (wpAny_bind (L1.at ?_))))
 repeat (first | simp only [hx2,Bool.and_false,Bool.false_eq_true,if_false] | lk)
 refine wpAny_attempt (wpAny_holding ?_)
 unfold callGetattribute
 rw [hx0]
 simp only [Bool.false_eq_true,if_false]
 unfold boundAndCalled
 refine wpAny_bind (wpAny_of_eq f3 ?_)
 refine wpAny_call (show codeAny _ _ (.call (.builtin "BaseException.__getattribute__") ⟨[.ref x,.str name t],[]⟩) _ _ from b04 L4 ?_)
 refine wpAny_mono h (λfin s' z=>?_) λ_ _ z=>z.elim
 rcases fin with (v | _ | _ | _) | _ <;> first | exact z | exact z.elim
theorem a15 {od:Option Obj} (hx:XCls K C):findObj K C od "__class__" = some (.bind (.builtin "getset_descriptor.__get__") (.builtin "object.__class__")):=by
 obtain ⟨cd,hc,_⟩:=any_some hx.hd
 unfold findObj
 rw [hc,Option.bind_some,hx.cl,Option.bind_some]
 dsimp only
 rw [hx.cg,Option.bind_some]
 dsimp only
 rw [hx.ct]
 rfl
theorem b9h {R:Option Value->Shared->Prop} (X:K.In s.heap) (I:InstAt s.heap x ox C od) (hx:XCls K C) (h:R (some (.ref C)) { s with toks:=s.toks+1 }):wpAny (model prog w) A (getAttr? (.ref x) "__class__") R E s:=by
 have hf:=a15 (od:=od) hx
 obtain ⟨hp,g,d,t,os⟩:=s
 have L0:=I.type (M:=model prog w)
 have L3:=looks_find (M:=model prog w) X I hf
 unfold getAttr? getAttrBy?
 refine wpAny_bind (wpAny_mkText (wpAny_bind (wpAny_attempt (b91 (s:=⟨hp,g,d,t+1,os⟩) X I hx ?_))))
 refine wpAny_bind (wpAny_pure (wpAny_bind (wpAny_pure (wpAny_bind (L0.at (wpAny_bind (L3.at ?_)))))))
 show wpAny _ _ (holding [.builtin "object.__class__"] (call (.builtin "getset_descriptor.__get__") [.builtin "object.__class__",.ref x,.ref C]) >>= ret) _ _ _
 refine wpAny_bind (wpAny_holding (wpAny_call (class_get (s:=⟨hp,g,d,t+1,os⟩) (ox:=ox) (od:=od) X I hx.ob ?_)))
 refine wpAny_pure ?_
 show wpAny _ _ (handedOut (.ref C)) _ _ _
 exact handed_on rfl (wpAny_pure h)
theorem c4o (hx:XCls K C):KitX K (.ref x) (.ref C) (λh=>∃ ox od,InstAt h x ox C od) where
 ty:=λ_ _ _ ⟨_,_,I⟩=>I.type
 it:=λ_ _ X _=>by
  obtain ⟨cd,hc,_⟩:=any_some hx.hd
  unfold clsIn at hc
  split at hc
  ·rename_i oc odd cd' sl ho
   exact λA' Q' E' s' k q=>by
    unfold isType loadHead
    exact wpAny_bind (wpAny_loadPart (k _ _ (X _ _ ho)) (wpAny_pure q))
  ·cases hc
 ne:=λh tp dd its n sl X htp=>by
  obtain ⟨cd,hc,_⟩:=any_some hx.hd
  refine Bool.eq_false_iff.mpr λq=>?_
  obtain rfl:C=tp:=Value.ref.inj (beq_iff_eq.mp q)
  unfold clsIn at hc
  split at hc
  ·rename_i oc odd cd' sl ho
   have z:=(X _ _ ho).symm.trans htp
   cases z
  ·cases hc
 ca:=λX ⟨_,_,I⟩ k=>b9h X I hx k
end
noncomputable def U4:List Value->Bool
 | .ref _ :: r=>U4 r
 | l=>l==[.type "ValueError",.type "Exception",.type "BaseException",.type "object"]
section
variable {prog:Program} {w:World} {A:Around} {E:Value->Shared->Prop} {s:Shared} {K:Frag} {x C:Addr} {ox:Obj} {od:Option Obj} {name:Str} {R:Result->Shared->Prop} {v:Value}
noncomputable def tbV:Option Addr->Value
 | none=>.none
 | some T=>.ref T
def IsX (fr:Option Addr) (h:Heap) (x C:Addr) (d:Option Addr):Prop:=∃ vs,h.get? x=some { cls:=.ref C,dict:=d,data:=.fields vs }/\vs.size=6/\vs[1]?=some (tbV fr)
theorem IsX.inst0 {fr:Option Addr} {h:Heap} (i:IsX fr h x C none):∃ ox,InstAt h x ox C none:=by
 obtain ⟨vs,e,_⟩:=i
 exact ⟨_,e,rfl,rfl,True.intro⟩
theorem IsX.inst1 {fr:Option Addr} {h:Heap} {d:Addr} (i:IsX fr h x C (some d)) {o:Obj} (hd:h.get? d=some o):∃ ox,InstAt h x ox C (some o):=by
 obtain ⟨vs,e,_⟩:=i
 exact ⟨_,e,rfl,rfl,hd⟩
end
end L2
namespace L2
open PySem PySem.Spec PyProof.Rows
noncomputable def Q0 (fr:Option Addr) (x C:Addr) (d:Option Addr):HO:=.ext λh=>IsX fr h x C d
noncomputable abbrev b4o (x C:Addr) (d:Option Addr):HO:=Q0 none x C d
noncomputable def a17 (d:Addr) (fs:List (Str×V)):HO:=.ext λh=>∃ mA,h.Ns1 d mA/\(∀ f,RelO (fs.lookup f) (mA f))/\PySem.Within mA (fs.map (·.1))/\fs.length<=900
theorem okX {fr:Option Addr} {P:Program} {w:World} {H:Hp} {h:Heap} {x C:Addr} {d:Option Addr} (i:IsX fr h x C d):ObjOk P w H h x (Q0 fr x C d):=by
 obtain ⟨vs,e,z⟩:=id i
 refine ⟨i,⟨_,e⟩,λh1 h2 ⟨vs1,e1,z1⟩ k=>⟨vs1,k _ e1,z1⟩⟩
structure XC (K:PySem.W.Frag) (C:Addr):Prop where
 xc:XCls K C
 ex:a27 K C=true
 vm:(PySem.W.clsIn K C).any (λcd=>U4 cd.mro)=true
 sa:PySem.W.findIn K (.ref C) "__setattr__" = some (some (.builtin "object.__setattr__"))
 kp:PySem.W.keepIn K (.ref C)=true
section
variable {X:Cx} {pins:List (Addr×Obj)} {σ:St} {H:Hp} {s:Shared} {x C:Addr}
theorem Inv.isX {fr:Option Addr} {d:Option Addr} (I:Inv X pins σ H s) (e:H x=some (Q0 fr x C d)):IsX fr s.heap x C d:=(I.hok x _ e).1
theorem Inv.isD {d:Addr} {fs:List (Str×V)} (I:Inv X pins σ H s) (e:H d=some (a17 d fs)):∃ mA,s.heap.Ns1 d mA/\(∀ f,RelO (fs.lookup f) (mA f))/\PySem.Within mA (fs.map (·.1))/\fs.length<=900:=(I.hok d _ e).1
end
theorem b7g {H:Hp} {x:Addr} {o:HO} (h:H x=some o):upd H x o=H:=funext λb=>by
 by_cases e:b=x
 ·subst e;rw [b9,h]
 ·rw [a4 e]
section
variable {X:Cx} {o e value:Expr} {f:Str} {pos pos':Pos} {ta tv:TE}
noncomputable def c0v:V->Option Value
 | .ref a=>some (.ref a)
 | .ty n=>some (.type n)
 | _=>none
theorem a0b:i5 X (.builtin "isinstance") (λxs H Q=>∃ fr x C d y c b,xs=[.ref x,y]/\XC X.K C/\H x=some (Q0 fr x C d)/\(∀ d',d=some d'->∃ fs,H d'=some (a17 d' fs))/\c0v y=some c/\PySem.W.kitOne X.K (.ref C) c=some b/\Q (.bl b) H):=by
 intro pins s σ H xs us Q I r h
 obtain ⟨fr,x,C,d,y,c,b,rfl,M,e0,hd,hc,hk,q⟩:=h
 obtain ⟨u,u2,rfl,ru,ru2⟩:=b10 r
 cases (show u=Value.ref x from ru)
 have e2:u2=c:=by
  cases y <;> first | (cases hc;exact ru2) | cases hc
 subst e2
 have J:∃ ox od,PySem.W.InstAt s.heap x ox C od:=by
  cases d with
  | none=>obtain ⟨ox,J⟩:=(I.isX e0).inst0;exact ⟨ox,_,J⟩
  | some d'=>
   obtain ⟨fs,e1⟩:=hd d' rfl
   obtain ⟨mA,n0,_⟩:=I.isD e1
   obtain ⟨od,hod,_⟩:=a7e n0
   obtain ⟨ox,J⟩:=(I.isX e0).inst1 hod
   exact ⟨ox,_,J⟩
 exact PySem.W.kia_one (c4o M.xc) I.kIn J hk (λz=>nomatch z) λtk=>⟨.bl b,H,I.tok _,rfl,q⟩
end
noncomputable def TbO (T:Addr):HO:=.ext λh=>∃ o ts,h.get? T=some o/\o.data=.fields ts/\3<ts.size
theorem okT {P:Program} {w:World} {H:Hp} {h:Heap} {T:Addr} {o:Obj} {ts:Array Value} (e:h.get? T=some o) (d:o.data=.fields ts) (z:3<ts.size):ObjOk P w H h T (TbO T):=
 ⟨⟨o,ts,e,d,z⟩,⟨o,e⟩,λh1 h2 ⟨o,ts,e,d,z⟩ k=>⟨o,ts,k _ e,d,z⟩⟩
structure Fx (K:PySem.W.Frag) (H:Hp) (a C:Addr) (d tb:Option Addr):Prop where
 xc:XC K C
 at_:H a=some (Q0 tb a C d)
 dc:∀ d',d=some d'->d'≠a/\∃ fs,H d'=some (a17 d' fs)
 tb_:∀ T,tb=some T->T≠a/\H T=some (TbO T)
def Mv (H:Hp) (a C:Addr) (d:Option Addr) (H':Hp):Prop:=(∀ b o,b≠a->H b=some o->H' b=some o)/\∃ tb,H' a=some (Q0 tb a C d)
section
variable {X:Cx} {pins:List (Addr×Obj)} {σ:St} {H:Hp} {s:Shared} {a C T:Addr} {d tb:Option Addr} {A:Around} {E:Value->Shared->Prop} {Q:Unit->Shared->Prop}
theorem Inv.slots {h':Heap} (I:Inv X pins σ H s) (hs:Heap.SlotsOnly (frs X.stack) s.heap h'):Inv X pins σ H { s with heap:=h' }:=by
 have k:∀ b u,H b≠none->s.heap.get? b=some u->h'.get? b=some u:=λb u n e=>(hs.2.1 b λz=>n (I.stkFree b z)).trans e
 have un:Un (frs X.stack) [] H H s.heap h':=⟨λb o e _ nf _=>(hs.2.1 b nf).trans e,λb o e _ _ _=>hs.2.2 b o e,λ_ _ _ n _=>n,λb o e _=>let ⟨sl,q⟩:=hs.2.2 b o e;⟨_,q⟩,λ_ _ e=>e,λ_ _ _ e=>e,λb ps e=>⟨#[],by rw [e];simp⟩⟩
 have hk:HOk X.prog X.w H h':=λb u e=>(I.hok b u e).stay (λc v hc q=>k c v (by
  rcases hc with hc | hc
  ·rw [hc,e];simp
  ·rw [hc];simp) q) (λ_ q=>q) λ_ _ q=>q
 exact I.call (g':=s.gens) (d':=s.drawn) (t':=s.toks) (ch:=[]) un hk I.bare λb z=>absurd z (by simp)
theorem Fx.isX (fx:Fx X.K H a C d tb) (I:Inv X pins σ H s):IsX tb s.heap a C d:=I.isX fx.at_
theorem Inv.setTb {v:Value} (I:Inv X pins σ H s) (e:H T=some (TbO T)) (k:Inv X pins σ H { s with heap:=s.heap.update T (Obj.mapFields (·.setIfInBounds 3 v)) }->Q () { s with heap:=s.heap.update T (Obj.mapFields (·.setIfInBounds 3 v)) }) :
  wpAny (model X.prog X.w) A (setField (.ref T) 3 v) Q E s:=by
 obtain ⟨o,ts,e1,e2,z⟩:=(I.hok T _ e).1
 refine wpAny_setField e1 e2 z (k ?_)
 have hd:=Obj.data_mapFields e2 (·.setIfInBounds 3 v)
 have hu:=Heap.get?_update_self (Obj.mapFields (·.setIfInBounds 3 v)) e1 (Obj.isFreed_of_fields hd)
 have I2:=I.write (h':=s.heap.update T (Obj.mapFields (·.setIfInBounds 3 v))) (t':=s.toks) (x:=T) (e:=T) (o:=TbO T) (by rw [e];exact True.intro) (.inl rfl) (λb u n q=>(Heap.get?_update_other _ _ (Ne.symm n)).trans q) ⟨_,hu⟩ (okT hu hd (by simpa using z))
 rw [b7g e] at I2
 exact I2
theorem a2e {hadNext:Bool} {head:Value} (I:Inv X pins σ H s) (hA:A.frames=some X.stack) (hst:X.stack=X.env :: X.outer) (hf:X.env.frame=some X.env.locals) (fx:Fx X.K H a C d tb)
  (h:∀ H' s' T,Inv X pins σ H' s'->Fx X.K H' a C d (some T)->Mv H a C d H'->Q () s') :
  wpAny (model X.prog X.w) A (do let fr <- frameOf X.env;let pl <- entryPlaceOf X.env.locals hadNext;let b <- EntryCells.newEntry head fr .none (rawInt X.env.locals) .none pl;setField (.ref a) 1 b) Q E s:=by
 have hl:=I.stack
 rw [hst] at hl hA
 refine wpAny_bind (wpAny_frameOf_fun hA hl hf λh₁ hs₁=>?_)
 have I1:Inv X pins σ H { s with heap:=h₁ }:=I.slots (by rw [hst];exact hs₁)
 refine wpAny_bind (wpAny_entryPlaceOf λpl hpl=>?_)
 unfold EntryCells.newEntry newFields
 refine wpAny_bind (wpAny_newObj_type ?_ (hpl.sizeOk5 _ _ _ _ _))
 have e0:=Heap.get?_push_size h₁ (o:={ cls:=.type "traceback",dict:=none,data:=.fields ([head,.ref X.env.locals,.none,rawInt X.env.locals,.none]++(if pl.isEmpty then List.replicate 6 Value.none else pl)).toArray }) rfl
 have I2:=I1.laid (h':=h₁.push { cls:=.type "traceback",dict:=none,data:=.fields ([head,.ref X.env.locals,.none,rawInt X.env.locals,.none]++(if pl.isEmpty then List.replicate 6 Value.none else pl)).toArray }) (a:=h₁.objs.size) (t':=s.toks) (o:=TbO h₁.objs.size) (λb u q=>Heap.get?_push_of_some _ q) (Nat.le_refl _)
  (okT e0 rfl (by simp only [List.size_toArray,List.length_append,List.length_cons,List.length_nil] <;> omega))
 have nT:H h₁.objs.size=none:=I1.hok.fresh (Nat.le_refl _)
 have hTa:h₁.objs.size≠a:=λz=>by rw [z,fx.at_] at nT;cases nT
 have e2:upd H h₁.objs.size (TbO h₁.objs.size) a=some (Q0 tb a C d):=by rw [a4 hTa.symm];exact fx.at_
 generalize (h₁.push { cls:=.type "traceback",dict:=none,data:=.fields ([head,.ref X.env.locals,.none,rawInt X.env.locals,.none]++(if pl.isEmpty then List.replicate 6 Value.none else pl)).toArray })=h₂ at I2 ⊢
 obtain ⟨vs,hxo,hsz,hv⟩:=I2.isX e2
 refine wpAny_setField hxo rfl (by omega) ?_
 have hu:=Heap.get?_update_self (Obj.mapFields (·.setIfInBounds 1 (Value.ref h₁.objs.size))) hxo rfl
 have I3:=I2.write (h':=h₂.update a (Obj.mapFields (·.setIfInBounds 1 (Value.ref h₁.objs.size)))) (t':=s.toks) (x:=a) (e:=a) (o:=Q0 (some h₁.objs.size) a C d) (by rw [e2];exact True.intro) (.inl rfl)
  (λb u n q=>(Heap.get?_update_other _ _ (Ne.symm n)).trans q) ⟨_,hu⟩ (okX ⟨_,hu,by simpa using hsz,by simp [tbV,hsz]⟩)
 refine h _ _ h₁.objs.size I3 ⟨fx.xc,b9,λd' z=>?_,λT z=>?_⟩ ⟨λb o n q=>?_,_,b9⟩
 ·obtain ⟨n,fs,q⟩:=fx.dc d' z
  exact ⟨n,fs,by rw [a4 n,a4 (b7 q nT)];exact q⟩
 ·cases z
  exact ⟨hTa,by rw [a4 hTa];exact b9⟩
 ·rw [a4 n,a4 (b7 q nT)];exact q
theorem b4z (I:Inv X pins σ H s) (hA:A.frames=some X.stack) (hst:X.stack=X.env :: X.outer) (hf:X.env.frame=some X.env.locals) (fx:Fx X.K H a C d tb)
  (h:∀ H' s' T,Inv X pins σ H' s'->Fx X.K H' a C d (some T)->Mv H a C d H'->Q () s'):wpAny (model X.prog X.w) A (noteFrame (.ref a) X.env) Q E s:=by
 obtain ⟨vs,hxo,hsz,hv⟩:=fx.isX I
 unfold noteFrame
 simp only [hf]
 cases tb with
 | none=>
  refine wpAny_bind (wpAny_field hxo rfl (x:=.none) hv ?_)
  rw [if_neg (by decide)]
  exact a2e I hA hst hf fx h
 | some T=>
  refine wpAny_bind (wpAny_field hxo rfl (x:=.ref T) hv ?_)
  rw [if_pos (show (Value.ref T != Value.none)=true from by simp)]
  obtain ⟨nT,eT⟩:=fx.tb_ T rfl
  obtain ⟨o,ts,e1,e2,z⟩:=(I.hok T _ eT).1
  refine wpAny_bind (wpAny_field e1 e2 (x:=ts[3]) (Array.getElem?_eq_getElem z) ?_)
  by_cases hq:(ts[3]==rawInt X.env.locals)=true
  ·rw [if_pos hq]
   exact wpAny_pure (h H s T I fx ⟨λb o _ q=>q,_,fx.at_⟩)
  ·rw [if_neg hq]
   exact wpAny_bind (I.setTb eT λI2=>a2e I2 hA hst hf fx h)
theorem a7p {fl:Option Addr} (I:Inv X pins σ H s) (fx:Fx X.K H a C d (some T)) (h:∀ s',Inv X pins σ H s'->Q () s'):wpAny (model X.prog X.w) A (setFlight (.ref a) fl) Q E s:=by
 obtain ⟨vs,hxo,hsz,hv⟩:=fx.isX I
 unfold setFlight
 refine wpAny_bind (wpAny_field hxo rfl (x:=.ref T) hv ?_)
 rw [if_pos (show (Value.ref T != Value.none)=true from by simp)]
 exact I.setTb (fx.tb_ T rfl).2 λI2=>h _ I2
theorem a5a (I:Inv X pins σ H s) (hA:A.frames=some X.stack) (hst:X.stack=X.env :: X.outer) (hf:X.env.frame=some X.env.locals) (fx:Fx X.K H a C d tb)
  (h:∀ H' s' T,Inv X pins σ H' s'->Fx X.K H' a C d (some T)->Mv H a C d H'->Q () s'):wpAny (model X.prog X.w) A (leaving X.env (.ref a)) Q E s:=by
 unfold leaving
 exact wpAny_bind (b4z I hA hst hf fx λH1 s1 T I1 fx1 m1=>a7p I1 fx1 λs2 I2=>h H1 s2 T I2 fx1 m1)
end
end L2
namespace Hn
open PySem L2
def spHE (K:PySem.W.Frag):Sp:=λvs H Q _=>∃ (x:Addr) (y:V) (C:Addr) (d:Option Addr),vs=[.ref x,y]/\XC K C/\H x=some (b4o x C d)/\Q .non H
structure Fmt (K:PySem.W.Frag) (H:Hp) (v:V) (d:PyData):Prop where
 at_:DAt K H v d
 sh:Shows d
 l1:d.shown.length<=4000
 l2:∀ x,v=.str x->x.length<=4000
def Got (H:Hp) (x C:Addr) (fs:List (Str×V)) (H':Hp):Prop:=∃ d,H d=none/\d≠x/\H' x=some (b4o x C (some d))/\H' d=some (a17 d fs)/\∀ b,b≠x->b≠d->H' b=H b
def sp1 (K:PySem.W.Frag) (f:Str):Sp:=λvs H Q _=>∃ (x:Addr) (v:V) (C:Addr) (dv:PyData),vs=[.ref x,v]/\XC K C/\D4 K C f/\H x=some (b4o x C none)/\Fmt K H v dv/\∀ H',Got H x C [(f,v)] H'->Q .non H'
def sp2 (K:PySem.W.Frag) (f g:Str):Sp:=λvs H Q _=>∃ (x:Addr) (v u:V) (C:Addr) (dv du:PyData),vs=[.ref x,v,u]/\XC K C/\D4 K C f/\D4 K C g/\H x=some (b4o x C none)/\Fmt K H v dv/\Fmt K H u du /\
 ∀ H',Got H x C [(f,v),(g,u)] H'->Q .non H'
end Hn
namespace L3
open PySem PySem.Spec PyProof.Rows L2
inductive D where
 | non | bl (b:Bool) | int (i:Int) | str (x:Str) | tup (ds:List D) | lst (ds:List D) | scr (ds:List D) | ref (n:Nat)
inductive O where
 | lst (ds:List D) | dct (kvs:List (Key×D)) | exc (c:Nat) (fs:List (Str×D))
noncomputable abbrev Sto:=List O
inductive R (α:Type) where
 | ok (a:α) (S:Sto) | exn (n:Nat) (S:Sto) | bad
noncomputable abbrev M (α:Type):=Sto->R α
noncomputable def ret {α:Type} (a:α):M α:=λS=>.ok a S
noncomputable def bad {α:Type}:M α:=λ_=>.bad
noncomputable def bind {α β:Type} (m:M α) (k:α->M β):M β:=λS=>match m S with
 | .ok a S'=>k a S'
 | .exn n S'=>.exn n S'
 | .bad=>.bad
noncomputable abbrev Env:=List (Option D)
structure Mp where
 pl:List Addr
 rs:List Addr
noncomputable def Mp.push (μ:Mp) (p:Addr):Mp:=⟨μ.pl++[p],μ.rs⟩
def TupAt (K:PySem.W.Frag) (μ:Mp) (H:Hp) (a:Addr) (xs:List V):Prop:=
 (Rd H a (.tup xs)/\a∉μ.pl/\a∉μ.rs)\/∃ (o:Obj) (its:Array Value) (n:Nat),K.lookup a=some o/\o.cls=.type "tuple"/\o.data=.seq its n/\its.size<=sizeLine/\Vals xs its.toList/\o.dict=none
def ScrAt (K:PySem.W.Frag) (μ:Mp) (H:Hp) (a:Addr) (xs:List V):Prop:=
 (Rd H a (.lst xs)/\a∉μ.pl/\a∉μ.rs)\/∃ (o:Obj) (its:Array Value) (n:Nat),K.lookup a=some o/\o.cls=.type "list"/\o.dict=none/\o.data=.seq its n/\its.size<=sizeLine/\Vals xs its.toList
def LstAt (μ:Mp) (H:Hp) (a:Addr) (xs:List V):Prop:=H a=some (.lst xs)/\a∉μ.pl/\a∉μ.rs
theorem TupAt.sq {K:PySem.W.Frag} {μ:Mp} {H:Hp} {a:Addr} {xs:List V} (h:TupAt K μ H a xs):SqT K H a xs:=h.imp (λz=>z.1) λ⟨o,its,n,a,b,c,d,e,_⟩=>⟨o,its,n,a,b,c,d,e⟩
theorem ScrAt.sq {K:PySem.W.Frag} {μ:Mp} {H:Hp} {a:Addr} {xs:List V} (h:ScrAt K μ H a xs):SqL K H a xs:=h.imp (λz=>z.1) id
theorem LstAt.sq {K:PySem.W.Frag} {μ:Mp} {H:Hp} {a:Addr} {xs:List V} (h:LstAt μ H a xs):SqL K H a xs:=.inl (.inl h.1)
mutual
inductive RD (K:PySem.W.Frag) (μ:Mp) (H:Hp):D->V->Prop where
 | non:RD K μ H .non .non
 | bl (b:Bool):RD K μ H (.bl b) (.bl b)
 | int (i:Int):RD K μ H (.int i) (.int i)
 | str (x:Str):RD K μ H (.str x) (.str x)
 | tup {a:Addr} {xs:List V} {ds:List D}:TupAt K μ H a xs->RDs K μ H ds xs->RD K μ H (.tup ds) (.ref a)
 | lst {a:Addr} {xs:List V} {ds:List D}:LstAt μ H a xs->RDs K μ H ds xs->RD K μ H (.lst ds) (.ref a)
 | scr {a:Addr} {xs:List V} {ds:List D}:ScrAt K μ H a xs->RDs K μ H ds xs->RD K μ H (.scr ds) (.ref a)
 | ref {n:Nat} {a:Addr}:μ.pl[n]?=some a->RD K μ H (.ref n) (.ref a)
inductive RDs (K:PySem.W.Frag) (μ:Mp) (H:Hp):List D->List V->Prop where
 | nil:RDs K μ H [] []
 | cons {d:D} {v:V} {ds:List D} {vs:List V}:RD K μ H d v->RDs K μ H ds vs->RDs K μ H (d :: ds) (v :: vs)
end
structure Lat (μ:Mp) (H:Hp) (μ':Mp) (H':Hp):Prop where
 pre:∀ (n:Nat) (a:Addr),μ.pl[n]?=some a->μ'.pl[n]?=some a
 oth:∀ a o,H a=some o->a∉μ.pl->H' a=some o
 new:∀ a,a∈μ'.pl->a∈μ.pl\/H a=none
 rsv:μ'.rs=μ.rs
theorem Lat.refl (μ:Mp) (H:Hp):Lat μ H μ H:=⟨λ_ _ h=>h,λ_ _ h _=>h,λ_ h=>.inl h,rfl⟩
theorem Lat.out {μ μ':Mp} {H H':Hp} (l:Lat μ H μ' H') {a:Addr} {o:HO} (h:H a=some o) (n:a∉μ.pl):a∉μ'.pl:=λz=>by
 rcases l.new a z with q | q
 ·exact n q
 ·rw [h] at q;cases q
theorem Lat.trans {μ μ1 μ2:Mp} {H H1 H2:Hp} (l:Lat μ H μ1 H1) (k:Lat μ1 H1 μ2 H2):Lat μ H μ2 H2:=by
 refine ⟨λn a h=>k.pre n a (l.pre n a h),λa o h n=>k.oth a o (l.oth a o h n) (l.out h n),λa h=>?_,k.rsv.trans l.rsv⟩
 rcases k.new a h with q | q
 ·exact l.new a q
 ·by_cases m:a∈μ.pl
  ·exact .inl m
  ·right
   cases e:H a with
   | none=>rfl
   | some o=>rw [l.oth a o e m] at q;cases q
theorem Rd.later {μ μ':Mp} {H H':Hp} (l:Lat μ H μ' H') {a:Addr} {u:HO} (h:Rd H a u) (n:a∉μ.pl):Rd H' a u/\a∉μ'.pl:=by
 rcases h with h | ⟨o,h⟩
 ·exact ⟨.inl (l.oth _ _ h n),l.out h n⟩
 ·exact ⟨.inr ⟨o,l.oth _ _ h n⟩,l.out h n⟩
theorem TupAt.later {K:PySem.W.Frag} {μ μ':Mp} {H H':Hp} (l:Lat μ H μ' H') {a:Addr} {xs:List V} (h:TupAt K μ H a xs):TupAt K μ' H' a xs:=h.imp (λz=>⟨(Rd.later l z.1 z.2.1).1,(Rd.later l z.1 z.2.1).2,by rw [l.rsv];exact z.2.2⟩) id
theorem ScrAt.later {K:PySem.W.Frag} {μ μ':Mp} {H H':Hp} (l:Lat μ H μ' H') {a:Addr} {xs:List V} (h:ScrAt K μ H a xs):ScrAt K μ' H' a xs:=h.imp (λz=>⟨(Rd.later l z.1 z.2.1).1,(Rd.later l z.1 z.2.1).2,by rw [l.rsv];exact z.2.2⟩) id
theorem LstAt.later {μ μ':Mp} {H H':Hp} (l:Lat μ H μ' H') {a:Addr} {xs:List V} (h:LstAt μ H a xs):LstAt μ' H' a xs:=⟨l.oth _ _ h.1 h.2.1,l.out h.1 h.2.1,by rw [l.rsv];exact h.2.2⟩
mutual
theorem RD.later {K:PySem.W.Frag} {μ μ':Mp} {H H':Hp} (l:Lat μ H μ' H'):∀ {d:D} {v:V},RD K μ H d v->RD K μ' H' d v
 | _,_,.non=>.non
 | _,_,.bl b=>.bl b
 | _,_,.int i=>.int i
 | _,_,.str x=>.str x
 | _,_,.tup h r=>.tup (h.later l) (RDs.later l r)
 | _,_,.lst h r=>.lst (h.later l) (RDs.later l r)
 | _,_,.scr h r=>.scr (h.later l) (RDs.later l r)
 | _,_,.ref h=>.ref (l.pre _ _ h)
theorem RDs.later {K:PySem.W.Frag} {μ μ':Mp} {H H':Hp} (l:Lat μ H μ' H'):∀ {ds:List D} {vs:List V},RDs K μ H ds vs->RDs K μ' H' ds vs
 | _,_,.nil=>.nil
 | _,_,.cons h r=>.cons (RD.later l h) (RDs.later l r)
end
section
variable {K:PySem.W.Frag} {μ:Mp} {H:Hp}
theorem RDs.length:∀ {ds:List D} {vs:List V},RDs K μ H ds vs->ds.length=vs.length
 | _,_,.nil=>rfl
 | _,_,.cons _ r=>by simp [RDs.length r]
theorem RDs.get:∀ {ds:List D} {vs:List V} {i:Nat} {d:D},RDs K μ H ds vs->ds[i]?=some d->∃ v,vs[i]?=some v/\RD K μ H d v
 | _,_,_,_,.nil,e=>by simp at e
 | _,_,0,_,.cons h _,e=>by simp at e;subst e;exact ⟨_,rfl,h⟩
 | _,_,i+1,d,.cons _ r,e=>by
  obtain ⟨v,h1,h2⟩:=RDs.get (i:=i) (d:=d) r (by simpa using e)
  exact ⟨v,by simpa using h1,h2⟩
theorem RDs.append:∀ {ds es:List D} {vs us:List V},RDs K μ H ds vs->RDs K μ H es us->RDs K μ H (ds++es) (vs++us)
 | _,_,_,_,.nil,s=>s
 | _,_,_,_,.cons h r,s=>.cons h (RDs.append r s)
theorem RDs.take:∀ {ds:List D} {vs:List V} (n:Nat),RDs K μ H ds vs->RDs K μ H (ds.take n) (vs.take n)
 | _,_,0,_=>by simpa using RDs.nil
 | _,_,_+1,.nil=>by simpa using RDs.nil
 | _,_,n+1,.cons h r=>by simpa using RDs.cons h (RDs.take n r)
theorem RDs.drop:∀ {ds:List D} {vs:List V} (n:Nat),RDs K μ H ds vs->RDs K μ H (ds.drop n) (vs.drop n)
 | _,_,0,h=>by simpa using h
 | _,_,_+1,.nil=>by simpa using RDs.nil
 | _,_,n+1,.cons _ r=>by simpa using RDs.drop n r
theorem RDs.set {d:D} {v:V} (q:RD K μ H d v):∀ {ds:List D} {vs:List V} (n:Nat),RDs K μ H ds vs->RDs K μ H (ds.set n d) (vs.set n v)
 | _,_,_,.nil=>by simpa using RDs.nil
 | _,_,0,.cons h r=>by simpa using RDs.cons q r
 | _,_,n+1,.cons h r=>by simpa using RDs.cons h (RDs.set q n r)
theorem RDs.rep {ds:List D} {vs:List V} (r:RDs K μ H ds vs):∀ k:Nat,RDs K μ H (List.replicate k ds).flatten (List.replicate k vs).flatten
 | 0=>.nil
 | k+1=>by
  rw [List.replicate_succ,List.replicate_succ,List.flatten_cons,List.flatten_cons]
  exact r.append (RDs.rep r k)
theorem RDs.ints:∀ ns:List Int,RDs K μ H (ns.map D.int) (ns.map V.int)
 | []=>.nil
 | n :: ns=>.cons (.int n) (RDs.ints ns)
end
def b6y (K:PySem.W.Frag) (μ:Mp) (H:Hp):List (Str×D)->List (Str×V)->Prop:=Paired λp q=>p.1=q.1/\RD K μ H p.2 q.2
def KvsAt (K:PySem.W.Frag) (μ:Mp) (H:Hp):List (Key×D)->List (Key×V)->Prop:=Paired λp q=>p.1=q.1/\RD K μ H p.2 q.2
def OAt (K:PySem.W.Frag) (cl:Nat->Addr) (μ:Mp) (H:Hp) (a:Addr):O->Prop
 | .lst ds=>∃ xs,H a=some (.lst xs)/\RDs K μ H ds xs
 | .dct kvs=>∃ ks,H a=some (.dK ks)/\KvsAt K μ H kvs ks
 | .exc c fs=>XC K (cl c)/\∃ gs,b6y K μ H fs gs/\∃ fr,((gs=[]/\H a=some (Q0 fr a (cl c) none))\/∃ d,d≠a/\d∉μ.pl/\H a=some (Q0 fr a (cl c) (some d))/\H d=some (a17 d gs))
structure Rep (K:PySem.W.Frag) (cl:Nat->Addr) (μ:Mp) (S:Sto) (H:Hp):Prop where
 len:μ.pl.length=S.length
 nd:μ.pl.Nodup
 ats:∀ (n:Nat) (o:O) (a:Addr),S[n]?=some o->μ.pl[n]?=some a->OAt K cl μ H a o
 res:∀ a,a∈μ.rs->a∉μ.pl/\∃ u,H a=some u
theorem Paired.mono {α β:Type} {P Q:α->β->Prop} (h:∀ a b,P a b->Q a b):∀ {xs:List α} {ys:List β},Paired P xs ys->Paired Q xs ys
 | _,_,.nil=>.nil
 | _,_,.cons r t=>.cons (h _ _ r) (Paired.mono h t)
section
variable {K:PySem.W.Frag} {cl:Nat->Addr} {μ:Mp} {S:Sto} {H:Hp}
theorem OAt.some {a:Addr} {o:O} (h:OAt K cl μ H a o):∃ u,H a=some u:=by
 cases o with
 | lst ds=>obtain ⟨xs,e,_⟩:=h;exact ⟨_,e⟩
 | dct kvs=>obtain ⟨xs,e,_⟩:=h;exact ⟨_,e⟩
 | exc c fs=>
  obtain ⟨_,gs,_,fr,⟨_,e⟩ | ⟨d,_,_,e,_⟩⟩:=h
  ·exact ⟨_,e⟩
  ·exact ⟨_,e⟩
theorem Rep.tracked (r:Rep K cl μ S H) {a:Addr} (h:a∈μ.pl):∃ u,H a=some u:=by
 obtain ⟨n,hn,e⟩:=List.getElem_of_mem h
 have hs:n<S.length:=by rw [<- r.len];exact hn
 exact (r.ats n S[n] a (List.getElem?_eq_getElem hs) (by rw [List.getElem?_eq_getElem hn,e])).some
theorem Rep.notrs (r:Rep K cl μ S H) {p:Addr} (h:H p=none):p∉μ.rs:=λz=>by
 obtain ⟨_,u,e⟩:=r.res p z
 rw [h] at e;cases e
theorem Rep.notin (r:Rep K cl μ S H) {p:Addr} (h:H p=none):p∉μ.pl:=λz=>by
 obtain ⟨u,e⟩:=r.tracked z
 rw [h] at e;cases e
theorem Lat.laid {p:Addr} {o:HO} (h:H p=none):Lat μ H μ (upd H p o):=⟨λ_ _ h=>h,λa u e _=>by rw [a4 (b7 e h)];exact e,λ_ h=>.inl h,rfl⟩
theorem Rep.keep {H':Hp} (r:Rep K cl μ S H) (l:Lat μ H μ H') (k:∀ a,a∈μ.pl->H' a=H a):Rep K cl μ S H':=by
 refine ⟨r.len,r.nd,λn o a e1 e2=>?_,λa m=>let ⟨h1,u,h2⟩:=r.res a m;⟨h1,u,l.oth _ _ h2 h1⟩⟩
 have ka:=k a (List.mem_of_getElem? e2)
 have h:=r.ats n o a e1 e2
 cases o with
 | lst ds=>obtain ⟨xs,e,q⟩:=h;exact ⟨xs,by rw [ka];exact e,q.later l⟩
 | dct kvs=>obtain ⟨xs,e,q⟩:=h;exact ⟨xs,by rw [ka];exact e,Paired.mono (λ_ _ ⟨z,w⟩=>⟨z,w.later l⟩) q⟩
 | exc c fs=>
  obtain ⟨xc,gs,q,fr,h⟩:=h
  refine ⟨xc,gs,Paired.mono (λ_ _ ⟨z,w⟩=>⟨z,w.later l⟩) q,fr,?_⟩
  rcases h with ⟨z,e⟩ | ⟨d,h1,h2,e,e2⟩
  ·exact .inl ⟨z,by rw [ka];exact e⟩
  ·exact .inr ⟨d,h1,h2,by rw [ka];exact e,l.oth _ _ e2 h2⟩
theorem Rep.laid {p:Addr} {o:HO} (r:Rep K cl μ S H) (h:H p=none):Rep K cl μ S (upd H p o):=r.keep (Lat.laid h) λa m=>a4 λz=>r.notin h (z▸m)
theorem Lat.pushed {p:Addr} {H':Hp} (h:H p=none) (k:∀ a u,H a=some u->H' a=some u):Lat μ H (μ.push p) H':=
 ⟨λn a e=>by show (μ.pl++[p])[n]?=_;rw [List.getElem?_append_left (List.getElem?_eq_some_iff.mp e).1];exact e,λa u e _=>k a u e,λa m=>by
  rcases List.mem_append.mp m with z | z
  ·exact .inl z
  ·exact .inr (by rw [List.mem_singleton.mp z];exact h),rfl⟩
theorem OAt.later {μ':Mp} {H':Hp} {a:Addr} {o:O} (h:OAt K cl μ H a o) (l:Lat μ H μ' H') (ka:H' a=H a):OAt K cl μ' H' a o:=by
 cases o with
 | lst ds=>obtain ⟨xs,e,q⟩:=h;exact ⟨xs,by rw [ka];exact e,q.later l⟩
 | dct kvs=>obtain ⟨xs,e,q⟩:=h;exact ⟨xs,by rw [ka];exact e,Paired.mono (λ_ _ ⟨z,w⟩=>⟨z,w.later l⟩) q⟩
 | exc c fs=>
  obtain ⟨xc,gs,q,fr,h⟩:=h
  refine ⟨xc,gs,Paired.mono (λ_ _ ⟨z,w⟩=>⟨z,w.later l⟩) q,fr,?_⟩
  rcases h with ⟨z,e⟩ | ⟨d,h1,h2,e,e2⟩
  ·exact .inl ⟨z,by rw [ka];exact e⟩
  ·exact .inr ⟨d,h1,l.out e2 h2,by rw [ka];exact e,l.oth _ _ e2 h2⟩
theorem Rep.pushed {p:Addr} {H':Hp} {o:O} (r:Rep K cl μ S H) (h:H p=none) (k:∀ a u,H a=some u->H' a=some u) (ho:OAt K cl (μ.push p) H' p o):Rep K cl (μ.push p) (S++[o]) H':=by
 have l:=Lat.pushed (μ:=μ) h k
 refine ⟨by simp [Mp.push,r.len],?_,λn u a e1 e2=>?_,λa m=>?_⟩
 ·show (μ.pl++[p]).Nodup
  rw [List.nodup_append]
  exact ⟨r.nd,by simp,λa m b m2=>by rw [List.mem_singleton.mp m2];rintro rfl;exact r.notin h m⟩
 ·have e2:(μ.pl++[p])[n]?=some a:=e2
  by_cases hn:n<S.length
  ·rw [List.getElem?_append_left hn] at e1
   rw [List.getElem?_append_left (by rw [r.len];exact hn)] at e2
   have q:=r.ats n u a e1 e2
   obtain ⟨z,ez⟩:=q.some
   exact q.later l ((k a z ez).trans ez.symm)
  ·have hn2:n=S.length:=by
    have:=(List.getElem?_eq_some_iff.mp e1).1
    simp at this;omega
   subst hn2
   rw [<- r.len] at e2
   simp at e1 e2
   subst e1;subst e2
   exact ho
 ·obtain ⟨h1,u,h2⟩:=r.res a m
  refine ⟨λz=>?_,u,k a u h2⟩
  rcases List.mem_append.mp (show a∈μ.pl++[p] from z) with z | z
  ·exact h1 z
  ·rw [List.mem_singleton.mp z,h] at h2;cases h2
theorem Lat.wrote {a:Addr} {o:HO} (h:a∈μ.pl):Lat μ H μ (upd H a o):=⟨λ_ _ h=>h,λb u e n=>by rw [a4 (λz=>n (by rw [z];exact h))];exact e,λ_ h=>.inl h,rfl⟩
theorem Rep.wrote {n:Nat} {a:Addr} {u:HO} {o:O} (r:Rep K cl μ S H) (e:μ.pl[n]?=some a) (ho:OAt K cl μ (upd H a u) a o):Rep K cl μ (S.set n o) (upd H a u):=by
 have m:a∈μ.pl:=List.mem_of_getElem? e
 refine ⟨by simp [r.len],r.nd,λk w b e1 e2=>?_,λb mb=>let ⟨h1,u',h2⟩:=r.res b mb;⟨h1,u',by rw [a4 (λz=>h1 (by rw [z];exact m))];exact h2⟩⟩
 by_cases hk:n=k
 ·subst hk
  rw [e] at e2;cases e2
  rw [List.getElem?_set_self (by have:=(List.getElem?_eq_some_iff.mp e).1;rw [r.len] at this;exact this)] at e1
  cases e1;exact ho
 ·rw [List.getElem?_set_ne hk] at e1
  have hb:b≠a:=λz=>by
   subst z
   obtain ⟨h1,q1⟩:=List.getElem?_eq_some_iff.mp e
   obtain ⟨h2,q2⟩:=List.getElem?_eq_some_iff.mp e2
   exact hk ((List.getElem_inj r.nd).mp (q1.trans q2.symm))
  exact (r.ats k w b e1 e2).later (Lat.wrote m) (a4 hb)
end
noncomputable def Mp.hold (μ:Mp) (p:Addr):Mp:=⟨μ.pl,p :: μ.rs⟩
mutual
theorem RD.move {K:PySem.W.Frag} {μ μ':Mp} {H H':Hp} (hp:∀ (n:Nat) (a:Addr),μ.pl[n]?=some a->μ'.pl[n]?=some a) (ho:∀ a u,H a=some u->a∉μ.pl->a∉μ.rs->H' a=some u/\a∉μ'.pl/\a∉μ'.rs):∀ {d:D} {v:V},RD K μ H d v->RD K μ' H' d v
 | _,_,.non=>.non
 | _,_,.bl b=>.bl b
 | _,_,.int i=>.int i
 | _,_,.str x=>.str x
 | _,_,.tup h r=>.tup (h.imp (λ⟨q,n1,n2⟩=>by
   rcases q with q | ⟨o,q⟩
   ·exact ⟨.inl (ho _ _ q n1 n2).1,(ho _ _ q n1 n2).2⟩
   ·exact ⟨.inr ⟨o,(ho _ _ q n1 n2).1⟩,(ho _ _ q n1 n2).2⟩) id) (RDs.move hp ho r)
 | _,_,.lst h r=>.lst (ho _ _ h.1 h.2.1 h.2.2) (RDs.move hp ho r)
 | _,_,.scr h r=>.scr (h.imp (λ⟨q,n1,n2⟩=>by
   rcases q with q | ⟨o,q⟩
   ·exact ⟨.inl (ho _ _ q n1 n2).1,(ho _ _ q n1 n2).2⟩
   ·exact ⟨.inr ⟨o,(ho _ _ q n1 n2).1⟩,(ho _ _ q n1 n2).2⟩) id) (RDs.move hp ho r)
 | _,_,.ref h=>.ref (hp _ _ h)
theorem RDs.move {K:PySem.W.Frag} {μ μ':Mp} {H H':Hp} (hp:∀ (n:Nat) (a:Addr),μ.pl[n]?=some a->μ'.pl[n]?=some a) (ho:∀ a u,H a=some u->a∉μ.pl->a∉μ.rs->H' a=some u/\a∉μ'.pl/\a∉μ'.rs):∀ {ds:List D} {vs:List V},RDs K μ H ds vs->RDs K μ' H' ds vs
 | _,_,.nil=>.nil
 | _,_,.cons h r=>.cons (RD.move hp ho h) (RDs.move hp ho r)
end
section
variable {K:PySem.W.Frag} {cl:Nat->Addr} {μ:Mp} {S:Sto} {H:Hp}
theorem Rep.move {μ':Mp} {H':Hp} (r:Rep K cl μ S H) (hr:∀ a,a∈μ'.rs->a∉μ'.pl/\∃ u,H' a=some u) (hp:μ'.pl=μ.pl) (hk:∀ a,a∈μ.pl->H' a=H a) (hx:∀ a u,H a=some (.ext u)->H' a=some (.ext u)) (ho:∀ a u,H a=some u->a∉μ.pl->a∉μ.rs->H' a=some u/\a∉μ'.pl/\a∉μ'.rs):Rep K cl μ' S H':=by
 have hp':∀ (n:Nat) (a:Addr),μ.pl[n]?=some a->μ'.pl[n]?=some a:=λn a e=>by rw [hp];exact e
 refine ⟨by rw [hp];exact r.len,by rw [hp];exact r.nd,λn o a e1 e2=>?_,hr⟩
 rw [hp] at e2
 have ka:=hk a (List.mem_of_getElem? e2)
 have h:=r.ats n o a e1 e2
 cases o with
 | lst ds=>obtain ⟨xs,e,q⟩:=h;exact ⟨xs,by rw [ka];exact e,q.move hp' ho⟩
 | dct kvs=>obtain ⟨xs,e,q⟩:=h;exact ⟨xs,by rw [ka];exact e,Paired.mono (λ_ _ ⟨z,w⟩=>⟨z,w.move hp' ho⟩) q⟩
 | exc c fs=>
  obtain ⟨xc,gs,q,fr,h⟩:=h
  refine ⟨xc,gs,Paired.mono (λ_ _ ⟨z,w⟩=>⟨z,w.move hp' ho⟩) q,fr,?_⟩
  rcases h with ⟨z,e⟩ | ⟨d,h1,h2,e,e2⟩
  ·exact .inl ⟨z,by rw [ka];exact e⟩
  ·exact .inr ⟨d,h1,by rw [hp];exact h2,by rw [ka];exact e,hx _ _ e2⟩
end
section
variable (K:PySem.W.Frag) (cl:Nat->Addr) (xe:Addr->Hp->Prop)
def Post {α:Type} (μ:Mp) (H:Hp) (r:R α) (G:α->Sto->Mp->Hp->Prop):Prop:=match r with
 | .ok a S=>∀ μ' H',Lat μ H μ' H'->Rep K cl μ' S H'->G a S μ' H'
 | .exn n S=>∀ μ' H' a,Lat μ H μ' H'->Rep K cl μ' S H'->μ'.pl[n]?=some a->xe a H'
 | .bad=>False
end
section
variable {K:PySem.W.Frag} {cl:Nat->Addr} {xe:Addr->Hp->Prop} {α β:Type} {μ μ1:Mp} {H H1:Hp}
theorem Post.later {r:R α} {G:α->Sto->Mp->Hp->Prop} (h:Post K cl xe μ H r G) (l:Lat μ H μ1 H1):Post K cl xe μ1 H1 r G:=by
 cases r with
 | ok a S=>exact λμ' H' k r=>h μ' H' (l.trans k) r
 | exn n S=>exact λμ' H' a k r e=>h μ' H' a (l.trans k) r e
 | bad=>exact h
theorem Post.imp {r:R α} {G G':α->Sto->Mp->Hp->Prop} (h:Post K cl xe μ H r G) (k:∀ a S μ' H',Lat μ H μ' H'->Rep K cl μ' S H'->G a S μ' H'->G' a S μ' H'):Post K cl xe μ H r G':=by
 cases r with
 | ok a S=>exact λμ' H' l r=>k a S μ' H' l r (h μ' H' l r)
 | exn n S=>exact h
 | bad=>exact h
theorem Post.bind {m:M α} {k:α->M β} {S:Sto} {G:β->Sto->Mp->Hp->Prop} (h:Post K cl xe μ H (bind m k S) G):Post K cl xe μ H (m S) (λa S1 μ1 H1=>Post K cl xe μ1 H1 (k a S1) G):=by
 unfold L3.bind at h
 cases e:m S with
 | ok a S1=>
  rw [e] at h
  exact λμ' H' l r=>Post.later h l
 | exn n S1=>rw [e] at h;exact h
 | bad=>rw [e] at h;exact h
theorem Post.ret {a:α} {S:Sto} {G:α->Sto->Mp->Hp->Prop} (h:Post K cl xe μ H (ret a S) G):∀ μ' H',Lat μ H μ' H'->Rep K cl μ' S H'->G a S μ' H':=h
end
def EnvOk (K:PySem.W.Frag) (μ:Mp) (H:Hp) (ρ:Env) (σ:L2.St):Prop:=ρ.length=σ.length/\∀ (i:Nat) (d:D),ρ[i]?=some (some d)->∃ v,σ[i]?=some (some v)/\RD K μ H d v
theorem EnvOk.later {K:PySem.W.Frag} {μ μ1:Mp} {H H1:Hp} {ρ:Env} {σ:L2.St} (h:EnvOk K μ H ρ σ) (l:Lat μ H μ1 H1):EnvOk K μ1 H1 ρ σ:=⟨h.1,λi d e=>let ⟨v,q,r⟩:=h.2 i d e;⟨v,q,r.later l⟩⟩
theorem EnvOk.set {K:PySem.W.Frag} {μ:Mp} {H:Hp} {ρ:Env} {σ:L2.St} {d:D} {v:V} (h:EnvOk K μ H ρ σ) (r:RD K μ H d v) (i:Nat):EnvOk K μ H (ρ.set i (some d)) (σ.set i (some v)):=by
 refine ⟨by simp [h.1],λj e he=>?_⟩
 by_cases hij:i=j
 ·subst hij
  have hi:i<ρ.length:=by
   have:=(List.getElem?_eq_some_iff.mp he).1
   simpa using this
  rw [List.getElem?_set_self hi] at he
  cases he
  exact ⟨v,List.getElem?_set_self (by rw [<- h.1];exact hi),r⟩
 ·rw [List.getElem?_set_ne hij] at he
  obtain ⟨u,q,r2⟩:=h.2 j e he
  exact ⟨u,by rw [List.getElem?_set_ne hij];exact q,r2⟩
section
variable (K:PySem.W.Frag) (cl:Nat->Addr) (xe:Addr->Hp->Prop)
def tD (f:Env->M D):TE:=λσ H Q=>∃ μ S ρ,EnvOk K μ H ρ σ/\Rep K cl μ S H/\Post K cl xe μ H (f ρ S) λd _ μ' H'=>∀ v,RD K μ' H' d v->Q v H'
def tDs (f:Env->M (List D)):TA:=λσ H Q=>∃ μ S ρ,EnvOk K μ H ρ σ/\Rep K cl μ S H/\Post K cl xe μ H (f ρ S) λds _ μ' H'=>∀ vs,RDs K μ' H' ds vs->Q vs H'
def tBo (f:Env->M Bool):TT:=λσ H Q=>∃ μ S ρ,EnvOk K μ H ρ σ/\Rep K cl μ S H/\Post K cl xe μ H (f ρ S) λb _ _ H'=>Q b H'
def rP2 (g:D->D->M D):R2:=λx y H Q=>∃ μ S d e,RD K μ H d x/\RD K μ H e y/\Rep K cl μ S H/\Post K cl xe μ H (g d e S) λr _ μ' H'=>∀ v,RD K μ' H' r v->Q v H'
def rPs (g:List D->M D):List V->Hp->VK->Prop:=λxs H Q=>∃ μ S ds,RDs K μ H ds xs/\Rep K cl μ S H/\Post K cl xe μ H (g ds S) λr _ μ' H'=>∀ v,RD K μ' H' r v->Q v H'
end
theorem PE.imp {X:Cx} {e:Expr} {t t':TE} (h:PE X e t) (k:∀ σ H Q,t' σ H Q->t σ H Q):PE X e t':=λpins s σ H Q I q=>h pins s σ H Q I (k σ H Q q)
theorem PT.imp {X:Cx} {e:Expr} {t t':TT} (h:PT X e t) (k:∀ σ H Q,t' σ H Q->t σ H Q):PT X e t':=λpins s σ H Q I q=>h pins s σ H Q I (k σ H Q q)
theorem PW.imp {X:Cx} {e:Expr} {t t':TT} (h:PW X e t) (k:∀ σ H Q,t' σ H Q->t σ H Q):PW X e t':=λw pins s σ H Q I q=>h w pins s σ H Q I (k σ H Q q)
theorem PA.imp {X:Cx} {es:List Expr} {t t':TA} (h:PA X es t) (k:∀ σ H Q,t' σ H Q->t σ H Q):PA X es t':=λp pins s σ H Q I q=>h p pins s σ H Q I (k σ H Q q)
theorem PS.imp {X:Cx} {st:Stmt} {t t':TS} (h:PS X st t) (k:∀ D σ H,t' D σ H->t D σ H):PS X st t':=λpins s σ H D I q=>h pins s σ H D I (k D σ H q)
theorem PSs.imp {X:Cx} {st:List Stmt} {t t':TS} (h:PSs X st t) (k:∀ D σ H,t' D σ H->t D σ H):PSs X st t':=λpins s σ H D I q=>h pins s σ H D I (k D σ H q)
section
variable {X:Cx} {cl:Nat->Addr} {xe:Addr->Hp->Prop} {a b c:Expr} {es:List Expr} {pos:Pos} {f g:Env->M D}
theorem f6 {e:Expr}:PE X e (tD X.K cl xe λ_=>bad):=λ_ _ _ _ _ _ ⟨_,_,_,_,_,p⟩=>p.elim
theorem a36 {e:Expr}:PT X e (tBo X.K cl xe λ_=>bad):=λ_ _ _ _ _ _ ⟨_,_,_,_,_,p⟩=>p.elim
theorem pw_bad {e:Expr}:PW X e (tBo X.K cl xe λ_=>bad):=λ_ _ _ _ _ _ _ ⟨_,_,_,_,_,p⟩=>p.elim
theorem E4 {e:Expr} {v:V} {d:D} (h:PE X e (tC v)) (r:∀ μ H,RD X.K μ H d v):PE X e (tD X.K cl xe λ_=>ret d):=PE.imp h λσ H Q ⟨μ,S,ρ,eo,rp,p⟩=>p.ret μ H (Lat.refl _ _) rp v (r μ H)
noncomputable def getD (i:Nat) (ρ:Env):M D:=match ρ[i]? with
 | some (some d)=>ret d
 | _=>bad
theorem b8p {i:Nat} {e:Expr} (h:PE X e (c0q i)):PE X e (tD X.K cl xe λρ=>getD i ρ):=PE.imp h λσ H Q ⟨μ,S,ρ,eo,rp,p⟩=>by
 cases e:ρ[i]? with
 | none=>simp only [getD,e] at p;exact p.elim
 | some o=>
  cases o with
  | none=>simp only [getD,e] at p;exact p.elim
  | some d=>
   simp only [getD,e] at p
   obtain ⟨v,q,r⟩:=eo.2 i d e
   exact ⟨v,q,p.ret μ H (Lat.refl _ _) rp v r⟩
theorem a45 {op:Operator} {h:D->D->M D} (ha:PE X a (tD X.K cl xe f)) (hb:PE X b (tD X.K cl xe g)) (ho:OpR X (binaryOp op) (rP2 X.K cl xe h)) :
  PE X (.BinOp a op b pos) (tD X.K cl xe λρ=>bind (f ρ) λx=>bind (g ρ) λy=>h x y):=PE.imp (c2m ho ha hb) λσ H Q ⟨μ,S,ρ,eo,rp,p⟩=>
 ⟨μ,S,ρ,eo,rp,p.bind.imp λx S1 μ1 H1 l1 r1 p1 v rv=>⟨μ1,S1,ρ,eo.later l1,r1,p1.bind.imp λy S2 μ2 H2 l2 r2 p2 u ru=>⟨μ2,S2,x,y,rv.later l2,ru,r2,p2⟩⟩⟩
theorem b8m {op:CmpOp} {h:D->D->M D} (ha:PE X a (tD X.K cl xe f)) (hb:PE X b (tD X.K cl xe g)) (ho:OpR X (compareOp op) (rP2 X.K cl xe h)) (hm:behindInMarks op b=false) :
  PE X (.Compare a [op] [b] pos) (tD X.K cl xe λρ=>bind (f ρ) λx=>bind (g ρ) λy=>h x y):=PE.imp (b5g ho ha hb hm) λσ H Q ⟨μ,S,ρ,eo,rp,p⟩=>
 ⟨μ,S,ρ,eo,rp,p.bind.imp λx S1 μ1 H1 l1 r1 p1 v rv=>⟨μ1,S1,ρ,eo.later l1,r1,p1.bind.imp λy S2 μ2 H2 l2 r2 p2 u ru=>⟨μ2,S2,x,y,rv.later l2,ru,r2,p2⟩⟩⟩
theorem c0a {h:D->D->M D} (ha:PE X a (tD X.K cl xe f)) (hb:PE X b (tD X.K cl xe g)) (ho:IxR X (rP2 X.K cl xe h)) (hs:a12 b) :
  PE X (.Subscript a b pos) (tD X.K cl xe λρ=>bind (f ρ) λx=>bind (g ρ) λy=>h x y):=PE.imp (c1e ho ha hb hs) λσ H Q ⟨μ,S,ρ,eo,rp,p⟩=>
 ⟨μ,S,ρ,eo,rp,p.bind.imp λx S1 μ1 H1 l1 r1 p1 v rv=>⟨μ1,S1,ρ,eo.later l1,r1,p1.bind.imp λy S2 μ2 H2 l2 r2 p2 u ru=>⟨μ2,S2,x,y,rv.later l2,ru,r2,p2⟩⟩⟩
theorem c0t {t:Env->M Bool} (hc:PT X c (tBo X.K cl xe t)) (ha:PE X a (tD X.K cl xe f)) (hb:PE X b (tD X.K cl xe g)):PE X (.IfExp c a b pos) (tD X.K cl xe λρ=>bind (t ρ) λq=>if q=true then f ρ else g ρ):=PE.imp (a9f hc ha hb) λσ H Q ⟨μ,S,ρ,eo,rp,p⟩=>
 ⟨μ,S,ρ,eo,rp,p.bind.imp λq S1 μ1 H1 l1 r1 p1=>by
  cases q with
  | true=>exact ⟨μ1,S1,ρ,eo.later l1,r1,p1⟩
  | false=>exact ⟨μ1,S1,ρ,eo.later l1,r1,p1⟩⟩
theorem b8o {t:Env->M Bool} (h:PT X a (tBo X.K cl xe t)):PT X (.UnaryOp .Not a pos) (tBo X.K cl xe λρ=>bind (t ρ) λq=>ret (!q)):=PT.imp (b9j h) λσ H Q ⟨μ,S,ρ,eo,rp,p⟩=>
 ⟨μ,S,ρ,eo,rp,p.bind.imp λq S1 μ1 H1 l1 r1 p1=>p1.ret μ1 H1 (Lat.refl _ _) r1⟩
theorem b2s {t:Env->M Bool} (h:PT X a (tBo X.K cl xe t)):PW X (.BoolOp .And [a] pos) (tBo X.K cl xe t):=pw_and1 h
theorem b8t {t:Env->M Bool} (h:PT X a (tBo X.K cl xe t)):PW X (.BoolOp .Or [a] pos) (tBo X.K cl xe t):=pw_or1 h
theorem b72 {t u:Env->M Bool} {rest:List Expr} (h:PT X a (tBo X.K cl xe t)) (k:PW X (.BoolOp .And (b :: rest) pos) (tBo X.K cl xe u)):PW X (.BoolOp .And (a :: b :: rest) pos) (tBo X.K cl xe λρ=>bind (t ρ) λq=>if q=true then u ρ else ret false):=PW.imp (pw_and h k) λσ H Q ⟨μ,S,ρ,eo,rp,p⟩=>
 ⟨μ,S,ρ,eo,rp,p.bind.imp λq S1 μ1 H1 l1 r1 p1=>by
  cases q with
  | true=>exact ⟨μ1,S1,ρ,eo.later l1,r1,p1⟩
  | false=>exact p1.ret μ1 H1 (Lat.refl _ _) r1⟩
theorem c0p {t u:Env->M Bool} {rest:List Expr} (h:PT X a (tBo X.K cl xe t)) (k:PW X (.BoolOp .Or (b :: rest) pos) (tBo X.K cl xe u)):PW X (.BoolOp .Or (a :: b :: rest) pos) (tBo X.K cl xe λρ=>bind (t ρ) λq=>if q=true then ret true else u ρ):=PW.imp (pw_or h k) λσ H Q ⟨μ,S,ρ,eo,rp,p⟩=>
 ⟨μ,S,ρ,eo,rp,p.bind.imp λq S1 μ1 H1 l1 r1 p1=>by
  cases q with
  | true=>exact p1.ret μ1 H1 (Lat.refl _ _) r1
  | false=>exact ⟨μ1,S1,ρ,eo.later l1,r1,p1⟩⟩
noncomputable def asB (d:D):M Bool:=match d with
 | .bl b=>ret b
 | _=>bad
theorem a99 {K:PySem.W.Frag} {μ1:Mp} {H1:Hp} {S:Sto} {d:D} {v:V} {Q:Bool->Hp->Prop} (rv:RD K μ1 H1 d v) (rp:Rep K cl μ1 S H1) (p:Post K cl xe μ1 H1 (asB d S) λb _ _ H'=>Q b H'):∃ k,v=.bl k/\Q k H1:=by
 cases rv with
 | bl b=>exact ⟨b,rfl,p.ret μ1 H1 (Lat.refl _ _) rp⟩
 | _=>exact p.elim
theorem b90 {op:CmpOp} {h:D->D->M D} (ha:PE X a (tD X.K cl xe f)) (hb:PE X b (tD X.K cl xe g)) (ho:OpR X (compareOp op) (rP2 X.K cl xe h)) (hm:behindInMarks op b=false) :
  PT X (.Compare a [op] [b] pos) (tBo X.K cl xe λρ=>bind (f ρ) λx=>bind (g ρ) λy=>bind (h x y) asB):=PT.imp (b3h ho ha hb hm) λσ H Q ⟨μ,S,ρ,eo,rp,p⟩=>
 ⟨μ,S,ρ,eo,rp,p.bind.imp λx S1 μ1 H1 l1 r1 p1 v rv=>⟨μ1,S1,ρ,eo.later l1,r1,p1.bind.imp λy S2 μ2 H2 l2 r2 p2 u ru=>⟨μ2,S2,x,y,rv.later l2,ru,r2,p2.bind.imp λz S3 μ3 H3 l3 r3 p3 w rw=>a99 rw r3 p3⟩⟩⟩
end
end L3
namespace HT
open PySem PySem.Spec PyProof.Rows
theorem noFill_tuple_mul:fillsNumberSlot (.type "tuple") "mul" = pure false:=
 PySem.fillsNumberSlot_seq (id:="tuple.__mul__") (r:=some (.builtin "tuple.__rmul__")) F.slot_tuple_mul.lookup (by decide +kernel) F.slot_tuple_rmul.lookup (by decide +kernel)
theorem repeat_tuple:seqRepeat? (.type "tuple")=pure (some (.builtin "tuple.__mul__")):=by
 unfold seqRepeat?
 rw [PySem.seqSlot_of (T:="tuple") (name:="__mul__") (id:="tuple.__mul__") F.slot_tuple_mul.lookup (by decide +kernel),PySem.seqSlot_of (T:="tuple") (name:="__rmul__") (id:="tuple.__rmul__") F.slot_tuple_rmul.lookup (by decide +kernel)]
 rfl
theorem int_rmul_tuple (a:Int) (t:Tok) (l:Addr) (items:Array Value) (n:Nat) (dd:Option Addr) (sl:Array (Option Value)) :
  Meets (Builtin.«int.__rmul__» ⟨[.int a t,.ref l],[]⟩) (λ_ R s=>s.heap.get? l=some { cls:=.type "tuple",dict:=dd,data:=.seq items n,slots:=sl }/\R (.ok (.ret Value.notImplemented)) s):=
 .of_wp λprog w A R s h=>by obtain ⟨hp,g,d,tk,os⟩:=s;obtain ⟨hl,h⟩:=h;wp_walk;exact ⟨_,rfl,h⟩
theorem tuple_mul1 (l:Addr) (items:Array Value) (n:Nat) (dd:Option Addr) (sl:Array (Option Value)) (u:Tok) :
  Meets (Builtin.«tuple.__mul__» ⟨[.ref l,.int 1 u],[]⟩) (λ_ R s=>s.heap.get? l=some { cls:=.type "tuple",dict:=dd,data:=.seq items n,slots:=sl }/\R (.ok (.ret (.ref l))) s):=
 .of_wp λprog w A R s h=>by obtain ⟨hp,g,d,tk,os⟩:=s;obtain ⟨hl,h⟩:=h;wp_walk;exact ⟨_,rfl,h⟩
theorem a4e {k:Int} (h1:1<=k) (h2:k<2 ^ 63):¬ ((decide (k < -(2 ^ 63))||decide (k≥2 ^ 63))=true):=by
 simp only [Bool.or_eq_true,decide_eq_true_eq]
 omega
theorem tuple_mul2 (l:Addr) (items:Array Value) (n:Nat) (dd:Option Addr) (sl:Array (Option Value)) (k:Int) (u:Tok) (h0:¬ (items.isEmpty||k==1)=true) (h1:2<=k) (h2:k<2 ^ 63) (hsz:items.size * k.toNat<=sizeLine) :
  Meets (Builtin.«tuple.__mul__» ⟨[.ref l,.int k u],[]⟩) (λ_ R s=>s.heap.get? l=some { cls:=.type "tuple",dict:=dd,data:=.seq items n,slots:=sl }/\R (.ok (.ret (.ref s.heap.objs.size))) { s with heap:=s.heap.push { cls:=.type "tuple",data:=.seq ((List.replicate k.toNat items).foldl (·++·) #[]) } }):=
 .of_wp λprog w A R s h=>by
  obtain ⟨hp,g,d,tk,os⟩:=s;obtain ⟨hl,h⟩:=h
  have c1:=a4e (k:=k) (by omega) h2
  have hsl:(sizeLine:Nat)=2 ^ 24:=sizeLine_eq
  have ek:((k.toNat:Nat):Int)=k:=Int.toNat_of_nonneg (by omega)
  have em:(items.size:Int) * k=((items.size * k.toNat:Nat):Int):=by rw [Int.natCast_mul,ek]
  have c2:¬ (decide (k<=0)||items.isEmpty)=true:=by
   simp only [Bool.or_eq_true,decide_eq_true_eq] at h0 ⊢
   intro z
   rcases z with z | z
   ·omega
   ·exact h0 (.inl z)
  have c3:¬ ((items.size:Int) * k > (2 ^ 63-1) / 8):=by rw [em];omega
  have c4:¬ Builtin.Tuple.tupleTooMany ((items.size:Int) * k)=true:=by
   rw [em]
   simp only [Builtin.Tuple.tupleTooMany,decide_eq_true_eq]
   omega
  have hz:((List.replicate k.toNat items).foldl (·++·) #[]).size<=sizeLine:=by
   rw [AutoListH.size_joined,Nat.mul_comm];simpa using hsz
  wp_walk
  rw [if_neg c1]
  have ht:IsTup hp l items:=⟨_,hl,rfl,n,rfl⟩
  show wpAny _ _ (Builtin.Tuple.tupleItemsOf (.ref l) >>= _) _ _ _
  refine wpAny_bind (tupleItemsOf_ ht ?_)
  show wpAny _ _ (if (items.isEmpty||k==1)=true then _ else _) _ _ _
  rw [if_neg h0]
  show wpAny _ _ (if (decide (k<=0)||items.isEmpty)=true then _ else _) _ _ _
  rw [if_neg c2]
  show wpAny _ _ (if (items.size:Int) * k > (2 ^ 63-1) / 8 then _ else _) _ _ _
  rw [if_neg c3]
  show wpAny _ _ (if Builtin.Tuple.tupleTooMany ((items.size:Int) * k)=true then _ else _) _ _ _
  rw [if_neg c4]
  refine wpAny_bind (m:=Builtin.Tuple.tupleExact _) (wpAny_newObj_type ?_ hz)
  exact wpAny_pure ⟨_,rfl,h⟩
end HT
namespace L2
open PySem PySem.Spec PyProof.Rows
section
variable {X:Cx}
theorem b3s:OpR X (binaryOp .Mult) (λx y H Q=>∃ a k xs,x=.ref a/\y=.int k/\SqT X.K H a xs/\xs≠[]/\1<=k/\k<2 ^ 63/\xs.length * k.toNat<=sizeLine/\(k=1->Q (.ref a) H)/\(k≠1->∀ p,H p=none->Q (.ref p) (upd H p (.tup (List.replicate k.toNat xs).flatten)))):=by
 intro pins s σ H x y v u Q I rx ry h
 obtain ⟨a,k,xs,rfl,rfl,ha,hx,k1,k2,hz,q1,q2⟩:=h
 cases rx
 obtain ⟨t,rfl⟩:=ry
 obtain ⟨its,r1,p1,_⟩:=I.tuple ha
 obtain ⟨⟨cls,dd,data,sl⟩,ho,hc,n,hd⟩:=id p1
 simp only at hc hd
 subst hc hd
 have hl:=r1.length
 by_cases he:k=1
 ·subst he
  exact wpAny_binaryOp_repeat_ref (T:="tuple") (U:="int") (by decide) ⟨_,ho,rfl⟩ (λs'=>typeIs_int s' 1 t) HT.noFill_tuple_mul F.fills_int_mul F.slot_int_rmul HT.repeat_tuple F.slot_int_index.lookup
   (call_meets F.slot_int_rmul (typeIs_int s 1 t) F.entry_int_rmul (F.args_int_rmul_2 _ _) (HT.int_rmul_tuple 1 t a its.toArray n dd sl)
    ⟨ho,rfl,⟨_,ho,rfl⟩,call_meets F.slot_tuple_mul ⟨_,ho,rfl⟩ F.entry_tuple_mul (F.args_tuple_mul_2 _ _) (HT.tuple_mul1 a its.toArray n dd sl t) ⟨ho,.ref a,H,I,rfl,q1 rfl⟩⟩)
 ·have hne:its≠[]:=λz=>hx (r1.nil_iff.mp z)
  have h0:¬ (its.toArray.isEmpty||k==1)=true:=by
   simp only [Bool.or_eq_true,beq_iff_eq]
   rintro (z | z)
   ·exact hne (by simpa using z)
   ·exact he z
  refine wpAny_binaryOp_repeat_ref (T:="tuple") (U:="int") (by decide) ⟨_,ho,rfl⟩ (λs'=>typeIs_int s' k t) HT.noFill_tuple_mul F.fills_int_mul F.slot_int_rmul HT.repeat_tuple F.slot_int_index.lookup
   (call_meets F.slot_int_rmul (typeIs_int s k t) F.entry_int_rmul (F.args_int_rmul_2 _ _) (HT.int_rmul_tuple k t a its.toArray n dd sl)
    ⟨ho,rfl,⟨_,ho,rfl⟩,call_meets F.slot_tuple_mul ⟨_,ho,rfl⟩ F.entry_tuple_mul (F.args_tuple_mul_2 _ _) (HT.tuple_mul2 a its.toArray n dd sl k t h0 (by omega) k2 (by rw [List.size_toArray,<- hl];exact hz)) ⟨ho,?_⟩⟩)
  have f0:List.foldl (λx1 x2=>x1++x2) #[] (List.replicate k.toNat its.toArray)=(List.replicate k.toNat its).flatten.toArray:=by
   have:=P2 its k.toNat []
   rw [List.nil_append] at this
   exact this
  rw [f0]
  refine ⟨.ref s.heap.objs.size,_,I.laid (t':=s.toks) (o:=.tup (List.replicate k.toNat xs).flatten) (λb ob q=>Heap.get?_push_of_some _ q) (Nat.le_refl _) ?_,rfl,q2 he _ (I.hok.fresh (Nat.le_refl _))⟩
  exact ⟨by rw [a6y,Nat.mul_comm];exact hz,_,r1.rep k.toNat,TupN.new _ _⟩
end
end L2
namespace L3
open PySem PySem.Spec PyProof.Rows L2
noncomputable def lstOf (d:D):M (List D):=match d with
 | .lst ds=>ret ds
 | .ref n=>λS=>match S[n]? with
  | some (.lst ds)=>.ok ds S
  | _=>.bad
 | _=>bad
noncomputable def u3 (d:D):M (List D):=match d with
 | .tup ds=>ret ds
 | .scr ds=>ret ds
 | d=>lstOf d
section
variable {K:PySem.W.Frag} {cl:Nat->Addr} {xe:Addr->Hp->Prop} {μ:Mp} {H:Hp} {S:Sto} {α:Type}
theorem j9 {d:D} {v:V} {G:List D->Sto->Mp->Hp->Prop} (rd:RD K μ H d v) (rp:Rep K cl μ S H) (p:Post K cl xe μ H (lstOf d S) G):∃ a xs ds,v=.ref a/\H a=some (.lst xs)/\RDs K μ H ds xs/\lstOf d S=.ok ds S:=by
 cases rd with
 | lst h r=>exact ⟨_,_,_,rfl,h.1,r,rfl⟩
 | ref e=>
  rename_i n a
  simp only [lstOf] at p
  cases q:S[n]? with
  | none=>rw [q] at p;exact p.elim
  | some o=>
   cases o with
   | lst ds=>
    obtain ⟨xs,h1,h2⟩:=rp.ats n _ a q e
    exact ⟨a,xs,ds,rfl,h1,h2,by simp only [lstOf,q]⟩
   | dct _=>rw [q] at p;exact p.elim
   | exc _ _=>rw [q] at p;exact p.elim
 | _=>exact p.elim
theorem E5 {d:D} {v:V} {G:List D->Sto->Mp->Hp->Prop} (rd:RD K μ H d v) (rp:Rep K cl μ S H) (p:Post K cl xe μ H (u3 d S) G):∃ a xs ds,v=.ref a/\(SqL K H a xs\/SqT K H a xs)/\RDs K μ H ds xs/\u3 d S=.ok ds S:=by
 cases rd with
 | tup h r=>exact ⟨_,_,_,rfl,.inr h.sq,r,rfl⟩
 | scr h r=>exact ⟨_,_,_,rfl,.inl h.sq,r,rfl⟩
 | lst h r=>exact ⟨_,_,_,rfl,.inl h.sq,r,rfl⟩
 | ref e=>
  obtain ⟨a,xs,ds,h1,h2,h3,h4⟩:=j9 (.ref e) rp p
  exact ⟨a,xs,ds,h1,.inl (.inl (.inl h2)),h3,h4⟩
 | _=>exact p.elim
theorem Post.ok_bind {β:Type} {m:M α} {k:α->M β} {a:α} {G:β->Sto->Mp->Hp->Prop} (e:m S=.ok a S) (p:Post K cl xe μ H (L3.bind m k S) G):Post K cl xe μ H (k a S) G:=by
 unfold L3.bind at p;rw [e] at p;exact p
theorem I0 {ds:List D} {xs:List V} {p:Addr} (rp:Rep K cl μ S H) (r:RDs K μ H ds xs) (hp:H p=none):Lat μ H μ (upd H p (.tup xs))/\Rep K cl μ S (upd H p (.tup xs))/\RD K μ (upd H p (.tup xs)) (.tup ds) (.ref p):=
 ⟨Lat.laid hp,rp.laid hp,.tup (.inl ⟨.inl b9,rp.notin hp,rp.notrs hp⟩) (r.later (Lat.laid hp))⟩
theorem w5 {ds:List D} {xs:List V} {p:Addr} (rp:Rep K cl μ S H) (r:RDs K μ H ds xs) (hp:H p=none):Lat μ H μ (upd H p (.lst xs))/\Rep K cl μ S (upd H p (.lst xs))/\RD K μ (upd H p (.lst xs)) (.lst ds) (.ref p):=
 ⟨Lat.laid hp,rp.laid hp,.lst ⟨b9,rp.notin hp,rp.notrs hp⟩ (r.later (Lat.laid hp))⟩
theorem a0k {ds:List D} {xs:List V} {p:Addr} (rp:Rep K cl μ S H) (r:RDs K μ H ds xs) (hp:H p=none):Lat μ H (μ.push p) (upd H p (.lst xs))/\Rep K cl (μ.push p) (S++[.lst ds]) (upd H p (.lst xs))/\RD K (μ.push p) (upd H p (.lst xs)) (.ref S.length) (.ref p):=by
 have k:∀ a u,H a=some u->upd H p (.lst xs) a=some u:=λa u e=>by rw [a4 (b7 e hp)];exact e
 have l:=Lat.pushed (μ:=μ) hp k
 refine ⟨l,rp.pushed hp k ⟨xs,b9,r.later l⟩,.ref ?_⟩
 show (μ.pl++[p])[S.length]?=some p
 rw [<- rp.len];simp
theorem Post.guard {c:Prop} [Decidable c] {a:α} {G:α->Sto->Mp->Hp->Prop} (p:Post K cl xe μ H ((if c then L3.ret a else L3.bad) S) G):c/\∀ μ' H',Lat μ H μ' H'->Rep K cl μ' S H'->G a S μ' H':=by
 by_cases hc:c
 ·rw [if_pos hc] at p;exact ⟨hc,p⟩
 ·rw [if_neg hc] at p;exact p.elim
end
noncomputable def f9 {α β:Type} (f:α->Option β):List α->Option (List β)
 | []=>some []
 | x :: xs=>match f x,f9 f xs with
  | some y,some ys=>some (y :: ys)
  | _,_=>none
noncomputable def d9:Nat->Sto->D->Option PyData
 | 0,_,_=>none
 | n+1,S,d=>match d with
  | .non=>some .none
  | .bl b=>some (.bool b)
  | .int i=>some (.int i)
  | .str x=>some (.str x)
  | .tup ds=>(f9 (d9 n S) ds).map .tuple
  | .lst ds=>(f9 (d9 n S) ds).map .list
  | .scr ds=>(f9 (d9 n S) ds).map .list
  | .ref k=>match S[k]? with
   | some (.lst ds)=>(f9 (d9 n S) ds).map .list
   | _=>none
theorem a2q {K:PySem.W.Frag} {μ:Mp} {H:Hp} {S:Sto} {n:Nat} (ih:∀ {d:D} {v:V} {q:PyData},d9 n S d=some q->RD K μ H d v->DAt K H v q):∀ {ds:List D} {vs:List V} {qs:List PyData},f9 (d9 n S) ds=some qs->RDs K μ H ds vs->DAll K H vs qs
 | [],_,qs,e,r=>by cases r;cases e;exact .nil
 | d :: ds,_,qs,e,r=>by
  cases r with
  | cons h t=>
   simp only [f9] at e
   cases e1:d9 n S d with
   | none=>rw [e1] at e;cases e
   | some q=>
    cases e2:f9 (d9 n S) ds with
    | none=>rw [e1,e2] at e;cases e
    | some qs'=>
     rw [e1,e2] at e;cases e
     exact .cons (ih e1 h) (a2q ih e2 t)
theorem A7 {K:PySem.W.Frag} {cl:Nat->Addr} {μ:Mp} {H:Hp} {S:Sto} (rp:Rep K cl μ S H):∀ (n:Nat) {d:D} {v:V} {q:PyData},d9 n S d=some q->RD K μ H d v->DAt K H v q
 | 0,_,_,_,e,_=>by cases e
 | n+1,d,v,q,e,r=>by
  have all:∀ {ds:List D} {vs:List V} {qs:List PyData},f9 (d9 n S) ds=some qs->RDs K μ H ds vs->DAll K H vs qs:=λe r=>a2q (λe r=>A7 rp n e r) e r
  have um:∀ {ds:List D} {C:List PyData->PyData},(f9 (d9 n S) ds).map C=some q->∃ qs,f9 (d9 n S) ds=some qs/\q=C qs:=λ{ds C} e=>by
   cases e1:f9 (d9 n S) ds with
   | none=>rw [e1] at e;cases e
   | some qs=>rw [e1] at e;cases e;exact ⟨qs,rfl,rfl⟩
  cases r with
  | non=>cases e;exact .non
  | bl b=>cases e;exact .bl b
  | int i=>cases e;exact .int i
  | str x=>cases e;exact .str x
  | tup h t=>obtain ⟨qs,e1,rfl⟩:=um e;exact .tup h.sq (all e1 t)
  | lst h t=>obtain ⟨qs,e1,rfl⟩:=um e;exact .lst h.sq (all e1 t)
  | scr h t=>obtain ⟨qs,e1,rfl⟩:=um e;exact .lst h.sq (all e1 t)
  | ref h=>
   rename_i k a
   simp only [d9] at e
   cases q1:S[k]? with
   | none=>rw [q1] at e;cases e
   | some o=>
    rw [q1] at e
    cases o with
    | lst ds=>
     obtain ⟨qs,e1,rfl⟩:=um e
     obtain ⟨xs,h1,h2⟩:=rp.ats k _ a q1 h
     exact .lst (.inl (.inl h1)) (all e1 h2)
    | dct _=>cases e
    | exc _ _=>cases e
noncomputable def C8 (x y:D):M D:=match x,y with
 | .int i,.int j=>ret (.int (i+j))
 | .str a,.str b=>if a.length+b.length<=sizeLine then ret (.str (a++b)) else bad
 | .tup xs,.tup ys=>if xs.length+ys.length<=sizeLine then ret (.tup (xs++ys)) else bad
 | x,y=>bind (lstOf x) λxs=>bind (lstOf y) λys=>if xs.length+ys.length<=sizeLine then ret (.lst (xs++ys)) else bad
noncomputable def M5 (x y:D):M D:=match x,y with
 | .int i,.int j=>ret (.int (i-j))
 | _,_=>bad
instance (i j:Int):Decidable (CMul i j):=by unfold CMul;infer_instance
instance (i j:Int):Decidable (b11 i j):=by unfold b11;infer_instance
instance (i j:Int):Decidable (b39 i j):=by unfold b39;infer_instance
noncomputable def U3 (x y:D):M D:=match x,y with
 | .int i,.int j=>if 0<j then ret (.int (i % j)) else bad
 | _,_=>bad
noncomputable def Q3 (x y:D):M D:=match x,y with
 | .int i,.int j=>if b11 i j then ret (.int (i / j)) else bad
 | _,_=>bad
noncomputable def b48 (x y:D):M D:=match x,y with
 | .int i,.int j=>if b39 i j then ret (.int (i ^ j.toNat)) else bad
 | _,_=>bad
noncomputable def R4 (x y:D):M D:=match x,y with
 | .int i,.int j=>if CMul i j then ret (.int (i * j)) else bad
 | .tup ds,.int k=>if (ds≠[]/\1<=k/\k<2 ^ 63)/\ds.length * k.toNat<=sizeLine then ret (.tup (List.replicate k.toNat ds).flatten) else bad
 | x,.int k=>bind (lstOf x) λxs=>if (-(2 ^ 63)<=k/\k<2 ^ 63)/\xs.length * k.toNat<=sizeLine then ret (.lst (List.replicate k.toNat xs).flatten) else bad
 | _,_=>bad
section
variable {X:Cx} {cl:Nat->Addr} {xe:Addr->Hp->Prop}
theorem a9u:OpR X (binaryOp .Add) (λx y H Q=>∃ a b ys,x=.ref a/\y=.ref b/\SqT X.K H a []/\SqT X.K H b ys/\Q (.ref b) H):=by
 intro pins s σ H x y v u Q I rx ry h
 obtain ⟨a,b,ys,rfl,rfl,ha,hb,q⟩:=h
 cases rx
 cases ry
 obtain ⟨its,r1,p1,_⟩:=I.tuple ha
 obtain ⟨its2,r2,p2,_⟩:=I.tuple hb
 cases r1
 obtain ⟨⟨cls,dd,data,sl⟩,ho,hc,n,hd⟩:=id p1
 obtain ⟨⟨cls2,dd2,data2,sl2⟩,ho2,hc2,n2,hd2⟩:=id p2
 simp only at hc hd hc2 hd2
 subst hc hd hc2 hd2
 exact concat_meets ⟨_,ho,rfl⟩ ⟨_,ho2,rfl⟩ noFill_tuple_add seq_tuple_add PySem.F.slot_tuple_add PySem.F.entry_tuple_add (PySem.F.args_tuple_add_2 _ _)
   (tuple_addW0 a b #[] its2.toArray n n2 dd dd2 sl sl2 rfl) ⟨ho,ho2,⟨.ref b,H,I,rfl,q⟩⟩
theorem b0i:OpR X (binaryOp .Add) (rP2 X.K cl xe C8):=by
 intro pins s σ H x y v u Q I rx ry ⟨μ,S,d,e,rd,re,rp,p⟩
 have L:Post X.K cl xe μ H (bind (lstOf d) (λxs=>bind (lstOf e) λys=>if xs.length+ys.length<=sizeLine then ret (.lst (xs++ys)) else bad) S) (λr _ μ' H'=>∀ v,RD X.K μ' H' r v->Q v H')->wpAny (model X.prog X.w) X.A (binaryOp .Add v u) (EP X pins σ Q) X.xe s:=λp=>by
  obtain ⟨a,xs,ds,rfl,h1,r1,e1⟩:=j9 rd rp p.bind
  have p:=p.ok_bind e1
  obtain ⟨b,ys,es,rfl,h2,r2,e2⟩:=j9 re rp p.bind
  obtain ⟨hl,p⟩:=(p.ok_bind e2).guard
  refine b8q pins s σ H _ _ v u Q I rx ry ⟨a,b,xs,ys,rfl,rfl,h1,h2,by rw [<- r1.length,<- r2.length];exact hl,λz hz=>?_⟩
  obtain ⟨l,rp2,rd2⟩:=w5 rp (r1.append r2) hz
  exact p μ _ l rp2 _ rd2
 cases d <;> cases e <;> try (exact L p)
 case int.int i j=>cases rd;cases re;exact b7q pins s σ H _ _ v u Q I rx ry ⟨i,j,rfl,rfl,p μ H (Lat.refl _ _) rp _ (.int _)⟩
 case str.str i j=>
  cases rd;cases re
  obtain ⟨hl,p⟩:=Post.guard p
  exact a5f pins s σ H _ _ v u Q I rx ry ⟨i,j,rfl,rfl,hl,p μ H (Lat.refl _ _) rp _ (.str _)⟩
 case tup.tup ds es=>
  obtain ⟨hl,p⟩:=Post.guard p
  cases rd with
  | tup h1 r1=>
   cases re with
   | tup h2 r2=>
    rename_i a xs b ys
    cases ds with
    | nil=>
     cases r1
     exact a9u pins s σ H _ _ v u Q I rx ry ⟨a,b,ys,rfl,rfl,h1.sq,h2.sq,p μ H (Lat.refl _ _) rp _ (.tup h2 r2)⟩
    | cons d ds=>
     cases r1 with
     | cons q1 q2=>
      rename_i v1 vs1
      refine b4j pins s σ H _ _ v u Q I rx ry ⟨a,b,_,ys,rfl,rfl,h1.sq,h2.sq,by simp,by rw [<- r2.length];simpa [q2.length] using hl,λz=>?_,λz w hw=>?_⟩
      ·subst z
       cases r2
       rw [List.append_nil] at p
       exact p μ H (Lat.refl _ _) rp _ (.tup h1 (.cons q1 q2))
      ·obtain ⟨l,rp2,rd2⟩:=I0 rp ((RDs.cons q1 q2).append r2) hw
       exact p μ _ l rp2 _ rd2
theorem a9y:OpR X (binaryOp .Sub) (rP2 X.K cl xe M5):=by
 intro pins s σ H x y v u Q I rx ry ⟨μ,S,d,e,rd,re,rp,p⟩
 cases d <;> cases e <;> try (exact False.elim p)
 case int.int i j=>cases rd;cases re;exact b9p pins s σ H _ _ v u Q I rx ry ⟨i,j,rfl,rfl,p μ H (Lat.refl _ _) rp _ (.int _)⟩
theorem c1o:OpR X (binaryOp .Mod) (rP2 X.K cl xe U3):=by
 intro pins s σ H x y v u Q I rx ry ⟨μ,S,d,e,rd,re,rp,p⟩
 cases d <;> cases e <;> try (exact False.elim p)
 case int.int i j=>
  cases rd;cases re
  obtain ⟨hl,p⟩:=Post.guard p
  exact b7l pins s σ H _ _ v u Q I rx ry ⟨i,j,rfl,rfl,hl,p μ H (Lat.refl _ _) rp _ (.int _)⟩
theorem b7n:OpR X (binaryOp .FloorDiv) (rP2 X.K cl xe Q3):=by
 intro pins s σ H x y v u Q I rx ry ⟨μ,S,d,e,rd,re,rp,p⟩
 cases d <;> cases e <;> try (exact False.elim p)
 case int.int i j=>
  cases rd;cases re
  obtain ⟨hl,p⟩:=Post.guard p
  exact b5n pins s σ H _ _ v u Q I rx ry ⟨i,j,rfl,rfl,hl,p μ H (Lat.refl _ _) rp _ (.int _)⟩
theorem c03:OpR X (binaryOp .Pow) (rP2 X.K cl xe b48):=by
 intro pins s σ H x y v u Q I rx ry ⟨μ,S,d,e,rd,re,rp,p⟩
 cases d <;> cases e <;> try (exact False.elim p)
 case int.int i j=>
  cases rd;cases re
  obtain ⟨hl,p⟩:=Post.guard p
  exact b7t pins s σ H _ _ v u Q I rx ry ⟨i,j,rfl,rfl,hl,p μ H (Lat.refl _ _) rp _ (.int _)⟩
theorem c2j:OpR X (binaryOp .Mult) (rP2 X.K cl xe R4):=by
 intro pins s σ H x y v u Q I rx ry ⟨μ,S,d,e,rd,re,rp,p⟩
 have L:∀ k:Int,e=.int k->Post X.K cl xe μ H (bind (lstOf d) (λxs=>if (-(2 ^ 63)<=k/\k<2 ^ 63)/\xs.length * k.toNat<=sizeLine then ret (.lst (List.replicate k.toNat xs).flatten) else bad) S) (λr _ μ' H'=>∀ v,RD X.K μ' H' r v->Q v H')->wpAny (model X.prog X.w) X.A (binaryOp .Mult v u) (EP X pins σ Q) X.xe s:=λk he q=>by
  clear p
  subst he
  cases re
  obtain ⟨a,xs,ds,rfl,h1,r1,e1⟩:=j9 rd rp q.bind
  obtain ⟨⟨⟨k1,k2⟩,hl⟩,p⟩:=(q.ok_bind e1).guard
  refine b8e pins s σ H _ _ v u Q I rx ry ⟨a,k,xs,rfl,rfl,h1,k1,k2,by rw [<- r1.length];exact hl,λz hz=>?_⟩
  obtain ⟨l,rp2,rd2⟩:=w5 rp (r1.rep k.toNat) hz
  exact p μ _ l rp2 _ rd2
 cases d <;> cases e <;> try (exact False.elim p)
 case int.int i j=>
  cases rd;cases re
  obtain ⟨hl,p⟩:=Post.guard p
  exact b61 pins s σ H _ _ v u Q I rx ry ⟨i,j,rfl,rfl,hl,p μ H (Lat.refl _ _) rp _ (.int _)⟩
 case tup.int ds k=>
  cases re
  obtain ⟨⟨⟨k0,k1,k2⟩,hl⟩,p⟩:=Post.guard p
  cases rd with
  | tup h1 r1=>
   rename_i a xs
   have hx:xs≠[]:=λz=>by subst z;cases r1;exact k0 rfl
   refine b3s pins s σ H _ _ v u Q I rx ry ⟨a,k,xs,rfl,rfl,h1.sq,hx,k1,k2,by rw [<- r1.length];exact hl,λz=>?_,λz w hw=>?_⟩
   ·subst z
    have e:(List.replicate (1:Int).toNat ds).flatten=ds:=by simp
    rw [e] at p
    exact p μ H (Lat.refl _ _) rp _ (.tup h1 r1)
   ·obtain ⟨l,rp2,rd2⟩:=I0 rp (r1.rep k.toNat) hw
    exact p μ _ l rp2 _ rd2
 all_goals exact L _ rfl p
end
noncomputable def eqP (neg:Bool) (x y:D):M D:=λS=>match d9 64 S x,d9 64 S y with
 | some p,some q=>(if p.canLay0=true/\q.canLay0=true/\min p.depth q.depth<=60 then ret (.bl (if neg then !PyData.eqv p q else PyData.eqv p q)) else bad) S
 | _,_=>.bad
noncomputable def eqD (neg:Bool) (x y:D):M D:=match x,y with
 | .str a,.str b=>ret (.bl (if neg then !decide (a=b) else decide (a=b)))
 | .int a,.int b=>ret (.bl (if neg then !decide (a=b) else decide (a=b)))
 | x,y=>eqP neg x y
noncomputable def a9n (f:Int->Int->Bool) (x y:D):M D:=match x,y with
 | .int i,.int j=>ret (.bl (f i j))
 | _,_=>bad
noncomputable def a77 (neg:Bool) (d:PyData) (ps:List PyData):M D:=if d.canLay0=true/\PyData.canLayAll0 ps=true/\min (PyData.depthAll ps) d.depth<=60 then ret (.bl (if neg then !(ps.any λy=>PyData.eqv y d) else ps.any λy=>PyData.eqv y d)) else bad
noncomputable def inD (neg:Bool) (x y:D):M D:=λS=>match d9 64 S x,d9 64 S y with
 | some d,some (.list ps)=>a77 neg d ps S
 | some d,some (.tuple ps)=>a77 neg d ps S
 | _,_=>.bad
noncomputable def isD (neg:Bool) (x y:D):M D:=match y with
 | .non=>ret (.bl (match x with
  | .non=>!neg
  | _=>neg))
 | .bl b=>ret (.bl (match x with
  | .bl c=>if neg then !(c==b) else c==b
  | _=>neg))
 | _=>bad
section
variable {X:Cx} {cl:Nat->Addr} {xe:Addr->Hp->Prop}
theorem c3z (hu:X.A.units+64<cLine):OpR X (compareOp .Eq) (rP2 X.K cl xe (eqD false)):=by
 intro pins s σ H x y v u Q I rx ry ⟨μ,S,d,e,rd,re,rp,p⟩
 have gen:Post X.K cl xe μ H (eqP false d e S) (λr _ μ' H'=>∀ v,RD X.K μ' H' r v->Q v H')->wpAny (model X.prog X.w) X.A (compareOp .Eq v u) (EP X pins σ Q) X.xe s:=λp=>by
  simp only [eqP] at p
  cases e1:d9 64 S d with
  | none=>rw [e1] at p;exact p.elim
  | some a=>
   cases e2:d9 64 S e with
   | none=>rw [e1,e2] at p;exact p.elim
   | some b=>
    rw [e1,e2] at p
    obtain ⟨⟨c1,c2,c3⟩,p⟩:=Post.guard p
    exact b7m hu pins s σ H _ _ v u Q I rx ry ⟨a,b,A7 rp 64 e1 rd,A7 rp 64 e2 re,c1,c2,c3,p μ H (Lat.refl _ _) rp _ (.bl _)⟩
 cases d <;> cases e <;> try (exact gen p)
 case str.str a b=>
  cases rd;cases re
  exact c1i pins s σ H _ _ v u Q I rx ry ⟨rfl,by rw [show decide (V.str a=V.str b)=decide (a=b) by rw [Bool.eq_iff_iff];simp];exact p μ H (Lat.refl _ _) rp _ (.bl _)⟩
theorem c3g (hu:X.A.units+64<cLine):OpR X (compareOp .NotEq) (rP2 X.K cl xe (eqD true)):=by
 intro pins s σ H x y v u Q I rx ry ⟨μ,S,d,e,rd,re,rp,p⟩
 have gen:Post X.K cl xe μ H (eqP true d e S) (λr _ μ' H'=>∀ v,RD X.K μ' H' r v->Q v H')->wpAny (model X.prog X.w) X.A (compareOp .NotEq v u) (EP X pins σ Q) X.xe s:=λp=>by
  simp only [eqP] at p
  cases e1:d9 64 S d with
  | none=>rw [e1] at p;exact p.elim
  | some a=>
   cases e2:d9 64 S e with
   | none=>rw [e1,e2] at p;exact p.elim
   | some b=>
    rw [e1,e2] at p
    obtain ⟨⟨c1,c2,c3⟩,p⟩:=Post.guard p
    exact b94 hu pins s σ H _ _ v u Q I rx ry ⟨a,b,A7 rp 64 e1 rd,A7 rp 64 e2 re,c1,c2,c3,p μ H (Lat.refl _ _) rp _ (.bl _)⟩
 cases d <;> cases e <;> try (exact gen p)
 case str.str a b=>
  cases rd;cases re
  exact c0f pins s σ H _ _ v u Q I rx ry ⟨rfl,by rw [show decide (V.str a=V.str b)=decide (a=b) by rw [Bool.eq_iff_iff];simp];exact p μ H (Lat.refl _ _) rp _ (.bl _)⟩
theorem a5o {op:CmpOp} {f:Int->Int->Bool} (ho:OpR X (compareOp op) (rI0 λi j=>.bl (f i j))):OpR X (compareOp op) (rP2 X.K cl xe (a9n f)):=by
 intro pins s σ H x y v u Q I rx ry ⟨μ,S,d,e,rd,re,rp,p⟩
 cases d <;> cases e <;> try (exact False.elim p)
 case int.int i j=>cases rd;cases re;exact ho pins s σ H _ _ v u Q I rx ry ⟨i,j,rfl,rfl,p μ H (Lat.refl _ _) rp _ (.bl _)⟩
theorem Z1 {neg:Bool} (hu:X.A.units+80<cLine) {pins:List (Addr×Obj)} {s:Shared} {σ:L2.St} {H:Hp} {x y:V} {v u:Value} {Q:VK} {d:PyData} {ps:List PyData} (I:Inv X pins σ H s) (rx:RelV x v) (ry:RelV y u)
  (hd:DAt X.K H x d) (hy:DAt X.K H y (.list ps)\/DAt X.K H y (.tuple ps)) (c:d.canLay0=true/\PyData.canLayAll0 ps=true/\min (PyData.depthAll ps) d.depth<=60)
  (q:Q (.bl (if neg then !(ps.any λy=>PyData.eqv y d) else ps.any λy=>PyData.eqv y d)) H):wpAny (model X.prog X.w) X.A (compareOp (if neg then .NotIn else .In) v u) (EP X pins σ Q) X.xe s:=by
 obtain ⟨c1,c2,c3⟩:=c
 obtain ⟨as,r1⟩:=hd.reads I rx
 have hu':X.A.units+1+min (PyData.depthAll ps) d.depth<cLine:=by omega
 rcases hy with hy | hy
 ·obtain ⟨bs,r2⟩:=hy.reads I ry
  cases neg with
  | false=>exact SeqAt.in_list_reads r2 r1 c2 c1 hu' ⟨.bl _,H,I,rfl,q⟩
  | true=>exact SeqAt.notIn_list_reads r2 r1 c2 c1 hu' ⟨.bl _,H,I,rfl,q⟩
 ·obtain ⟨bs,r2⟩:=hy.reads I ry
  cases neg with
  | false=>exact SeqAt.in_tuple_reads r2 r1 c2 c1 hu' ⟨.bl _,H,I,rfl,q⟩
  | true=>exact SeqAt.notIn_tuple_reads r2 r1 c2 c1 hu' ⟨.bl _,H,I,rfl,q⟩
theorem c19 (neg:Bool) (hu:X.A.units+80<cLine):OpR X (compareOp (if neg then .NotIn else .In)) (rP2 X.K cl xe (inD neg)):=by
 intro pins s σ H x y v u Q I rx ry ⟨μ,S,d,e,rd,re,rp,p⟩
 simp only [inD] at p
 cases e1:d9 64 S d with
 | none=>rw [e1] at p;exact p.elim
 | some a=>
  cases e2:d9 64 S e with
  | none=>rw [e1,e2] at p;exact p.elim
  | some b=>
   rw [e1,e2] at p
   have ha:=A7 rp 64 e1 rd
   have hb:=A7 rp 64 e2 re
   cases b with
   | list ps=>obtain ⟨c,p⟩:=Post.guard p;exact Z1 hu I rx ry ha (.inl hb) c (p μ H (Lat.refl _ _) rp _ (.bl _))
   | tuple ps=>obtain ⟨c,p⟩:=Post.guard p;exact Z1 hu I rx ry ha (.inr hb) c (p μ H (Lat.refl _ _) rp _ (.bl _))
   | _=>exact p.elim
theorem c21 (neg:Bool):OpR X (compareOp (if neg then .IsNot else .Is)) (rP2 X.K cl xe (isD neg)):=by
 intro pins s σ H x y v u Q I rx ry ⟨μ,S,d,e,rd,re,rp,p⟩
 have fin:∀ b:Bool,(∀ μ' H',Lat μ H μ' H'->Rep X.K cl μ' S H'->∀ v,RD X.K μ' H' (.bl b) v->Q v H')->∀ c,c=b->EP X pins σ Q (.bool c) s:=λb p c e=>⟨.bl b,H,I,by rw [e];rfl,p μ H (Lat.refl _ _) rp _ (.bl _)⟩
 cases re <;> try (exact False.elim p)
 case non=>
  cases ry
  cases neg with
  | false=>
   refine is_none_gen (fin _ p _ ?_)
   cases rd <;> first
    | (cases rx;rfl)
    | (obtain ⟨t,rfl⟩:=rx;rfl)
  | true=>
   refine isnot_none_gen (fin _ p _ ?_)
   cases rd <;> first
    | (cases rx;rfl)
    | (obtain ⟨t,rfl⟩:=rx;rfl)
 case bl b=>
  cases ry
  cases neg with
  | false=>
   refine wpAny_is_plain ?_ (fin _ p _ ?_)
   ·cases rd <;> first
    | (cases rx;rfl)
    | (obtain ⟨t,rfl⟩:=rx;rfl)
   ·cases rd <;> first
    | (cases rx;rfl)
    | (obtain ⟨t,rfl⟩:=rx;rfl)
    | (cases rx;(rename_i c;cases c <;> cases b <;> rfl))
  | true=>
   refine wpAny_isNot_plain ?_ (fin _ p _ ?_)
   ·cases rd <;> first
    | (cases rx;rfl)
    | (obtain ⟨t,rfl⟩:=rx;rfl)
   ·cases rd <;> first
    | (cases rx;rfl)
    | (obtain ⟨t,rfl⟩:=rx;rfl)
    | (cases rx;(rename_i c;cases c <;> cases b <;> rfl))
end
noncomputable def a0e:D->Option Key
 | .int i=>some (.inl i)
 | .str x=>some (.inr x)
 | _=>none
noncomputable def b3p {κ:Type} [DecidableEq κ] (kvs:List (κ×D)) (k:κ):Option D:=(kvs.find? λkv=>decide (kv.1=k)).map (·.2)
noncomputable def b92 {κ:Type} [DecidableEq κ] (kvs:List (κ×D)) (k:κ) (v:D):List (κ×D):=if kvs.any (λkv=>decide (kv.1=k)) then kvs.map (λkv=>if kv.1=k then (kv.1,v) else kv) else kvs++[(k,v)]
noncomputable def V9 {α:Type}:Option α->M α
 | some a=>ret a
 | none=>bad
noncomputable def ixD (x y:D):M D:=match x with
 | .ref n=>λS=>match S[n]? with
  | some (.lst ds)=>(match y with
   | .int i=>V9 (atI ds i)
   | _=>bad) S
  | some (.dct kvs)=>V9 ((a0e y).bind (b3p kvs)) S
  | _=>.bad
 | x=>match y with
  | .int i=>bind (u3 x) λds=>V9 (atI ds i)
  | _=>bad
theorem b9n {K:PySem.W.Frag} {μ:Mp} {H:Hp} {ds:List D} {xs:List V} {i:Int} {d:D} (r:RDs K μ H ds xs) (e:atI ds i=some d):∃ v,atI xs i=some v/\RD K μ H d v:=by
 unfold atI at e ⊢
 rw [<- r.length]
 cases q:ixN ds.length i with
 | none=>rw [q] at e;cases e
 | some j=>rw [q] at e;exact r.get e
theorem a5r {K:PySem.W.Frag} {cl:Nat->Addr} {xe:Addr->Hp->Prop} {μ:Mp} {H:Hp} {S:Sto} {α:Type} {o:Option α} {G:α->Sto->Mp->Hp->Prop} (p:Post K cl xe μ H (V9 o S) G):∃ a,o=some a/\∀ μ' H',Lat μ H μ' H'->Rep K cl μ' S H'->G a S μ' H':=by
 cases o with
 | none=>exact p.elim
 | some a=>exact ⟨a,rfl,p⟩
theorem a52 {K:PySem.W.Frag} {μ:Mp} {H:Hp} {k:Key} {d:D}:∀ {kvs:List (Key×D)} {ks:List (Key×V)},KvsAt K μ H kvs ks->b3p kvs k=some d->∃ v,R5 ks k=some v/\RD K μ H d v
 | _,_,.nil,e=>by simp [b3p] at e
 | p :: r,q :: r',.cons ⟨h1,h2⟩ t,e=>by
  unfold b3p at e
  rw [List.find?_cons] at e
  by_cases hk:p.1=k
  ·simp only [hk,decide_true] at e
   cases e
   exact ⟨q.2,N6 (h1▸hk),h2⟩
  ·simp only [hk,decide_false] at e
   obtain ⟨v,e1,e2⟩:=a52 (k:=k) (d:=d) t e
   exact ⟨v,by rw [N7 (h1▸hk)];exact e1,e2⟩
theorem a2c {K:PySem.W.Frag} {μ:Mp} {H:Hp} {y:D} {v:V} {k:Key} (r:RD K μ H y v) (e:a0e y=some k):v=kV k:=by
 cases r <;> simp only [a0e] at e <;> first | (cases e;rfl) | cases e
section
variable {X:Cx} {cl:Nat->Addr} {xe:Addr->Hp->Prop}
theorem b4b (hu:X.A.units+1<cLine):IxR X (λx y H Q=>∃ a v,x=.ref a/\DGet H a y (some v)/\Q v H):=by
 intro value slice pins s σ H x y v u Q I rx ry h hs
 obtain ⟨a,w,rfl,g,q⟩:=h
 cases rx
 have hT:=a20 I g
 have h₂:wpAny (model X.prog X.w) X.A (getItem (.ref a) u) (EP X pins σ Q) X.xe s:=a75 hu I g ry λw' s3 I3 rw'=>⟨w,H,I3,rw',q⟩
 unfold subscriptTail
 refine wpAny_bind ?_
 rw [getitemInPython_of_ne hT.not_modules]
 refine wpAny_bind (wpAny_specialOf hT PySem.F.slot_dict_getitem.lookup ?_)
 have fin:wpAny (model X.prog X.w) X.A (subscripted slice false (.ref a) u) (λr s₃=>wpAny (model X.prog X.w) X.A (letTemporaryGo value (.ref a) r >>= λ_=>pure r) (EP X pins σ Q) X.xe s₃) X.xe s:=by
  rw [hs]
  exact wpAny_operating (wpAny_mono h₂ (λr s₃ h₃=>wpAny_bind (wpAny_letTemporaryGo (wpAny_pure h₃))) λ_ _ x=>x)
 first
  | exact wpAny_pure (wpAny_bind fin)
  | exact wpAny_bind (wpAny_pure (wpAny_bind fin))
  | exact wpAny_bind fin
theorem c4b (hu:X.A.units+1<cLine):IxR X (rP2 X.K cl xe ixD):=by
 intro value slice pins s σ H x y v u Q I rx ry ⟨μ,S,d,e,rd,re,rp,p⟩ hs
 have sq:∀ {a:Addr} {xs:List V} {ds:List D} {i:Int},(SqL X.K H a xs\/SqT X.K H a xs)->RDs X.K μ H ds xs->x=.ref a->e=.int i->Post X.K cl xe μ H (V9 (atI ds i) S) (λr _ μ' H'=>∀ v,RD X.K μ' H' r v->Q v H') ->
   wpAny (model X.prog X.w) X.A (subscriptTail value slice v u) (EP X pins σ Q) X.xe s:=λ{a xs ds i} hq r hx he q=>by
  clear p
  subst hx he
  cases re
  obtain ⟨z,e1,q⟩:=a5r q
  obtain ⟨w,e2,rw'⟩:=b9n r e1
  rcases hq with hq | hq
  ·exact b44 value slice pins s σ H _ _ v u Q I rx ry ⟨a,xs,i,w,rfl,rfl,hq,e2,q μ H (Lat.refl _ _) rp _ rw'⟩ hs
  ·exact b7o value slice pins s σ H _ _ v u Q I rx ry ⟨a,xs,i,w,rfl,rfl,hq,e2,q μ H (Lat.refl _ _) rp _ rw'⟩ hs
 cases rd with
 | tup h r=>
  cases e <;> first | exact False.elim p | exact sq (.inr h.sq) r rfl rfl p
 | lst h r=>
  cases e <;> first | exact False.elim p | exact sq (.inl h.sq) r rfl rfl p
 | scr h r=>
  cases e <;> first | exact False.elim p | exact sq (.inl h.sq) r rfl rfl p
 | ref h=>
  rename_i n a
  simp only [ixD] at p
  cases q1:S[n]? with
  | none=>rw [q1] at p;exact p.elim
  | some o=>
   rw [q1] at p
   cases o with
   | lst ds=>
    obtain ⟨xs,h1,h2⟩:=rp.ats n _ a q1 h
    cases e <;> first | exact False.elim p | exact sq (.inl (.inl (.inl h1))) h2 rfl rfl p
   | dct kvs=>
    obtain ⟨ks,h1,h2⟩:=rp.ats n _ a q1 h
    obtain ⟨z,e1,p⟩:=a5r p
    cases e2:a0e e with
    | none=>rw [e2] at e1;cases e1
    | some k=>
     rw [e2] at e1
     obtain ⟨w,e3,r3⟩:=a52 h2 e1
     have hy:=a2c re e2
     subst hy
     exact b4b hu value slice pins s σ H _ _ v u Q I rx ry ⟨a,w,rfl,by rw [<- e3];exact DGet.k h1,p μ H (Lat.refl _ _) rp _ r3⟩ hs
   | exc _ _=>exact p.elim
 | _=>cases e <;> exact False.elim p
noncomputable def u9 (ds:List D) (lo hi:Option Int):List D:=(ds.drop (HT.sIx ds.length 0 lo)).take (HT.sIx ds.length ds.length hi-HT.sIx ds.length 0 lo)
theorem b09 {K:PySem.W.Frag} {μ:Mp} {H:Hp} {ds:List D} {xs:List V} (r:RDs K μ H ds xs) (lo hi:Option Int):RDs K μ H (u9 ds lo hi) (a3q xs lo hi):=by
 unfold u9 a3q
 rw [<- r.length]
 exact (r.drop _).take _
noncomputable def slD (x:D) (lo hi:Option Int):M D:=match x with
 | .tup ds=>ret (.tup (u9 ds lo hi))
 | x=>bind (match x with
  | .scr ds=>ret ds
  | x=>lstOf x) λds=>ret (.lst (u9 ds lo hi))
end
noncomputable def b5:Expr->Bool
 | .Starred ..=>false
 | _=>true
noncomputable def y9:Expr->Bool
 | .ListComp ..=>false
 | .SetComp ..=>false
 | .DictComp ..=>false
 | _=>true
noncomputable def C2:Expr->Bool
 | .Slice ..=>false
 | _=>true
noncomputable def u0:Expr->Bool
 | .Set ..=>false
 | _=>true
noncomputable def A6:Expr->Bool
 | .Call (.Name _ _) [] [] _=>false
 | _=>true
noncomputable def B5:Expr->Bool
 | .UnaryOp .Not _ _=>false
 | .BoolOp ..=>false
 | .IfExp ..=>false
 | .Compare ..=>false
 | _=>true
theorem d5 {e:Expr} {es:List Expr} {env:PySem.Env} (h:b5 e=true):starEach (e :: es) env=(false,eval e env) :: starEach es env:=by
 cases e <;> first | rfl | (exact absurd h (by simp [b5]))
theorem A2:∀ {es:List Expr} {env:PySem.Env} {pos:Pos},es.all b5=true->(backTo pos (starEach es env)).any (·.1)=false
 | [],_,_,_=>rfl
 | e :: es,env,pos,h=>by
  rw [List.all_cons,Bool.and_eq_true] at h
  rw [d5 h.1]
  show (false||(backTo pos (starEach es env)).any (·.1))=false
  rw [A2 h.2];rfl
theorem W0:∀ {es:List Expr} {env:PySem.Env} {pos:Pos},es.all b5=true->(backTo pos (starEach es env)).all (λx=>!x.1)=true
 | [],_,_,_=>rfl
 | e :: es,env,pos,h=>by
  rw [List.all_cons,Bool.and_eq_true] at h
  rw [d5 h.1]
  show (!false&&(backTo pos (starEach es env)).all (λx=>!x.1))=true
  rw [W0 h.2];rfl
theorem D2 {e:Expr} {t:Option Expr} {n:Nat} {env:PySem.Env} (h:y9 e=true):swapsWith e t n env=pure false:=by
 cases e <;> first | rfl | (exact absurd h (by simp [y9]))
theorem a33 {e:Expr} (h:C2 e=true):a12 e:=by
 intro o i
 cases e <;> first | rfl | (exact absurd h (by simp [C2]))
theorem E7 {op:CmpOp} {e:Expr} (h:u0 e=true):behindInMarks op e=false:=by
 cases e <;> first | rfl | (exact absurd h (by simp [u0]))
theorem E9 {e:Expr} {env:PySem.Env} (h:u0 e=true):∀ x,foldedSetIterable e env x=pure x:=by
 intro x
 cases e <;> first | rfl | (exact absurd h (by simp [u0]))
theorem N8 {o:Expr} {f:Str} {env:PySem.Env} (h:A6 o=true):attributeBase o f env (eval o env)=eval o env:=by
 unfold attributeBase
 split
 ·exact absurd h (by simp [A6])
 ·rfl
theorem test_of {e:Expr} {env:PySem.Env} (h:B5 e=true):∀ whole,isTrue e env whole=(do let v <- whole;standAt e.pos;holding [v] (truthy v)):=by
 intro whole
 cases e <;> first
  | rfl
  | (rename_i op _ _;cases op <;> first | rfl | (exact absurd h (by simp [B5])))
  | (exact absurd h (by simp [B5]))
section
variable {X:Cx} {cl:Nat->Addr} {xe:Addr->Hp->Prop} {e:Expr} {es:List Expr} {pos:Pos} {f:Env->M D} {fs:Env->M (List D)}
theorem a1r:PA X [] (tDs X.K cl xe λ_=>ret []):=PA.imp b2o λσ H Q ⟨μ,S,ρ,eo,rp,p⟩=>p.ret μ H (Lat.refl _ _) rp [] .nil
theorem X3 (h:PE X e (tD X.K cl xe f)) (hs:PA X es (tDs X.K cl xe fs)) (hn:b5 e=true):PA X (e :: es) (tDs X.K cl xe λρ=>bind (f ρ) λd=>bind (fs ρ) λds=>ret (d :: ds)):=
 PA.imp (a1j h hs (d5 hn)) λσ H Q ⟨μ,S,ρ,eo,rp,p⟩=>
  ⟨μ,S,ρ,eo,rp,p.bind.imp λd S1 μ1 H1 l1 r1 p1 v rv=>⟨μ1,S1,ρ,eo.later l1,r1,p1.bind.imp λds S2 μ2 H2 l2 r2 p2 vs rvs=>p2.ret μ2 H2 (Lat.refl _ _) r2 _ (.cons (rv.later l2) rvs)⟩⟩
noncomputable def b97 (ds:List D):M D:=if ds.length<=sizeLine then ret (.tup ds) else bad
noncomputable def b6w (ds:List D):M D:=if ds.length<=sizeLine then ret (.lst ds) else bad
theorem b71 {k:Nat} (h:PA X es (tDs X.K cl xe fs)):PE X (.Tuple es k pos) (tD X.K cl xe λρ=>bind (fs ρ) b97):=PE.imp (b66 h) λσ H Q ⟨μ,S,ρ,eo,rp,p⟩=>
 ⟨μ,S,ρ,eo,rp,p.bind.imp λds S1 μ1 H1 l1 r1 p1 vs rvs=>by
  obtain ⟨hl,p1⟩:=Post.guard p1
  refine ⟨by rw [<- rvs.length];exact hl,λz hz=>?_⟩
  obtain ⟨l,rp2,rd2⟩:=I0 r1 rvs hz
  exact p1 μ1 _ l rp2 _ rd2⟩
theorem b64 (h:PA X es (tDs X.K cl xe fs)):PE X (.List es pos) (tD X.K cl xe λρ=>bind (fs ρ) b6w):=PE.imp (b1c h) λσ H Q ⟨μ,S,ρ,eo,rp,p⟩=>
 ⟨μ,S,ρ,eo,rp,p.bind.imp λds S1 μ1 H1 l1 r1 p1 vs rvs=>by
  obtain ⟨hl,p1⟩:=Post.guard p1
  refine ⟨by rw [<- rvs.length];exact hl,λz hz=>?_⟩
  obtain ⟨l,rp2,rd2⟩:=w5 r1 rvs hz
  exact p1 μ1 _ l rp2 _ rd2⟩
noncomputable def w9 (ds:List D):M D:=λS=>if ds.length<=sizeLine then .ok (.ref S.length) (S++[.lst ds]) else .bad
theorem a0t (h:PA X es (tDs X.K cl xe fs)):PE X (.List es pos) (tD X.K cl xe λρ=>bind (fs ρ) w9):=PE.imp (b1c h) λσ H Q ⟨μ,S,ρ,eo,rp,p⟩=>
 ⟨μ,S,ρ,eo,rp,p.bind.imp λds S1 μ1 H1 l1 r1 p1 vs rvs=>by
  unfold w9 at p1
  by_cases hl:ds.length<=sizeLine
  ·rw [if_pos hl] at p1
   refine ⟨by rw [<- rvs.length];exact hl,λz hz=>?_⟩
   obtain ⟨l,rp2,rd2⟩:=a0k r1 rvs hz
   exact p1 _ _ l rp2 _ rd2
  ·rw [if_neg hl] at p1;exact p1.elim⟩
def a9i (E:XK):Addr->Hp->Prop:=λa H=>E (.ref a) none H
def spD (K:PySem.W.Frag) (cl:Nat->Addr) (n:Nat) (run:List D->M D):Sp:=λvs H Q E=>vs.length=n/\∃ μ S ds,RDs K μ H ds vs/\Rep K cl μ S H/\Post K cl (a9i E0) μ H (run ds S) λd _ μ' H'=>∀ v,RD K μ' H' d v->Q v H'
theorem b16 {g:List D->M D} {id:String} {x:Str} {p:Pos} (hc:i5 X (.builtin id) (rPs X.K cl xe g)) (hg:Gl X x) (hm:X.mg x=none) (hv:bootBuiltins x=some (.builtin id)) (ha:PA X (e :: es) (tDs X.K cl xe fs)) (hn:x ≠ "__name__") (hdb:(x==("__debug__" : Str))=false) (hs:(e :: es).all b5=true) :
  PE X (.Call (.Name x p) (e :: es) [] pos) (tD X.K cl xe λρ=>bind (fs ρ) g):=by
 rw [List.all_cons,Bool.and_eq_true] at hs
 exact PE.imp (a2y hc hg hm hv ha hn hdb (d5 hs.1) (A2 hs.2)) λσ H Q ⟨μ,S,ρ,eo,rp,p⟩=>⟨μ,S,ρ,eo,rp,p.bind.imp λds S1 μ1 H1 l1 r1 p1 vs rvs=>⟨μ1,S1,ds,rvs,r1,p1⟩⟩
theorem a3g {g:List D->M D} {T:String} {x:Str} {p:Pos} (hc:i5 X (.type T) (rPs X.K cl xe g)) (hg:Gl X x) (hm:X.mg x=none) (hv:bootBuiltins x=some (.type T)) (ha:PA X (e :: es) (tDs X.K cl xe fs)) (hn:x ≠ "__name__") (hdb:(x==("__debug__" : Str))=false) (hs:(e :: es).all b5=true) :
  PE X (.Call (.Name x p) (e :: es) [] pos) (tD X.K cl xe λρ=>bind (fs ρ) g):=by
 rw [List.all_cons,Bool.and_eq_true] at hs
 exact PE.imp (a8m hc hg hm hv ha hn hdb (d5 hs.1) (A2 hs.2)) λσ H Q ⟨μ,S,ρ,eo,rp,p⟩=>⟨μ,S,ρ,eo,rp,p.bind.imp λds S1 μ1 H1 l1 r1 p1 vs rvs=>⟨μ1,S1,ds,rvs,r1,p1⟩⟩
end
noncomputable def one (g:D->M D) (ds:List D):M D:=match ds with
 | [d]=>g d
 | _=>bad
noncomputable def y0 (d:D):M D:=match d with
 | .str x=>if x.length<=sizeLine then ret (.int x.length) else bad
 | .ref n=>λS=>match S[n]? with
  | some (.lst ds)=>.ok (.int ds.length) S
  | some (.dct kvs)=>.ok (.int kvs.length) S
  | _=>.bad
 | d=>bind (u3 d) λds=>ret (.int ds.length)
noncomputable def K3 (d:D):M D:=match d with
 | .tup ds=>ret (.tup ds)
 | d=>bind (u3 d) λds=>ret (.tup ds)
noncomputable def a0j (d:D):M D:=bind (u3 d) λds=>ret (.lst ds)
instance (p:PyData):Decidable (Shows p):=decidable_of_iff (p.showable=true/\p.hasDict=false/\p.depth<=60/\p.shown.length<=sizeLine) ⟨λ⟨a,b,c,d⟩=>⟨a,b,c,d⟩,λ⟨a,b,c,d⟩=>⟨a,b,c,d⟩⟩
noncomputable def D7 (d:D):M D:=λS=>match d9 64 S d with
 | some p=>(if Shows p then ret (.str p.shown) else bad) S
 | none=>.bad
theorem c1d {K:PySem.W.Frag} {μ:Mp} {H:Hp} {d:D} {vs:List V} (r:RDs K μ H [d] vs):∃ v,vs=[v]/\RD K μ H d v:=by
 cases r with
 | cons h t=>cases t;exact ⟨_,rfl,h⟩
section
variable {X:Cx} {cl:Nat->Addr} {xe:Addr->Hp->Prop}
theorem D1 {g:D->M D} {f:Value} (h:∀ (pins:List (Addr×Obj)) (s:Shared) (σ:L2.St) (H:Hp) (μ:Mp) (S:Sto) (d:D) (v:V) (us:List Value) (Q:VK),L2.Inv X pins σ H s->Vals [v] us->RD X.K μ H d v->Rep X.K cl μ S H->Post X.K cl xe μ H (g d S) (λr _ μ' H'=>∀ v,RD X.K μ' H' r v->Q v H') ->
  wpAny (model X.prog X.w) X.A (call f us) (EP X pins σ Q) X.xe s):i5 X f (rPs X.K cl xe (one g)):=by
 intro pins s σ H xs us Q I r ⟨μ,S,ds,rds,rp,p⟩
 match ds,p with
 | [d],p=>
  obtain ⟨v,rfl,rd⟩:=c1d rds
  exact h pins s σ H μ S d v us Q I r rd rp p
 | [],p=>exact p.elim
 | _ :: _ :: _,p=>exact p.elim
theorem c28:i5 X (.builtin "len") (rPs X.K cl xe (one y0)):=D1 λpins s σ H μ S d v us Q I r rd rp p=>by
 have sq:∀ {a:Addr} {xs:List V} {ds:List D},(SqL X.K H a xs\/SqT X.K H a xs)->RDs X.K μ H ds xs->v=.ref a->(∀ μ' H',Lat μ H μ' H'->Rep X.K cl μ' S H'->∀ w,RD X.K μ' H' (.int ds.length) w->Q w H')->wpAny (model X.prog X.w) X.A (call (.builtin "len") us) (EP X pins σ Q) X.xe s:=λ{a xs ds} hq r2 hv q=>by
  subst hv
  exact a02 pins s σ H _ us Q I r ⟨a,xs,rfl,hq,by rw [<- r2.length];exact q μ H (Lat.refl _ _) rp _ (.int _)⟩
 cases rd with
 | str x=>
  obtain ⟨hl,p⟩:=Post.guard p
  exact a09 pins s σ H _ us Q I r ⟨x,rfl,hl,p μ H (Lat.refl _ _) rp _ (.int _)⟩
 | tup h r2=>exact sq (.inr h.sq) r2 rfl p
 | lst h r2=>exact sq (.inl h.sq) r2 rfl p
 | scr h r2=>exact sq (.inl h.sq) r2 rfl p
 | ref h=>
  rename_i n a
  simp only [y0] at p
  cases q1:S[n]? with
  | none=>rw [q1] at p;exact p.elim
  | some o=>
   rw [q1] at p
   cases o with
   | lst ds=>
    obtain ⟨xs,h1,h2⟩:=rp.ats n _ a q1 h
    exact sq (.inl (.inl (.inl h1))) h2 rfl p
   | dct kvs=>
    obtain ⟨ks,h1,h2⟩:=rp.ats n _ a q1 h
    have hl:kvs.length=ks.length:=Paired.length h2
    exact a74 pins s σ H _ us Q I r ⟨a,ks,rfl,h1,by rw [<- hl];exact p μ H (Lat.refl _ _) rp _ (.int _)⟩
   | exc _ _=>exact p.elim
 | _=>exact False.elim p
theorem b5d:i5 X (.type "tuple") (rPs X.K cl xe (one K3)):=D1 λpins s σ H μ S d v us Q I r rd rp p=>by
 have sq:∀ {a:Addr} {xs:List V} {ds:List D},SqL X.K H a xs->RDs X.K μ H ds xs->v=.ref a->(∀ μ' H',Lat μ H μ' H'->Rep X.K cl μ' S H'->∀ w,RD X.K μ' H' (.tup ds) w->Q w H')->wpAny (model X.prog X.w) X.A (call (.type "tuple") us) (EP X pins σ Q) X.xe s:=λ{a xs ds} hq r2 hv q=>by
  subst hv
  refine J8 pins s σ H _ us Q I r ⟨a,xs,rfl,.inl ⟨hq,λz hz=>?_⟩⟩
  obtain ⟨l,rp2,rd2⟩:=I0 rp r2 hz
  exact q μ _ l rp2 _ rd2
 cases rd with
 | tup h r2=>exact J8 pins s σ H _ us Q I r ⟨_,_,rfl,.inr ⟨h.sq,p μ H (Lat.refl _ _) rp _ (.tup h r2)⟩⟩
 | lst h r2=>exact sq h.sq r2 rfl p
 | scr h r2=>exact sq h.sq r2 rfl p
 | ref h=>
  rename_i n a0
  have p2:Post X.K cl xe μ H (bind (lstOf (.ref n)) (λds=>ret (D.tup ds)) S) (λr _ μ' H'=>∀ v,RD X.K μ' H' r v->Q v H'):=p
  obtain ⟨a,xs,ds,e1,h1,h2,e2⟩:=j9 (.ref h) rp p2.bind
  exact sq (.inl (.inl h1)) h2 e1 (p2.ok_bind e2)
 | _=>exact False.elim p
theorem b7a:i5 X (.type "list") (rPs X.K cl xe (one a0j)):=D1 λpins s σ H μ S d v us Q I r rd rp p=>by
 obtain ⟨a,xs,ds,rfl,h1,h2,e2⟩:=E5 rd rp p.bind
 refine L8 pins s σ H _ us Q I r ⟨a,xs,rfl,h1,λz hz=>?_⟩
 obtain ⟨l,rp2,rd2⟩:=w5 rp h2 hz
 exact (p.ok_bind e2) μ _ l rp2 _ rd2
theorem b6x (hg:X.A.guards=some []) (hu:X.A.units+64<cLine):i5 X (.builtin "repr") (rPs X.K cl xe (one D7)):=D1 λpins s σ H μ S d v us Q I r rd rp p=>by
 simp only [D7] at p
 cases e1:d9 64 S d with
 | none=>rw [e1] at p;exact p.elim
 | some q=>
  rw [e1] at p
  obtain ⟨hs,p⟩:=Post.guard p
  exact a7l hg hu pins s σ H _ us Q I r ⟨v,q,rfl,A7 rp 64 e1 rd,hs,p μ H (Lat.refl _ _) rp _ (.str _)⟩
end
noncomputable def Mp.free (μ:Mp):Mp:=⟨μ.pl,μ.rs.tail⟩
section
variable {K:PySem.W.Frag} {cl:Nat->Addr} {xe:Addr->Hp->Prop} {μ μ2:Mp} {S S2:Sto} {H H2:Hp} {p:Addr} {o:HO}
theorem b45 (rp:Rep K cl μ S H) (hp:H p=none):(∀ {d:D} {v:V},RD K μ H d v->RD K (μ.hold p) (upd H p o) d v)/\∀ {ds:List D} {vs:List V},RDs K μ H ds vs->RDs K (μ.hold p) (upd H p o) ds vs:=by
 have ho:∀ a u,H a=some u->a∉μ.pl->a∉μ.rs->upd H p o a=some u/\a∉(μ.hold p).pl/\a∉(μ.hold p).rs:=λa u e n1 n2=>by
  have ne:=b7 e hp
  exact ⟨by rw [a4 ne];exact e,n1,λz=>(List.mem_cons.mp z).elim ne n2⟩
 exact ⟨λr=>r.move (μ:=μ) (μ':=μ.hold p) (H':=upd H p o) (λ_ _ e=>e) ho,λr=>r.move (μ:=μ) (μ':=μ.hold p) (H':=upd H p o) (λ_ _ e=>e) ho⟩
theorem a31 (rp:Rep K cl μ S H) (hp:H p=none):Rep K cl (μ.hold p) S (upd H p o):=by
 have ho:∀ a u,H a=some u->a∉μ.pl->a∉μ.rs->upd H p o a=some u/\a∉(μ.hold p).pl/\a∉(μ.hold p).rs:=λa u e n1 n2=>by
  have ne:=b7 e hp
  exact ⟨by rw [a4 ne];exact e,n1,λz=>(List.mem_cons.mp z).elim ne n2⟩
 refine rp.move (λa m=>?_) rfl (λa m=>a4 λz=>rp.notin hp (z▸m)) (λa u e=>by rw [a4 (b7 e hp)];exact e) ho
 rcases List.mem_cons.mp (show a∈p :: μ.rs from m) with rfl | m
 ·exact ⟨rp.notin hp,o,b9⟩
 ·obtain ⟨h1,u,h2⟩:=rp.res a m
  exact ⟨h1,u,by rw [a4 (b7 h2 hp)];exact h2⟩
theorem a3n {ρ:Env} {σ:L2.St} (rp:Rep K cl μ S H) (hp:H p=none) (eo:EnvOk K μ H ρ σ):EnvOk K (μ.hold p) (upd H p o) ρ σ:=⟨eo.1,λi d e=>let ⟨v,q,r⟩:=eo.2 i d e;⟨v,q,(b45 rp hp).1 r⟩⟩
theorem a3i {ds:List D} {vs:List V} (r:RDs K μ H ds vs):RDs K μ.free H ds vs:=r.move (μ:=μ) (μ':=μ.free) (λ_ _ e=>e) λa u e n1 n2=>⟨e,n1,λz=>n2 (List.mem_of_mem_tail z)⟩
theorem X1 (rp:Rep K cl μ S H):Rep K cl μ.free S H:=rp.move (λa m=>rp.res a (List.mem_of_mem_tail m)) rfl (λ_ _=>rfl) (λ_ _ e=>e) λa u e n1 n2=>⟨e,n1,λz=>n2 (List.mem_of_mem_tail z)⟩
theorem a0i {rs:List Addr} {ds:List D} {vs:List V} (e:μ.rs=p :: rs) (r:RDs K μ H ds vs):RDs K μ (upd H p o) ds vs:=r.move (λ_ _ e=>e) λa u q n1 n2=>⟨by rw [a4 (λz=>n2 (by rw [e,z];exact List.mem_cons_self))];exact q,n1,n2⟩
theorem W8 {rs:List Addr} {d:D} {v:V} (e:μ.rs=p :: rs) (r:RD K μ H d v):RD K μ (upd H p o) d v:=r.move (λ_ _ e=>e) λa u q n1 n2=>⟨by rw [a4 (λz=>n2 (by rw [e,z];exact List.mem_cons_self))];exact q,n1,n2⟩
theorem a0l {rs:List Addr} {xs:List V} (e:μ.rs=p :: rs) (hp:H p=some (.lst xs)) (rp:Rep K cl μ S H):Rep K cl μ S (upd H p o):=by
 have np:p∉μ.pl:=(rp.res p (by rw [e];exact List.mem_cons_self)).1
 refine rp.move (λa m=>?_) rfl (λa m=>a4 λz=>np (z▸m)) (λa u q=>by rw [a4 (b6j q hp (by intro z;cases z))];exact q) λa u q n1 n2=>⟨by rw [a4 (λz=>n2 (by rw [e,z];exact List.mem_cons_self))];exact q,n1,n2⟩
 obtain ⟨h1,u,h2⟩:=rp.res a m
 by_cases z:a=p
 ·subst z;exact ⟨h1,o,b9⟩
 ·exact ⟨h1,u,by rw [a4 z];exact h2⟩
end
inductive Fl where
 | nx (ρ:Env) | rt (d:D) | bk (ρ:Env) | ct (ρ:Env)
def b9o (K:PySem.W.Frag) (D:Ends) (fl:Fl) (μ:Mp) (H:Hp):Prop:=match fl with
 | .nx ρ=>∀ σ,EnvOk K μ H ρ σ->D.nx σ H
 | .rt d=>∀ v,RD K μ H d v->D.rt v H
 | .bk ρ=>∀ σ,EnvOk K μ H ρ σ->D.bk σ H
 | .ct ρ=>∀ σ,EnvOk K μ H ρ σ->D.ct σ H
def sD (K:PySem.W.Frag) (cl:Nat->Addr) (xe:Addr->Hp->Prop) (f:Env->M Fl):TS:=λD σ H=>∃ μ S ρ,EnvOk K μ H ρ σ/\Rep K cl μ S H/\Post K cl xe μ H (f ρ S) λfl _ μ' H'=>b9o K D fl μ' H'
noncomputable def c23 (f g:Env->M Fl) (ρ:Env):M Fl:=bind (f ρ) λfl=>match fl with
 | .nx ρ'=>g ρ'
 | fl=>ret fl
section
variable {X:Cx} {cl:Nat->Addr} {xe:Addr->Hp->Prop} {e:Expr} {st:Stmt} {sts:List Stmt} {pos:Pos} {f:Env->M D} {g h:Env->M Fl}
theorem K0 {st:Stmt}:PS X st (sD X.K cl xe λ_=>bad):=λ_ _ _ _ _ _ ⟨_,_,_,_,_,p⟩=>p.elim
theorem a9x:PSs X [] (sD X.K cl xe λρ=>ret (.nx ρ)):=PSs.imp b3g λD σ H ⟨μ,S,ρ,eo,rp,p⟩=>p.ret μ H (Lat.refl _ _) rp σ eo
theorem b3u (h1:PS X st (sD X.K cl xe g)) (h2:PSs X sts (sD X.K cl xe h)):PSs X (st :: sts) (sD X.K cl xe (c23 g h)):=PSs.imp (a9c h1 h2) λD σ H ⟨μ,S,ρ,eo,rp,p⟩=>
 ⟨μ,S,ρ,eo,rp,p.bind.imp λfl S1 μ1 H1 l1 r1 p1=>by
  cases fl with
  | nx ρ1=>exact λσ1 eo1=>⟨μ1,S1,ρ1,eo1,r1,p1⟩
  | rt d=>exact p1.ret μ1 H1 (Lat.refl _ _) r1
  | bk ρ1=>exact p1.ret μ1 H1 (Lat.refl _ _) r1
  | ct ρ1=>exact p1.ret μ1 H1 (Lat.refl _ _) r1⟩
theorem a87 (he:PE X e (tD X.K cl xe f)) (hn:y9 e=true):PS X (.Expr e pos) (sD X.K cl xe λρ=>bind (f ρ) λ_=>ret (.nx ρ)):=PS.imp (b20 he (D2 hn)) λD σ H ⟨μ,S,ρ,eo,rp,p⟩=>
 ⟨μ,S,ρ,eo,rp,p.bind.imp λd S1 μ1 H1 l1 r1 p1 v rv=>p1.ret μ1 H1 (Lat.refl _ _) r1 σ (eo.later l1)⟩
theorem a5n (he:PE X e (tD X.K cl xe f)):PS X (.Return (some e) pos) (sD X.K cl xe λρ=>bind (f ρ) λd=>ret (.rt d)):=PS.imp (b98 he) λD σ H ⟨μ,S,ρ,eo,rp,p⟩=>
 ⟨μ,S,ρ,eo,rp,p.bind.imp λd S1 μ1 H1 l1 r1 p1 v rv=>p1.ret μ1 H1 (Lat.refl _ _) r1 v rv⟩
theorem b79 {c:Expr} {t:Env->M Bool} {a b:List Stmt} (hc:PT X c (tBo X.K cl xe t)) (ha:PSs X a (sD X.K cl xe g)) (hb:PSs X b (sD X.K cl xe h)):PS X (.If c a b pos) (sD X.K cl xe λρ=>bind (t ρ) λq=>if q=true then g ρ else h ρ):=PS.imp (L2.ps_if hc ha hb) λD σ H ⟨μ,S,ρ,eo,rp,p⟩=>
 ⟨μ,S,ρ,eo,rp,p.bind.imp λq S1 μ1 H1 l1 r1 p1=>by
  cases q with
  | true=>exact ⟨μ1,S1,ρ,eo.later l1,r1,p1⟩
  | false=>exact ⟨μ1,S1,ρ,eo.later l1,r1,p1⟩⟩
theorem b5t {i:Nat} {x:Str} {pos':Pos} (hN:X.N.Nodup) (hi:X.N[i]?=some x) (hx:Loc X.env.scope x) (he:PE X e (tD X.K cl xe f)) (hn:y9 e=true) (hf:X.fn x=true\/X.env.scope.names.lookup x=some .local) :
  PS X (.Assign [.Name x pos'] e pos) (sD X.K cl xe λρ=>bind (f ρ) λd=>ret (.nx (ρ.set i (some d)))):=PS.imp (b93 hN hi hx he (D2 hn) hf) λD σ H ⟨μ,S,ρ,eo,rp,p⟩=>
 ⟨μ,S,ρ,eo,rp,p.bind.imp λd S1 μ1 H1 l1 r1 p1 v rv=>p1.ret μ1 H1 (Lat.refl _ _) r1 _ ((eo.later l1).set rv i)⟩
def b5e (K:PySem.W.Frag) (cl:Nat->Addr) (tg:D->Env->Option Env):TG:=λv σ H Q=>∃ μ S ρ d ρ',EnvOk K μ H ρ σ/\Rep K cl μ S H/\RD K μ H d v/\tg d ρ=some ρ'/\∀ σ',EnvOk K μ H ρ' σ'->Q σ' H
theorem PG.imp {t:Expr} {u u':TG} (h:PG X t u) (k:∀ v σ H Q,u' v σ H Q->u v σ H Q):PG X t u':=λpins s σ H v w Q I r q=>h pins s σ H v w Q I r (k v σ H Q q)
theorem b0v {i:Nat} {x:Str} {pos':Pos} (hN:X.N.Nodup) (hi:X.N[i]?=some x) (hx:Loc X.env.scope x) (hf:X.fn x=true\/X.env.scope.names.lookup x=some .local):PG X (.Name x pos') (b5e X.K cl λd ρ=>some (ρ.set i (some d))):=
 PG.imp (N2 hN hi hx hf) λv σ H Q ⟨μ,S,ρ,d,ρ',eo,rp,rd,e,q⟩=>by
  cases e
  exact q _ (eo.set rd i)
noncomputable def X0:List Nat->List D->Env->Option Env
 | [],[],ρ=>some ρ
 | i :: is,d :: ds,ρ=>X0 is ds (ρ.set i (some d))
 | _,_,_=>none
noncomputable def C6 (is:List Nat) (d:D) (ρ:Env):Option Env:=match d with
 | .tup ds=>X0 is ds ρ
 | _=>none
def F9 (X:Cx):List Expr->List Nat->Prop
 | [],[]=>True
 | .Name x _ :: ts,i :: is=>X.N[i]?=some x/\Loc X.env.scope x/\(X.fn x=true\/X.env.scope.names.lookup x=some .local)/\F9 X ts is
 | _,_=>False
theorem a0d (hN:X.N.Nodup):∀ {ts:List Expr} {is:List Nat},F9 X ts is->PGs X ts (λvs σ H Q=>∃ μ ds ρ ρ',EnvOk X.K μ H ρ σ/\RDs X.K μ H ds vs/\X0 is ds ρ=some ρ'/\∀ σ',EnvOk X.K μ H ρ' σ'->Q σ' H)
 | [],[],_=>λpins s σ H vs us Q I r ⟨μ,ds,ρ,ρ',eo,rd,e,q⟩=>by
  cases ds with
  | nil=>
   cases rd
   cases e
   exact b4r pins s σ H [] us Q I r ⟨rfl,q σ eo⟩
  | cons d ds=>cases e
 | .Name x p :: ts,i :: is,⟨h1,h2,h3,h4⟩=>λpins s σ H vs us Q I r ⟨μ,ds,ρ,ρ',eo,rd,e,q⟩=>by
  cases ds with
  | nil=>cases e
  | cons d ds=>
   cases rd with
   | cons r1 r2=>
    exact a80 (N2 (i:=i) hN h1 h2 h3) (a0d hN h4) rfl pins s σ H _ us Q I r ⟨_,_,rfl,μ,ds,_,ρ',eo.set r1 i,r2,e,q⟩
theorem L9 {ts:List Expr} {is:List Nat}:F9 X ts is->(assignEach ts X.env).length=is.length/\(assignEach ts X.env).findIdx? (·.1)=none:=by
 induction ts generalizing is with
 | nil=>
  intro h
  cases is with
  | nil=>exact ⟨rfl,rfl⟩
  | cons i is=>exact h.elim
 | cons t ts ih=>
  intro h
  cases is with
  | nil=>cases t <;> exact h.elim
  | cons i is=>
   cases t with
   | Name x p=>
    obtain ⟨_,_,_,h4⟩:=h
    obtain ⟨a,b⟩:=ih h4
    refine ⟨by show (assignEach ts X.env).length+1=_;rw [a];rfl,?_⟩
    show ((false,assign (.Name x p) X.env) :: assignEach ts X.env).findIdx? (·.1)=none
    rw [List.findIdx?_cons]
    simp [b]
   | _=>exact h.elim
theorem V3:∀ {is:List Nat} {ds:List D} {ρ ρ':Env},X0 is ds ρ=some ρ'->ds.length=is.length
 | [],[],_,_,_=>rfl
 | _ :: _,_ :: _,_,_,e=>by simp [V3 (by simpa [X0] using e)]
 | [],_ :: _,_,_,e=>by cases e
 | _ :: _,[],_,_,e=>by cases e
theorem a1p {ts:List Expr} {is:List Nat} {k:Nat} {pos':Pos} (hc:X.calm=true) (hN:X.N.Nodup) (h:F9 X ts is):PG X (.Tuple ts k pos') (b5e X.K cl (C6 is)):=
 PG.imp (b83 (n:=is.length) hc (a0d hN h) (L9 h).1 (L9 h).2) λv σ H Q ⟨μ,S,ρ,d,ρ',eo,rp,rd,e,q⟩=>by
  cases rd with
  | tup h1 h2=>exact ⟨_,_,rfl,h1.sq,by rw [<- h2.length];exact V3 e,μ,_,ρ,ρ',eo,h2,e,q⟩
  | _=>cases e
noncomputable def a8z:Expr->Bool
 | .Tuple ..=>false
 | _=>true
noncomputable def Q8 (tg:D->Env->Option Env) (d:D) (ρ:Env):M Fl:=match tg d ρ with
 | some ρ'=>ret (.nx ρ')
 | none=>bad
theorem b4v {ts:List Expr} {is:List Nat} {k:Nat} {pos':Pos} (hc:X.calm=true) (hN:X.N.Nodup) (h:F9 X ts is) (he:PE X e (tD X.K cl xe f)) (hn:y9 e=true) (hn2:a8z e=true):PS X (.Assign [.Tuple ts k pos'] e pos) (sD X.K cl xe λρ=>bind (f ρ) λd=>Q8 (C6 is) d ρ):=
 PS.imp (a4i he (a1p (cl:=cl) hc hN h) (by unfold swapsWithSole;exact D2 hn) (by cases e <;> first | rfl | (exact absurd hn2 (by simp [a8z]))) rfl) λD σ H ⟨μ,S,ρ,eo,rp,p⟩=>
  ⟨μ,S,ρ,eo,rp,p.bind.imp λd S1 μ1 H1 l1 r1 p1 v rv=>by
   cases e1:C6 is d ρ with
   | none=>simp only [Q8,e1] at p1;exact p1.elim
   | some ρ'=>simp only [Q8,e1] at p1;exact ⟨μ1,S1,ρ,d,ρ',eo.later l1,r1,rv,e1,p1.ret μ1 H1 (Lat.refl _ _) r1⟩⟩
end
structure LatR (μ:Mp) (H:Hp) (μ':Mp) (H':Hp):Prop where
 pre:∀ (n:Nat) (a:Addr),μ.pl[n]?=some a->μ'.pl[n]?=some a
 oth:∀ a o,H a=some o->a∉μ.pl->H' a=some o
 new:∀ a,a∈μ'.pl->a∈μ.pl\/H a=none
 rsw:∀ a,a∈μ'.rs->a∈μ.rs\/H a=none
theorem Lat.r {μ μ':Mp} {H H':Hp} (l:Lat μ H μ' H'):LatR μ H μ' H':=⟨l.pre,l.oth,l.new,λa m=>.inl (by rw [l.rsv] at m;exact m)⟩
structure LatU (μ:Mp) (H:Hp) (μ':Mp) (H':Hp):Prop where
 pre:∀ (n:Nat) (a:Addr),μ.pl[n]?=some a->μ'.pl[n]?=some a
 oth:∀ a o,H a=some o->a∉μ.pl->a∉μ.rs->H' a=some o
 new:∀ a,a∈μ'.pl->a∈μ.pl\/H a=none
 rsw:∀ a,a∈μ'.rs->a∈μ.rs\/H a=none
theorem LatR.u {μ μ':Mp} {H H':Hp} (l:LatR μ H μ' H'):LatU μ H μ' H':=⟨l.pre,λa o e n _=>l.oth a o e n,l.new,l.rsw⟩
theorem LatU.out {μ μ':Mp} {H H':Hp} (l:LatU μ H μ' H') (a:Addr) (u:HO) (e:H a=some u) (n1:a∉μ.pl) (n2:a∉μ.rs):H' a=some u/\a∉μ'.pl/\a∉μ'.rs:=by
 refine ⟨l.oth a u e n1 n2,λz=>?_,λz=>?_⟩
 ·rcases l.new a z with q | q
  ·exact n1 q
  ·rw [e] at q;cases q
 ·rcases l.rsw a z with q | q
  ·exact n2 q
  ·rw [e] at q;cases q
theorem RDs.laterU {K:PySem.W.Frag} {μ μ':Mp} {H H':Hp} (l:LatU μ H μ' H') {ds:List D} {vs:List V} (r:RDs K μ H ds vs):RDs K μ' H' ds vs:=r.move l.pre l.out
noncomputable abbrev Src:=Nat->Sto->Option (Option D)
def Y1 (K:PySem.W.Frag) (cl:Nat->Addr) (J:It) (i:Nat) (μ2:Mp) (H2:Hp) (S2:Sto) (o:Option (Option D)):Prop:=match o with
 | some (some d)=>J.go i H2/\∀ x H3,J.yld i H2 x H3->Lat μ2 H2 μ2 H3/\Rep K cl μ2 S2 H3/\RD K μ2 H3 d x
 | some none=>J.stop i H2
 | none=>True
def Yl (K:PySem.W.Frag) (cl:Nat->Addr) (J:It) (μ:Mp) (H:Hp) (src:Src):Prop:=∀ (i:Nat) (μ2:Mp) (H2:Hp) (S2:Sto),LatU μ H μ2 H2->Rep K cl μ2 S2 H2->Y1 K cl J i μ2 H2 S2 (src i S2)
def tIt (K:PySem.W.Frag) (cl:Nat->Addr) (xe:Addr->Hp->Prop) (f:Env->M (Src×Nat)):TI:=λσ H R=>∃ μ S ρ,EnvOk K μ H ρ σ/\Rep K cl μ S H/\Post K cl xe μ H (f ρ S) λp _ μ' H'=>∀ J,Yl K cl J μ' H' p.1->R J H'
theorem PI.imp {X:Cx} {tg it:Expr} {t t':TI} (h:PI X tg it t) (k:∀ σ H R,t' σ H R->t σ H R):PI X tg it t':=λpins s σ H R I q=>h pins s σ H R I (k σ H R q)
theorem b7c {X:Cx} {tg l:Expr} {tl:TE} (hl:PE X l tl):PI X tg l (λσ H R=>tl σ H λx H1=>∃ a,x=.ref a/\(((∃ xs,SqL X.K H1 a xs)/\R (Itl X.K a) H1)\/((∃ xs,SqT X.K H1 a xs)/\R (Itt X.K a) H1))):=by
 intro pins s σ H R I h
 refine thn (hl pins s σ H _ I h) λv s1 ⟨x,H1,I1,r1,q1⟩=>?_
 obtain ⟨a,e,q1⟩:=q1
 subst e
 cases r1
 rcases q1 with ⟨⟨xs,hq⟩,q⟩ | ⟨⟨xs,hq⟩,q⟩
 ·obtain ⟨its,rv,p,hz⟩:=I1.list hq
  refine wpAny_pyIter_list p.isList ?_
  refine ⟨s1.heap.objs.size,[s1.heap.objs.size],_,_,H1,rfl,I1.kept (t':=s1.toks) λb o e=>Heap.get?_push_of_some _ e,a79 a _,⟨_,Heap.get?_push_size _ rfl,rfl,rfl⟩,λb hb=>?_,q⟩
  have e:b=s1.heap.objs.size:=by simpa using hb
  subst e
  exact I1.fpOk (Nat.le_refl _) (I1.hok.fresh (Nat.le_refl _))
 ·obtain ⟨its,rv,p,hz⟩:=I1.tuple hq
  refine wpAny_pyIter_tuple (show s1.heap.IsTuple a its.toArray from p) ?_
  refine ⟨s1.heap.objs.size,[s1.heap.objs.size],_,_,H1,rfl,I1.kept (t':=s1.toks) λb o e=>Heap.get?_push_of_some _ e,a5c a _,⟨_,Heap.get?_push_size _ rfl,rfl,rfl⟩,λb hb=>?_,q⟩
  have e:b=s1.heap.objs.size:=by simpa using hb
  subst e
  exact I1.fpOk (Nat.le_refl _) (I1.hok.fresh (Nat.le_refl _))
noncomputable def A3 (ds:List D):Src:=λi _=>some ds[i]?
noncomputable def a1b (n:Nat):Src:=λi S=>match S[n]? with
 | some (.lst es)=>some es[i]?
 | _=>none
noncomputable def X2 (lo:Int) (n:Nat):Src:=λi _=>some (if i<n then some (.int (lo+i)) else none)
section
variable {K:PySem.W.Frag} {cl:Nat->Addr} {μ:Mp} {H:Hp}
theorem b9i {a:Addr} {xs:List V} {ds:List D} (h:TupAt K μ H a xs) (r:RDs K μ H ds xs):Yl K cl (Itt K a) μ H (A3 ds):=λi μ2 H2 S2 l rp=>by
 have hq:SqT K H2 a xs:=by
  rcases h with ⟨q,n1,n2⟩ | q
  ·rcases q with q | ⟨o,q⟩
   ·exact .inl (.inl (l.oth _ _ q n1 n2))
   ·exact .inl (.inr ⟨o,l.oth _ _ q n1 n2⟩)
  ·obtain ⟨o,its,n,c1,c2,c3,c4,c5,_⟩:=q
   exact .inr ⟨o,its,n,c1,c2,c3,c4,c5⟩
 have r2:=r.laterU l
 show Y1 K cl (Itt K a) i μ2 H2 S2 (some ds[i]?)
 cases e:ds[i]? with
 | none=>exact ⟨xs,hq,by rw [<- r.length];exact List.getElem?_eq_none_iff.mp e⟩
 | some d=>
  obtain ⟨v,e1,r1⟩:=r2.get e
  exact ⟨⟨xs,v,hq,e1⟩,λx H3 ⟨e3,q⟩=>by subst e3;have:=q xs hq;rw [e1] at this;cases this;exact ⟨Lat.refl _ _,rp,r1⟩⟩
theorem b0j {a:Addr} {xs:List V} {ds:List D} (h:LstAt μ H a xs\/ScrAt K μ H a xs) (r:RDs K μ H ds xs):Yl K cl (Itl K a) μ H (A3 ds):=λi μ2 H2 S2 l rp=>by
 have hq:SqL K H2 a xs:=by
  rcases h with ⟨q,n1,n2⟩ | ⟨q,n1,n2⟩ | q
  ·exact .inl (.inl (l.oth _ _ q n1 n2))
  ·rcases q with q | ⟨o,q⟩
   ·exact .inl (.inl (l.oth _ _ q n1 n2))
   ·exact .inl (.inr ⟨o,l.oth _ _ q n1 n2⟩)
  ·exact .inr q
 have r2:=r.laterU l
 show Y1 K cl (Itl K a) i μ2 H2 S2 (some ds[i]?)
 cases e:ds[i]? with
 | none=>exact ⟨xs,hq,by rw [<- r.length];exact List.getElem?_eq_none_iff.mp e⟩
 | some d=>
  obtain ⟨v,e1,r1⟩:=r2.get e
  exact ⟨⟨xs,v,hq,e1⟩,λx H3 ⟨e3,q⟩=>by subst e3;have:=q xs hq;rw [e1] at this;cases this;exact ⟨Lat.refl _ _,rp,r1⟩⟩
theorem b7b {a:Addr} {n:Nat} (h:μ.pl[n]?=some a):Yl K cl (Itl K a) μ H (a1b n):=λi μ2 H2 S2 l rp=>by
 show Y1 K cl (Itl K a) i μ2 H2 S2 (match S2[n]? with
  | some (.lst es)=>some es[i]?
  | _=>none)
 cases q1:S2[n]? with
 | none=>exact True.intro
 | some o=>
  cases o with
  | dct _=>exact True.intro
  | exc _ _=>exact True.intro
  | lst es=>
   obtain ⟨xs,h1,h2⟩:=rp.ats n _ a q1 (l.pre _ _ h)
   have hq:SqL K H2 a xs:=.inl (.inl h1)
   show Y1 K cl (Itl K a) i μ2 H2 S2 (some es[i]?)
   cases e:es[i]? with
   | none=>exact ⟨xs,hq,by rw [<- h2.length];exact List.getElem?_eq_none_iff.mp e⟩
   | some d=>
    obtain ⟨v,e1,r1⟩:=h2.get e
    exact ⟨⟨xs,v,hq,e1⟩,λx H3 ⟨e3,q⟩=>by subst e3;have:=q xs hq;rw [e1] at this;cases this;exact ⟨Lat.refl _ _,rp,r1⟩⟩
theorem a2i {lo:Int} {n:Nat}:Yl K cl (Itr lo n) μ H (X2 lo n):=λi μ2 H2 S2 l rp=>by
 show Y1 K cl (Itr lo n) i μ2 H2 S2 (some (if i<n then some (.int (lo+i)) else none))
 by_cases hi:i<n
 ·rw [if_pos hi]
  exact ⟨hi,λx H3 ⟨e3,e4⟩=>by subst e3 e4;exact ⟨Lat.refl _ _,rp,.int _⟩⟩
 ·rw [if_neg hi]
  exact Nat.le_of_not_lt hi
end
noncomputable def k5 (d:D):M (Src×Nat):=match d with
 | .tup ds=>ret (A3 ds,ds.length+1)
 | .lst ds=>ret (A3 ds,ds.length+1)
 | .scr ds=>ret (A3 ds,ds.length+1)
 | .ref n=>λS=>match S[n]? with
  | some (.lst ds)=>.ok (a1b n,ds.length+1) S
  | _=>.bad
 | _=>bad
noncomputable def B1 (ds:List D):M (Src×Nat):=match ds with
 | [.int j]=>if -(2 ^ 62)<=j/\j<2 ^ 62 then ret (X2 0 j.toNat,j.toNat+1) else bad
 | [.int i,.int j]=>if -(2 ^ 62)<=i/\i<2 ^ 62/\-(2 ^ 62)<=j/\j<2 ^ 62 then ret (X2 i (j-i).toNat,(j-i).toNat+1) else bad
 | _=>bad
section
variable {X:Cx} {cl:Nat->Addr} {xe:Addr->Hp->Prop} {e:Expr} {tg:Expr} {pos:Pos} {f:Env->M D}
theorem a53 {tg e:Expr}:PI X tg e (tIt X.K cl xe λ_=>bad):=λ_ _ _ _ _ _ ⟨_,_,_,_,_,p⟩=>p.elim
theorem b3l (h:PE X e (tD X.K cl xe f)):PI X tg e (tIt X.K cl xe λρ=>bind (f ρ) k5):=PI.imp (b7c h) λσ H R ⟨μ,S,ρ,eo,rp,p⟩=>
 ⟨μ,S,ρ,eo,rp,p.bind.imp λd S1 μ1 H1 l1 r1 p1 v rv=>by
  cases rv with
  | tup h r=>exact ⟨_,rfl,.inr ⟨⟨_,h.sq⟩,p1.ret μ1 H1 (Lat.refl _ _) r1 _ (b9i h r)⟩⟩
  | lst h r=>exact ⟨_,rfl,.inl ⟨⟨_,h.sq⟩,p1.ret μ1 H1 (Lat.refl _ _) r1 _ (b0j (.inl h) r)⟩⟩
  | scr h r=>exact ⟨_,rfl,.inl ⟨⟨_,h.sq⟩,p1.ret μ1 H1 (Lat.refl _ _) r1 _ (b0j (.inr h) r)⟩⟩
  | ref h=>
   rename_i n a
   simp only [k5] at p1
   cases q1:S1[n]? with
   | none=>rw [q1] at p1;exact p1.elim
   | some o=>
    rw [q1] at p1
    cases o with
    | lst ds=>
     obtain ⟨xs,h1,h2⟩:=r1.ats n _ a q1 h
     exact ⟨_,rfl,.inl ⟨⟨xs,.inl (.inl h1)⟩,p1 μ1 H1 (Lat.refl _ _) r1 _ (b7b h)⟩⟩
    | dct _=>exact p1.elim
    | exc _ _=>exact p1.elim
  | _=>exact False.elim p1⟩
theorem a34 {a:Expr} {fs:Env->M (List D)} {p:Pos} (hg:Gl X "range") (hm:X.mg "range" = none) (ha:PA X [a] (tDs X.K cl xe fs)) (hs:b5 a=true):PI X tg (.Call (.Name "range" p) [a] [] pos) (tIt X.K cl xe λρ=>bind (fs ρ) λds=>if ds.length=1 then B1 ds else bad):=
 PI.imp (a8w hg hm ha (d5 hs)) λσ H R ⟨μ,S,ρ,eo,rp,p⟩=>⟨μ,S,ρ,eo,rp,p.bind.imp λds S1 μ1 H1 l1 r1 p1 vs rvs=>by
  cases rvs with
  | nil=>exact False.elim p1
  | cons h t=>
   cases t with
   | cons _ t=>rw [if_neg (by simp)] at p1;exact p1.elim
   | nil=>
    rename_i d0 v0
    rw [if_pos (show ([d0]:List D).length=1 from rfl)] at p1
    cases h with
    | int j=>
     obtain ⟨⟨h1,h2⟩,p1⟩:=Post.guard p1
     exact ⟨j,rfl,h1,h2,p1 μ1 H1 (Lat.refl _ _) r1 _ a2i⟩
    | _=>exact False.elim p1⟩
theorem a4r {a b:Expr} {fs:Env->M (List D)} {p:Pos} (hg:Gl X "range") (hm:X.mg "range" = none) (ha:PA X [a,b] (tDs X.K cl xe fs)) (hs:b5 a=true) (hs2:b5 b=true):PI X tg (.Call (.Name "range" p) [a,b] [] pos) (tIt X.K cl xe λρ=>bind (fs ρ) λds=>if ds.length=2 then B1 ds else bad):=
 PI.imp (a8i hg hm ha (by rw [d5 hs,d5 hs2];rfl) (d5 hs2)) λσ H R ⟨μ,S,ρ,eo,rp,p⟩=>⟨μ,S,ρ,eo,rp,p.bind.imp λds S1 μ1 H1 l1 r1 p1 vs rvs=>by
  by_cases hd:ds.length=2
  ·rw [if_pos hd] at p1
   match ds,hd with
   | [d1,d2],_=>
    cases rvs with
    | cons h t=>
     cases t with
     | cons h2 t=>
      cases t
      cases h with
      | int i=>
       cases h2 with
       | int j=>
        obtain ⟨hh,p1⟩:=Post.guard p1
        exact ⟨i,j,rfl,hh,p1 μ1 H1 (Lat.refl _ _) r1 _ a2i⟩
       | _=>exact False.elim p1
      | _=>exact False.elim p1
  ·rw [if_neg hd] at p1;exact p1.elim⟩
end
noncomputable def v8 (src:Src) (tg:D->Env->Option Env) (body:Env->M Fl):Nat->Nat->Env->M Fl
 | 0,_,_=>bad
 | m+1,i,ρ=>λS=>match src i S with
  | none=>.bad
  | some none=>.ok (.nx ρ) S
  | some (some d)=>match tg d ρ with
   | none=>.bad
   | some ρ1=>bind (body ρ1) (λfl=>match fl with
    | .nx ρ2=>v8 src tg body m (i+1) ρ2
    | .ct ρ2=>v8 src tg body m (i+1) ρ2
    | .bk ρ2=>ret (.nx ρ2)
    | .rt d=>ret (.rt d)) S
section
variable {X:Cx} {cl:Nat->Addr} {xe:Addr->Hp->Prop} {iter tgt:Expr} {pos:Pos} {fi:Env->M (Src×Nat)} {tg:D->Env->Option Env} {g:Env->M Fl} {body:List Stmt}
theorem b5y (hp:PassesOwn (model X.prog X.w) X.A X.env X.xe) (hc:X.calm=true) (hi:PI X tgt iter (tIt X.K cl xe fi)) (hg:PG X tgt (b5e X.K cl tg)) (hb:PSs X body (sD X.K cl xe g)) (hn:u0 iter=true) :
  PS X (.For tgt iter body [] pos) (sD X.K cl xe λρ=>bind (fi ρ) λp=>v8 p.1 tg g p.2 0 ρ):=PS.imp (b96 hp hc hi hg hb (E9 hn)) λD σ H ⟨μ,S,ρ,eo,rp,p⟩=>by
 refine ⟨μ,S,ρ,eo,rp,p.bind.imp λsm S1 μ1 H1 l1 r1 p1 J yl=>?_⟩
 obtain ⟨src,m⟩:=sm
 refine ⟨λi m σ H=>∃ μ2 S2 ρ2,LatR μ1 H1 μ2 H/\EnvOk X.K μ2 H ρ2 σ/\Rep X.K cl μ2 S2 H/\Post X.K cl xe μ2 H (v8 src tg g m i ρ2 S2) (λfl _ μ' H'=>b9o X.K D fl μ' H'),⟨m,μ1,S1,ρ,(Lat.refl _ _).r,eo.later l1,r1,p1⟩,?_⟩
 rintro i m σ2 H2 ⟨μ2,S2,ρ2,l2,eo2,r2,p2⟩
 cases m with
 | zero=>exact p2.elim
 | succ m=>
  have y:Y1 X.K cl J i μ2 H2 S2 (src i S2):=yl i μ2 H2 S2 l2.u r2
  simp only [v8] at p2
  cases e1:src i S2 with
  | none=>rw [e1] at p2;exact p2.elim
  | some o=>
   rw [e1] at p2 y
   cases o with
   | none=>exact .inl ⟨y,p2 μ2 H2 (Lat.refl _ _) r2 σ2 eo2⟩
   | some d=>
    obtain ⟨y1,y2⟩:=y
    cases e2:tg d ρ2 with
    | none=>simp only [e2] at p2;exact p2.elim
    | some ρ3=>
     simp only [e2] at p2
     refine .inr ⟨y1,λσ' H'=>∃ μ3 S3 ρ4,LatR μ1 H1 μ3 H'/\EnvOk X.K μ3 H' ρ4 σ'/\Rep X.K cl μ3 S3 H'/\Post X.K cl xe μ3 H' (v8 src tg g m (i+1) ρ4 S3) (λfl _ μ' H'=>b9o X.K D fl μ' H'),λσ' H' q=>⟨m,Nat.lt_succ_self _,q⟩,λx H3 hy=>?_⟩
     obtain ⟨l3,r3,rd3⟩:=y2 x H3 hy
     refine ⟨μ2,S2,ρ2,d,ρ3,eo2.later l3,r3,rd3,e2,λσ3 eo3=>?_⟩
     refine ⟨μ2,S2,ρ3,eo3,r3,(Post.later p2 l3).bind.imp λfl S4 μ4 H4 l4 r4 p4=>?_⟩
     have lr:LatR μ1 H1 μ4 H4:=by
      have l34:=l3.trans l4
      refine ⟨λn a e=>l34.pre n a (l2.pre n a e),λa o e n=>l34.oth a o (l2.oth a o e n) (λz=>(l2.new a z).elim n (λq=>by rw [e] at q;cases q)),λa m=>(l34.new a m).elim (λz=>l2.new a z) (λz=>?_),λa m=>l2.rsw a (by rw [<- l34.rsv];exact m)⟩
      by_cases mm:a∈μ1.pl
      ·exact .inl mm
      ·right
       cases e:H1 a with
       | none=>rfl
       | some o=>rw [l2.oth a o e mm] at z;cases z
     cases fl with
     | nx ρ4=>exact λσ4 eo4=>⟨μ4,S4,ρ4,lr,eo4,r4,p4⟩
     | ct ρ4=>exact λσ4 eo4=>⟨μ4,S4,ρ4,lr,eo4,r4,p4⟩
     | bk ρ4=>exact p4.ret μ4 H4 (Lat.refl _ _) r4
     | rt d=>exact p4.ret μ4 H4 (Lat.refl _ _) r4
end
structure HLat (μ:Mp) (H:Hp) (p:Addr) (μ2:Mp) (H2:Hp):Prop where
 r:LatR μ H μ2 H2
 rs:μ2.rs=p :: μ.rs
theorem HLat.lat {μ μ2 μ':Mp} {H H2 H':Hp} {p:Addr} (h:HLat μ H p μ2 H2) (l:Lat μ2 H2 μ' H'):Lat μ H μ'.free H':=by
 refine ⟨λn a e=>l.pre n a (h.r.pre n a e),λa o e n=>?_,λa m=>?_,by show μ'.rs.tail=μ.rs;rw [l.rsv,h.rs];rfl⟩
 ·have n2:a∉μ2.pl:=λz=>(h.r.new a z).elim n λq=>by rw [e] at q;cases q
  exact l.oth a o (h.r.oth a o e n) n2
 ·rcases l.new a m with q | q
  ·exact h.r.new a q
  ·by_cases mm:a∈μ.pl
   ·exact .inl mm
   ·right
    cases e:H a with
    | none=>rfl
    | some o=>rw [h.r.oth a o e mm] at q;cases q
theorem HLat.step {μ μ2 μ3:Mp} {H H2 H3:Hp} {p:Addr} (h:HLat μ H p μ2 H2) (l:Lat μ2 H2 μ3 H3):HLat μ H p μ3 H3:=by
 have k:=h.lat l
 refine ⟨⟨k.pre,k.oth,k.new,λa m=>h.r.rsw a (by rw [<- l.rsv];exact m)⟩,by rw [l.rsv];exact h.rs⟩
section
variable {K:PySem.W.Frag} {cl:Nat->Addr} {xe:Addr->Hp->Prop} {α β:Type} {μ μ2:Mp} {H H2:Hp} {p:Addr} {S:Sto}
theorem Post.at {m:M α} {k:α->M β} {G:β->Sto->Mp->Hp->Prop} (h:Post K cl xe μ H (L3.bind m k S) G) (l:HLat μ H p μ2 H2):Post K cl xe μ2 H2 (m S) (λa S' _ _=>Post K cl xe μ H (k a S') G):=by
 unfold L3.bind at h
 cases e:m S with
 | ok a S1=>rw [e] at h;exact λ_ _ _ _=>h
 | exn n S1=>rw [e] at h;exact λμ' H' a k r q=>h μ'.free H' a (l.lat k) (X1 r) q
 | bad=>rw [e] at h;exact h
end
noncomputable def v6 (src:Src) (t:Env->M Bool) (f:Env->M D) (mk:D->Env):Nat->Nat->List D->M (List D)
 | 0,_,_=>bad
 | m+1,i,es=>λS=>match src i S with
  | none=>.bad
  | some none=>.ok es S
  | some (some d)=>bind (t (mk d)) (λb=>if b=true then bind (f (mk d)) (λy=>if es.length<sizeLine then v6 src t f mk m (i+1) (es++[y]) else bad) else v6 src t f mk m (i+1) es) S
noncomputable def q9 (caps:List Nat) (ρ:Env):Env:=caps.map λi=>(ρ[i]?).join
theorem T5 {K:PySem.W.Frag} {μ:Mp} {H:Hp} {ρ:Env} {σ:L2.St} {caps:List Nat} {d:D} {x:V} (eo:EnvOk K μ H ρ σ) (r:RD K μ H d x):EnvOk K μ H (some d :: q9 caps ρ) (some x :: s0 caps σ):=by
 refine ⟨by simp [q9,s0],λi e he=>?_⟩
 cases i with
 | zero=>simp at he;subst he;exact ⟨x,rfl,r⟩
 | succ j=>
  have he:(q9 caps ρ)[j]?=some (some e):=he
  unfold q9 at he
  rw [List.getElem?_map] at he
  cases q:caps[j]? with
  | none=>rw [q] at he;cases he
  | some i=>
   rw [q] at he
   have h':(ρ[i]?).join=some e:=Option.some.inj he
   have h2:ρ[i]?=some (some e):=by
    cases q2:ρ[i]? with
    | none=>rw [q2] at h';cases h'
    | some o=>rw [q2] at h';exact congrArg some h'
   obtain ⟨v,e1,r1⟩:=eo.2 i e h2
   refine ⟨v,?_,r1⟩
   show (s0 caps σ)[j]?=_
   unfold s0
   rw [List.getElem?_map,q]
   show some (σ[i]?).join=_
   rw [e1];rfl
noncomputable def a57 (caps:List Nat) (fi:Env->M (Src×Nat)) (t:Env->M Bool) (f:Env->M D) (ρ:Env):M (List D):=bind (fi ρ) λsm=>v6 sm.1 t f (λd=>some d :: q9 caps ρ) sm.2 0 []
theorem a4l {K:PySem.W.Frag} {cl:Nat->Addr} {xe:Addr->Hp->Prop} {caps:List Nat} {fi:Env->M (Src×Nat)} {t:Env->M Bool} {f:Env->M D} {σ:L2.St} {H:Hp} {μ:Mp} {S:Sto} {ρ:Env} {Q:VK} (eo:EnvOk K μ H ρ σ) (rp:Rep K cl μ S H)
  (p:Post K cl xe μ H (a57 caps fi t f ρ S) λds _ μ' H'=>∀ acc ys,LstAt μ' H' acc ys->RDs K μ' H' ds ys->Q (.ref acc) H'):b57 caps (tIt K cl xe fi) (tBo K cl xe t) (tD K cl xe f) σ H Q:=by
 refine ⟨μ,S,ρ,eo,rp,p.bind.imp λsm S1 μ1 H1 l1 r1 p1 J yl acc hacc=>?_⟩
 obtain ⟨src,m0⟩:=sm
 have nrs:acc∉μ1.rs:=r1.notrs hacc
 refine ⟨λi m ys H2=>∃ μ2 S2 es,HLat μ1 H1 acc μ2 H2/\acc∉μ2.pl/\H2 acc=some (.lst ys)/\EnvOk K μ2 H2 ρ σ/\Rep K cl μ2 S2 H2/\RDs K μ2 H2 es ys/\Post K cl xe μ1 H1 (v6 src t f (λd=>some d :: q9 caps ρ) m i es S2) (λds _ μ' H'=>∀ acc ys,LstAt μ' H' acc ys->RDs K μ' H' ds ys->Q (.ref acc) H'),⟨m0,μ1.hold acc,S1,[],?_,r1.notin hacc,b9,a3n r1 hacc (eo.later l1),a31 r1 hacc,.nil,p1⟩,?_⟩
 ·refine ⟨⟨λ_ _ e=>e,λa o e _=>by rw [a4 (b7 e hacc)];exact e,λa m=>.inl m,λa m=>?_⟩,rfl⟩
  rcases List.mem_cons.mp (show a∈acc :: μ1.rs from m) with rfl | m
  ·exact .inr hacc
  ·exact .inl m
 rintro i m ys H2 ⟨μ2,S2,es,hl,npl,e2,eo2,r2,rds2,p2⟩
 refine ⟨e2,?_⟩
 cases m with
 | zero=>exact p2.elim
 | succ m=>
  have y:Y1 K cl J i μ2 H2 S2 (src i S2):=yl i μ2 H2 S2 hl.r.u r2
  simp only [v6] at p2
  cases e1:src i S2 with
  | none=>rw [e1] at p2;exact p2.elim
  | some o=>
   rw [e1] at p2 y
   cases o with
   | none=>
    refine .inl ⟨y,p2 μ2.free H2 (hl.lat (Lat.refl _ _)) (X1 r2) acc ys ⟨e2,npl,?_⟩ (a3i rds2)⟩
    show acc∉μ2.rs.tail
    rw [hl.rs];exact nrs
   | some d=>
    obtain ⟨y1,y2⟩:=y
    refine .inr ⟨y1,λx H3 hy=>?_⟩
    obtain ⟨l3,r3,rd3⟩:=y2 x H3 hy
    have h3:=hl.step l3
    refine ⟨μ2,S2,_,T5 (eo2.later l3) rd3,r3,(Post.at p2 h3).imp λb S5 μ5 H5 l5 r5 p5=>?_⟩
    have h5:=h3.step l5
    have l35:=l3.trans l5
    have a5:H5 acc=some (.lst ys):=l35.oth _ _ e2 npl
    have n5:acc∉μ5.pl:=l35.out e2 npl
    cases b with
    | false=>exact ⟨m,Nat.lt_succ_self _,μ5,S5,es,h5,n5,a5,eo2.later l35,r5,rds2.later l35,p5⟩
    | true=>
     refine b9x ?_
     rw [if_pos rfl] at p5
     refine ⟨μ5,S5,_,(T5 (eo2.later l3) rd3).later l5,r5,(Post.at p5 h5).imp λyv S6 μ6 H6 l6 r6 p6 v rv=>?_⟩
     have h6:=h5.step l6
     have l36:=l35.trans l6
     have a6:H6 acc=some (.lst ys):=l6.oth _ _ a5 n5
     have n6:acc∉μ6.pl:=l6.out a5 n5
     by_cases hz:es.length<sizeLine
     ·rw [if_pos hz] at p6
      have er:μ6.rs=acc :: μ1.rs:=h6.rs
      refine ⟨a6,by rw [<- rds2.length];exact hz,m,Nat.lt_succ_self _,μ6,S6,es++[yv],?_,n6,b9,?_,a0l er a6 r6,a0i er ((rds2.later l36).append (.cons rv .nil)),p6⟩
      ·refine ⟨⟨h6.r.pre,λa o e n=>?_,h6.r.new,h6.r.rsw⟩,er⟩
       rw [a4 (b7 e hacc)]
       exact h6.r.oth a o e n
      ·have eo6:=eo2.later l36
       exact ⟨eo6.1,λj e he=>let ⟨w,q,r⟩:=eo6.2 j e he;⟨w,q,W8 er r⟩⟩
     ·rw [if_neg hz] at p6;exact p6.elim
section
variable {X:Cx} {cl:Nat->Addr} {xe:Addr->Hp->Prop} {elt iter:Expr} {x:Str} {px pos:Pos} {ifs:List Expr} {scope:Scope} {N':List Str} {caps:List Nat} {fi:Env->M (Src×Nat)} {t:Env->M Bool} {f:Env->M D}
theorem a73 {X:Cx}:PTL X [] (tBo X.K cl xe λ_=>ret true):=λpins s σ H Q I ⟨μ,S,ρ,eo,rp,p⟩=>b5q pins s σ H Q I (p μ H (Lat.refl _ _) rp)
theorem a91 (T:CompText X.N X.env N' 1 caps scope) (hc:X.calm=true) (hN:N'.Nodup) (hx0:N'[0]?=some x) (hxl:scope.names.lookup x=some .local) (hi:PI X (.Name x px) iter (tIt X.K cl xe fi))
  (ht:∀ pins C fp s H,PTL (a8 X pins N' scope C fp s H) ifs (tBo X.K cl xe t)) (he:∀ pins C fp s H,PE (a8 X pins N' scope C fp s H) elt (tD X.K cl xe f)) (hn:u0 iter=true) :
  PE X (.ListComp elt [⟨.Name x px,iter,ifs,0⟩] scope pos) (λσ H Q=>∃ μ S ρ,EnvOk X.K μ H ρ σ/\Rep X.K cl μ S H/\Post X.K cl xe μ H (a57 caps fi t f ρ S) λds _ μ' H'=>∀ acc ys,LstAt μ' H' acc ys->RDs X.K μ' H' ds ys->Q (.ref acc) H'):=
 PE.imp (b51 T hc hN hx0 hxl hi ht he (E9 hn)) λσ H Q ⟨μ,S,ρ,eo,rp,p⟩=>a4l eo rp p
end
def b6c (K:PySem.W.Frag) (cl:Nat->Addr) (xe:Addr->Hp->Prop) (fs:Env->M (List D)):TE:=λσ H Q=>∃ μ S ρ,EnvOk K μ H ρ σ/\Rep K cl μ S H/\Post K cl xe μ H (fs ρ S) λds _ μ' H'=>∀ acc ys,LstAt μ' H' acc ys->RDs K μ' H' ds ys->Q (.ref acc) H'
theorem b53 {α β γ:Type} (m:M α) (k:α->M β) (k2:β->M γ):bind (bind m k) k2=bind m λa=>bind (k a) k2:=by
 funext S
 unfold bind
 cases m S <;> rfl
theorem c17 {α β:Type} {m m':M α} {k:α->M β} {S:Sto} (h:m S=m' S):bind m k S=bind m' k S:=by
 unfold bind;rw [h]
noncomputable def u8 (src:Src) (t:Env->M Bool) (fi1:Env->M (Src×Nat)) (t1:Env->M Bool) (f:Env->M D) (cap:Env):Nat->Nat->List D->M (List D)
 | 0,_,_=>bad
 | m+1,i,es=>λS=>match src i S with
  | none=>.bad
  | some none=>.ok es S
  | some (some d)=>bind (t (some d :: none :: cap)) (λb=>if b=true then bind (fi1 (some d :: none :: cap)) (λsm=>bind (v6 sm.1 t1 f (λd2=>some d :: some d2 :: cap) sm.2 0 es) (λes'=>u8 src t fi1 t1 f cap m (i+1) es')) else u8 src t fi1 t1 f cap m (i+1) es) S
theorem b6f {K:PySem.W.Frag} {μ:Mp} {H:Hp} {ρ:Env} {σ:L2.St} {caps:List Nat} {d:D} {x:V} (eo:EnvOk K μ H ρ σ) (r:RD K μ H d x):EnvOk K μ H (some d :: none :: q9 caps ρ) (some x :: none :: s0 caps σ):=by
 have h:=T5 (caps:=caps) eo r
 refine ⟨by have:=h.1;simp at this ⊢;exact this,λi e he=>?_⟩
 match i with
 | 0=>exact h.2 0 e he
 | 1=>simp at he
 | i+2=>exact h.2 (i+1) e he
theorem b6i {K:PySem.W.Frag} {μ:Mp} {H:Hp} {ρ:Env} {σ:L2.St} {caps:List Nat} {d d2:D} {x y:V} (eo:EnvOk K μ H ρ σ) (r:RD K μ H d x) (r2:RD K μ H d2 y):EnvOk K μ H (some d :: some d2 :: q9 caps ρ) (some x :: some y :: s0 caps σ):=by
 have h:=T5 (caps:=caps) eo r
 refine ⟨by have:=h.1;simp at this ⊢;exact this,λi e he=>?_⟩
 match i with
 | 0=>exact h.2 0 e he
 | 1=>simp at he;subst he;exact ⟨y,rfl,r2⟩
 | i+2=>exact h.2 (i+1) e he
noncomputable def a1f (caps:List Nat) (fi:Env->M (Src×Nat)) (t:Env->M Bool) (fi1:Env->M (Src×Nat)) (t1:Env->M Bool) (f:Env->M D) (ρ:Env):M (List D):=bind (fi ρ) λsm=>u8 sm.1 t fi1 t1 f (q9 caps ρ) sm.2 0 []
theorem a2r {K:PySem.W.Frag} {cl:Nat->Addr} {xe:Addr->Hp->Prop} {caps:List Nat} {fi fi1:Env->M (Src×Nat)} {t t1:Env->M Bool} {f:Env->M D} {σ:L2.St} {H:Hp} {μ:Mp} {S:Sto} {ρ:Env} {Q:VK} (eo:EnvOk K μ H ρ σ) (rp:Rep K cl μ S H)
  (p:Post K cl xe μ H (a1f caps fi t fi1 t1 f ρ S) λds _ μ' H'=>∀ acc ys,LstAt μ' H' acc ys->RDs K μ' H' ds ys->Q (.ref acc) H'):b01 caps (tIt K cl xe fi) (tBo K cl xe t) (tIt K cl xe fi1) (tBo K cl xe t1) (tD K cl xe f) σ H Q:=by
 refine ⟨μ,S,ρ,eo,rp,p.bind.imp λsm S1 μ1 H1 l1 r1 p1 J yl acc hacc=>?_⟩
 obtain ⟨src,m0⟩:=sm
 have nrs:acc∉μ1.rs:=r1.notrs hacc
 refine ⟨λi m ys H2=>∃ μ2 S2 es,HLat μ1 H1 acc μ2 H2/\acc∉μ2.pl/\H2 acc=some (.lst ys)/\EnvOk K μ2 H2 ρ σ/\Rep K cl μ2 S2 H2/\RDs K μ2 H2 es ys/\Post K cl xe μ1 H1 (u8 src t fi1 t1 f (q9 caps ρ) m i es S2) (λds _ μ' H'=>∀ acc ys,LstAt μ' H' acc ys->RDs K μ' H' ds ys->Q (.ref acc) H'),⟨m0,μ1.hold acc,S1,[],?_,r1.notin hacc,b9,a3n r1 hacc (eo.later l1),a31 r1 hacc,.nil,p1⟩,?_⟩
 ·refine ⟨⟨λ_ _ e=>e,λa o e _=>by rw [a4 (b7 e hacc)];exact e,λa m=>.inl m,λa m=>?_⟩,rfl⟩
  rcases List.mem_cons.mp (show a∈acc :: μ1.rs from m) with rfl | m
  ·exact .inr hacc
  ·exact .inl m
 rintro i m ys H2 ⟨μ2,S2,es,hl,npl,e2,eo2,r2,rds2,p2⟩
 refine ⟨e2,?_⟩
 cases m with
 | zero=>exact p2.elim
 | succ m=>
  have y:Y1 K cl J i μ2 H2 S2 (src i S2):=yl i μ2 H2 S2 hl.r.u r2
  simp only [u8] at p2
  cases e1:src i S2 with
  | none=>rw [e1] at p2;exact p2.elim
  | some o=>
   rw [e1] at p2 y
   cases o with
   | none=>
    refine .inl ⟨y,p2 μ2.free H2 (hl.lat (Lat.refl _ _)) (X1 r2) acc ys ⟨e2,npl,?_⟩ (a3i rds2)⟩
    show acc∉μ2.rs.tail
    rw [hl.rs];exact nrs
   | some d=>
    obtain ⟨y1,y2⟩:=y
    refine .inr ⟨y1,λx H3 hy=>?_⟩
    obtain ⟨l3,r3,rd3⟩:=y2 x H3 hy
    have h3:=hl.step l3
    refine ⟨μ2,S2,_,b6f (eo2.later l3) rd3,r3,(Post.at p2 h3).imp λb S5 μ5 H5 l5 r5 p5=>?_⟩
    have h5:=h3.step l5
    have l35:=l3.trans l5
    have a5:H5 acc=some (.lst ys):=l35.oth _ _ e2 npl
    have n5:acc∉μ5.pl:=l35.out e2 npl
    cases b with
    | false=>exact ⟨m,Nat.lt_succ_self _,μ5,S5,es,h5,n5,a5,eo2.later l35,r5,rds2.later l35,p5⟩
    | true=>
     refine b9x ?_
     rw [if_pos rfl] at p5
     refine ⟨μ5,S5,_,(b6f (eo2.later l3) rd3).later l5,r5,(Post.at p5 h5).imp λsm S6 μ6 H6 l6 r6 p6 J1 yl1=>?_⟩
     obtain ⟨src1,m1⟩:=sm
     have h6:=h5.step l6
     have l36:=l35.trans l6
     have a6:H6 acc=some (.lst ys):=l6.oth _ _ a5 n5
     have n6:acc∉μ6.pl:=l6.out a5 n5
     refine ⟨λj m1 zs H7=>∃ μ7 S7 es7,HLat μ1 H1 acc μ7 H7/\LatU μ6 H6 μ7 H7/\acc∉μ7.pl/\H7 acc=some (.lst zs)/\EnvOk K μ7 H7 ρ σ/\Rep K cl μ7 S7 H7/\RDs K μ7 H7 es7 zs/\RD K μ7 H7 d x /\
      Post K cl xe μ1 H1 (bind (v6 src1 t1 f (λd2=>some d :: some d2 :: q9 caps ρ) m1 j es7) (λes'=>u8 src t fi1 t1 f (q9 caps ρ) m (i+1) es') S7) (λds _ μ' H'=>∀ acc ys,LstAt μ' H' acc ys->RDs K μ' H' ds ys->Q (.ref acc) H'),
      ⟨m1,μ6,S6,es,h6,(Lat.refl _ _).r.u,n6,a6,eo2.later l36,r6,rds2.later l36,(rd3.later l5).later l6,p6⟩,?_⟩
     rintro j m1 zs H7 ⟨μ7,S7,es7,h7,u7,n7,a7,eo7,r7,rds7,rd7,p7⟩
     refine ⟨a7,?_⟩
     cases m1 with
     | zero=>exact p7.elim
     | succ m1=>
      have z:Y1 K cl J1 j μ7 H7 S7 (src1 j S7):=yl1 j μ7 H7 S7 u7 r7
      cases f1:src1 j S7 with
      | none=>
       have:bind (v6 src1 t1 f (λd2=>some d :: some d2 :: q9 caps ρ) (m1+1) j es7) (λes'=>u8 src t fi1 t1 f (q9 caps ρ) m (i+1) es') S7=.bad:=by
        unfold bind;simp only [v6,f1]
       rw [this] at p7;exact p7.elim
      | some o=>
       rw [f1] at z
       cases o with
       | none=>
        have:bind (v6 src1 t1 f (λd2=>some d :: some d2 :: q9 caps ρ) (m1+1) j es7) (λes'=>u8 src t fi1 t1 f (q9 caps ρ) m (i+1) es') S7=u8 src t fi1 t1 f (q9 caps ρ) m (i+1) es7 S7:=by
         conv=>lhs;unfold bind
         simp only [v6,f1]
        rw [this] at p7
        exact .inl ⟨z,m,Nat.lt_succ_self _,μ7,S7,es7,h7,n7,a7,eo7,r7,rds7,p7⟩
       | some d2=>
        have un:bind (v6 src1 t1 f (λd2=>some d :: some d2 :: q9 caps ρ) (m1+1) j es7) (λes'=>u8 src t fi1 t1 f (q9 caps ρ) m (i+1) es') S7 =
          bind (t1 (some d :: some d2 :: q9 caps ρ)) (λb=>bind (if b=true then bind (f (some d :: some d2 :: q9 caps ρ)) (λy=>if es7.length<sizeLine then v6 src1 t1 f (λd2=>some d :: some d2 :: q9 caps ρ) m1 (j+1) (es7++[y]) else bad) else v6 src1 t1 f (λd2=>some d :: some d2 :: q9 caps ρ) m1 (j+1) es7) (λes'=>u8 src t fi1 t1 f (q9 caps ρ) m (i+1) es')) S7:=by
         rw [<- b53]
         exact c17 (by simp only [v6,f1])
        rw [un] at p7
        obtain ⟨z1,z2⟩:=z
        refine .inr ⟨z1,λyv H8 hy2=>?_⟩
        obtain ⟨l8,r8,rd8⟩:=z2 yv H8 hy2
        have h8:=h7.step l8
        have rdx:=rd7.later l8
        refine ⟨μ7,S7,_,b6i (eo7.later l8) rdx rd8,r8,(Post.at p7 h8).imp λb2 S9 μ9 H9 l9 r9 p9=>?_⟩
        have h9:=h8.step l9
        have l89:=l8.trans l9
        have a9:H9 acc=some (.lst zs):=l89.oth _ _ a7 n7
        have n9:acc∉μ9.pl:=l89.out a7 n7
        have ustep:∀ {μx:Mp} {Hx:Hp},Lat μ7 H7 μx Hx->LatU μ6 H6 μx Hx:=λ{μx Hx} l=>by
         refine ⟨λn a e=>l.pre n a (u7.pre n a e),λa o e n1 n2=>?_,λa mm=>?_,λa mm=>?_⟩
         ·obtain ⟨q1,q2,q3⟩:=u7.out a o e n1 n2
          exact l.oth a o q1 q2
         ·rcases l.new a mm with q | q
          ·exact u7.new a q
          ·by_cases n1:a∈μ6.pl
           ·exact .inl n1
           ·by_cases n2:a∈μ6.rs
            ·exfalso
             obtain ⟨_,w,hw⟩:=r7.res a (by rw [h7.rs,<- h6.rs];exact n2)
             rw [hw] at q;cases q
            ·right
             cases e:H6 a with
             | none=>rfl
             | some o=>rw [(u7.out a o e n1 n2).1] at q;cases q
         ·exact u7.rsw a (by rw [<- l.rsv];exact mm)
        cases b2 with
        | false=>exact ⟨m1,Nat.lt_succ_self _,μ9,S9,es7,h9,ustep l89,n9,a9,eo7.later l89,r9,rds7.later l89,rd7.later l89,p9⟩
        | true=>
         refine b9x ?_
         rw [if_pos rfl] at p9
         rw [b53] at p9
         refine ⟨μ9,S9,_,(b6i (eo7.later l8) rdx rd8).later l9,r9,(Post.at p9 h9).imp λyy S10 μ10 H10 l10 r10 p10 v rv=>?_⟩
         have h10:=h9.step l10
         have l810:=l89.trans l10
         have a10:H10 acc=some (.lst zs):=l10.oth _ _ a9 n9
         have n10:acc∉μ10.pl:=l10.out a9 n9
         by_cases hz:es7.length<sizeLine
         ·rw [if_pos hz] at p10
          have er:μ10.rs=acc :: μ1.rs:=h10.rs
          have u10:=ustep l810
          refine ⟨a10,by rw [<- rds7.length];exact hz,m1,Nat.lt_succ_self _,μ10,S10,es7++[yy],?_,?_,n10,b9,?_,a0l er a10 r10,a0i er ((rds7.later l810).append (.cons rv .nil)),W8 er (rd7.later l810),p10⟩
          ·refine ⟨⟨h10.r.pre,λa o e n=>?_,h10.r.new,h10.r.rsw⟩,er⟩
           rw [a4 (b7 e hacc)]
           exact h10.r.oth a o e n
          ·refine ⟨u10.pre,λa o e n1 n2=>?_,u10.new,u10.rsw⟩
           have:a≠acc:=λq=>n2 (by rw [h6.rs,q];exact List.mem_cons_self ..)
           rw [a4 this]
           exact u10.oth a o e n1 n2
          ·have eo6:=eo7.later l810
           exact ⟨eo6.1,λj e he=>let ⟨w,q,r⟩:=eo6.2 j e he;⟨w,q,W8 er r⟩⟩
         ·rw [if_neg hz] at p10;exact p10.elim
section
variable {X:Cx} {cl:Nat->Addr} {xe:Addr->Hp->Prop} {elt iter iter2:Expr} {x y:Str} {px py pos:Pos} {ifs ifs2:List Expr} {scope:Scope} {N':List Str} {caps:List Nat} {fi fi1:Env->M (Src×Nat)} {t t1:Env->M Bool} {f:Env->M D}
theorem a7z (T:CompText X.N X.env N' 2 caps scope) (hc:X.calm=true) (hN:N'.Nodup) (hx0:N'[0]?=some x) (hy0:N'[1]?=some y) (hxl:scope.names.lookup x=some .local) (hyl:scope.names.lookup y=some .local) (hi:PI X (.Name x px) iter (tIt X.K cl xe fi))
  (ht:∀ pins C fp s H,PTL (a8 X pins N' scope C fp s H) ifs (tBo X.K cl xe t)) (hi1:∀ pins C fp s H,PI (a8 X pins N' scope C fp s H) (.Name y py) iter2 (tIt X.K cl xe fi1)) (ht1:∀ pins C fp s H,PTL (a8 X pins N' scope C fp s H) ifs2 (tBo X.K cl xe t1))
  (he:∀ pins C fp s H,PE (a8 X pins N' scope C fp s H) elt (tD X.K cl xe f)) (hn:u0 iter=true) (hn2:u0 iter2=true) :
  PE X (.ListComp elt [⟨.Name x px,iter,ifs,0⟩,⟨.Name y py,iter2,ifs2,0⟩] scope pos) (b6c X.K cl xe (a1f caps fi t fi1 t1 f)):=
 PE.imp (b19 T hc hN hx0 hy0 hxl hyl hi ht hi1 ht1 he (E9 hn) (λ_=>E9 hn2)) λσ H Q ⟨μ,S,ρ,eo,rp,p⟩=>a2r eo rp p
end
noncomputable def i8 (d:D):M Bool:=match d with
 | .non=>ret false
 | .bl b=>ret b
 | .int i=>ret (i != 0)
 | .str x=>if x.length<=sizeLine then ret ((x.length:Int) != 0) else bad
 | .ref n=>λS=>match S[n]? with
  | some (.lst ds)=>.ok (!ds.isEmpty) S
  | some (.dct kvs)=>.ok (!kvs.isEmpty) S
  | _=>.bad
 | d=>bind (u3 d) λds=>ret (!ds.isEmpty)
section
variable {K:PySem.W.Frag} {cl:Nat->Addr} {xe:Addr->Hp->Prop} {μ:Mp} {H:Hp} {S:Sto}
theorem G1 {ds:List D} {vs:List V} (r:RDs K μ H ds vs):ds.isEmpty=vs.isEmpty:=by cases r <;> rfl
theorem R8 {d:D} {v:V} {G:Bool->Sto->Mp->Hp->Prop} (rd:RD K μ H d v) (rp:Rep K cl μ S H) (p:Post K cl xe μ H (i8 d S) G):∃ k,a7i K v H k/\G k S μ H:=by
 cases rd with
 | non=>exact ⟨_,rfl,p μ H (Lat.refl _ _) rp⟩
 | bl b=>exact ⟨_,rfl,p μ H (Lat.refl _ _) rp⟩
 | int i=>exact ⟨_,rfl,p μ H (Lat.refl _ _) rp⟩
 | str x=>
  obtain ⟨hl,p⟩:=Post.guard p
  exact ⟨_,⟨hl,rfl⟩,p μ H (Lat.refl _ _) rp⟩
 | tup h r=>exact ⟨_,.inr (.inl ⟨_,h.sq,by rw [<- G1 r]⟩),p μ H (Lat.refl _ _) rp⟩
 | lst h r=>exact ⟨_,.inl ⟨_,h.sq,by rw [<- G1 r]⟩,p μ H (Lat.refl _ _) rp⟩
 | scr h r=>exact ⟨_,.inl ⟨_,h.sq,by rw [<- G1 r]⟩,p μ H (Lat.refl _ _) rp⟩
 | ref h=>
  rename_i n a
  simp only [i8] at p
  cases q1:S[n]? with
  | none=>rw [q1] at p;exact p.elim
  | some o=>
   rw [q1] at p
   cases o with
   | lst ds=>
    obtain ⟨xs,h1,h2⟩:=rp.ats n _ a q1 h
    exact ⟨_,.inl ⟨xs,.inl (.inl h1),by rw [<- G1 h2]⟩,p μ H (Lat.refl _ _) rp⟩
   | dct kvs=>
    obtain ⟨ks,h1,h2⟩:=rp.ats n _ a q1 h
    refine ⟨_,.inr (.inr ⟨ks,h1,rfl⟩),?_⟩
    have e:kvs.isEmpty=ks.isEmpty:=by cases h2 <;> rfl
    rw [<- e]
    exact p μ H (Lat.refl _ _) rp
   | exc _ _=>exact p.elim
end
section
variable {X:Cx} {cl:Nat->Addr} {xe:Addr->Hp->Prop} {a b e:Expr} {es rest:List Expr} {pos:Pos} {f g:Env->M D}
theorem a84 (h:PE X a (tD X.K cl xe f)) (ht:B5 a=true):PT X a (tBo X.K cl xe λρ=>bind (f ρ) i8):=PT.imp (b0f h (test_of ht)) λσ H Q ⟨μ,S,ρ,eo,rp,p⟩=>
 ⟨μ,S,ρ,eo,rp,p.bind.imp λd S1 μ1 H1 l1 r1 p1 v rv=>R8 rv r1 p1⟩
theorem b7u (h:PE X a (tD X.K cl xe f)):PE X (.UnaryOp .Not a pos) (tD X.K cl xe λρ=>bind (f ρ) λd=>bind (i8 d) λk=>ret (.bl (!k))):=by
 intro pins s σ H Q I ⟨μ,S,ρ,eo,rp,p⟩
 refine UnaryOp_ (thn (h pins s σ H (λv H1=>∃ k,a7i X.K v H1 k/\Q (.bl (!k)) H1) I ⟨μ,S,ρ,eo,rp,p.bind.imp λd S1 μ1 H1 l1 r1 p1 v rv=>let ⟨k,tv,q⟩:=R8 rv r1 p1.bind;⟨k,tv,q μ1 H1 (Lat.refl _ _) r1 _ (.bl _)⟩⟩) λv s1 ⟨x,H1,I1,rx,k,tv,q⟩=>?_)
 exact not_of (thn (a1g pins s1 σ H1 x v (λk' H'=>k'=k/\H'=H1) I1 rx ⟨k,tv,rfl,rfl⟩) λc s2 ⟨H2,I2,e1,e2⟩=>by
  subst e1 e2
  exact ⟨.bl (!c),H2,I2,rfl,q⟩)
theorem b1k {op:BoolOp} (h:PE X a (tD X.K cl xe f)):PE X (.BoolOp op [a] pos) (tD X.K cl xe f):=b89 h
theorem b7p (h:PE X a (tD X.K cl xe f)) (k:PE X (.BoolOp .And (b :: rest) pos) (tD X.K cl xe g)):PE X (.BoolOp .And (a :: b :: rest) pos) (tD X.K cl xe λρ=>bind (f ρ) λd=>bind (i8 d) λq=>if q=true then g ρ else ret d):=by
 intro pins s σ H Q I ⟨μ,S,ρ,eo,rp,p⟩
 refine BoolOp_and (thn (h pins s σ H (λv H1=>∃ c,a7i X.K v H1 c/\if c=true then tD X.K cl xe g σ H1 Q else Q v H1) I ⟨μ,S,ρ,eo,rp,p.bind.imp λd S1 μ1 H1 l1 r1 p1 v rv=>?_⟩) λv s1 ⟨x,H1,I1,rx,c,tv,q⟩=>?_)
 ·obtain ⟨c,tv,q⟩:=R8 rv r1 p1.bind
  refine ⟨c,tv,?_⟩
  cases c with
  | true=>exact ⟨μ1,S1,ρ,eo.later l1,r1,q⟩
  | false=>exact q μ1 H1 (Lat.refl _ _) r1 _ rv
 ·refine thn (a1g pins s1 σ H1 x v (λk' H'=>k'=c/\H'=H1) I1 rx ⟨c,tv,rfl,rfl⟩) λc' s2 ⟨H2,I2,e1,e2⟩=>?_
  subst e1 e2
  cases c' with
  | true=>exact k pins s2 σ H2 Q I2 q
  | false=>exact ⟨x,H2,I2,rx,q⟩
theorem c0g (h:PE X a (tD X.K cl xe f)) (k:PE X (.BoolOp .Or (b :: rest) pos) (tD X.K cl xe g)):PE X (.BoolOp .Or (a :: b :: rest) pos) (tD X.K cl xe λρ=>bind (f ρ) λd=>bind (i8 d) λq=>if q=true then ret d else g ρ):=by
 intro pins s σ H Q I ⟨μ,S,ρ,eo,rp,p⟩
 refine BoolOp_or (thn (h pins s σ H (λv H1=>∃ c,a7i X.K v H1 c/\if c=true then Q v H1 else tD X.K cl xe g σ H1 Q) I ⟨μ,S,ρ,eo,rp,p.bind.imp λd S1 μ1 H1 l1 r1 p1 v rv=>?_⟩) λv s1 ⟨x,H1,I1,rx,c,tv,q⟩=>?_)
 ·obtain ⟨c,tv,q⟩:=R8 rv r1 p1.bind
  refine ⟨c,tv,?_⟩
  cases c with
  | true=>exact q μ1 H1 (Lat.refl _ _) r1 _ rv
  | false=>exact ⟨μ1,S1,ρ,eo.later l1,r1,q⟩
 ·refine thn (a1g pins s1 σ H1 x v (λk' H'=>k'=c/\H'=H1) I1 rx ⟨c,tv,rfl,rfl⟩) λc' s2 ⟨H2,I2,e1,e2⟩=>?_
  subst e1 e2
  cases c' with
  | true=>exact ⟨x,H2,I2,rx,q⟩
  | false=>exact k pins s2 σ H2 Q I2 q
def tPt (K:PySem.W.Frag) (cl:Nat->Addr) (xe:Addr->Hp->Prop) (fp:Env->M (Option Int)):TO:=λσ H Q=>∃ μ S ρ,EnvOk K μ H ρ σ/\Rep K cl μ S H/\Post K cl xe μ H (fp ρ S) λo _ _ H'=>Q o H'
noncomputable def C7 (d:D):M (Option Int):=match d with
 | .int i=>ret (some i)
 | _=>bad
theorem PO.imp {e:Option Expr} {t t':TO} (h:PO X e t) (k:∀ σ H Q,t' σ H Q->t σ H Q):PO X e t':=λpins s σ H Q I q=>h pins s σ H Q I (k σ H Q q)
theorem b5p:PO X none (tPt X.K cl xe λ_=>ret none):=PO.imp b5h λσ H Q ⟨μ,S,ρ,eo,rp,p⟩=>p μ H (Lat.refl _ _) rp
theorem b5v (h:PE X e (tD X.K cl xe f)):PO X (some e) (tPt X.K cl xe λρ=>bind (f ρ) C7):=PO.imp (b43 h) λσ H Q ⟨μ,S,ρ,eo,rp,p⟩=>
 ⟨μ,S,ρ,eo,rp,p.bind.imp λd S1 μ1 H1 l1 r1 p1 v rv=>by
  cases rv with
  | int i=>exact ⟨i,rfl,p1 μ1 H1 (Lat.refl _ _) r1⟩
  | _=>exact False.elim p1⟩
theorem J2 {prog:Program} {w:World} {A:Around} {E:Value->Shared->Prop} {s:Shared} {t sl:Addr} {items:Array Value} {vl vu:Value} {lo hi:Option Int} {Q:Value->Shared->Prop} (ht:IsTup s.heap t items) (hs:s.heap.IsSliceOf sl vl vu .none) (pl:IsPart vl lo) (pu:IsPart vu hi)
  (hw:HT.sIx items.size 0 lo=0/\HT.sIx items.size items.size hi=items.size) (h:Q (.ref t) s):wpAny (model prog w) A (getItem (.ref t) (.ref sl)) Q E s:=by
 obtain ⟨os,hos,hcs,hds⟩:=id hs
 have hTs:s.TypeIs (.ref sl) "slice":=⟨os,hos,hcs⟩
 unfold getItem
 try with_reducible refine wpAny_holding ?_
 first | refine wpAny_bind (wpAny_pure ?_) | skip
 refine wpAny_bind (wpAny_sequenceKey ht.typeIs (by decide) ?_)
 refine wpAny_bind (wpAny_callSpecial?_slot (name:=Str.ofString "__getitem__") ht.typeIs PyProof.Rows.slot_tuple_getitem
  (wpAny_call_entry PyProof.Rows.slot_tuple_getitem ht.typeIs entry_tuple_getitem ?_ (args_tuple_getitem _ _)))
 show wpAny _ _ (Builtin.Tuple.tupleItemsOf (.ref t) >>= _) _ _ s
 refine wpAny_bind (tupleItemsOf_ ht ?_)
 refine wpAny_bind (wpAny_typeOf hTs ?_)
 rw [if_pos (by decide)]
 refine wpAny_bind (HT.sliceApplied_gen hs pl pu ?_)
 have hyes:(((HT.sIx items.size 0 lo:Nat):Int)==0&&(1:Int)==1&&(HT.sIx items.size items.size hi-HT.sIx items.size 0 lo)==items.size)=true:=by
  rw [hw.1,hw.2];simp
 show wpAny _ _ (if (((HT.sIx items.size 0 lo:Nat):Int)==0&&(1:Int)==1&&(HT.sIx items.size items.size hi-HT.sIx items.size 0 lo)==items.size)=true then _ else _) _ _ s
 rw [if_pos hyes]
 refine wpAny_bind (m:=Builtin.Tuple.tupleIsExact (.ref t)) ?_
 unfold Builtin.Tuple.tupleIsExact
 refine wpAny_bind (wpAny_typeOf ht.typeIs (wpAny_pure ?_))
 rw [if_pos (by decide)]
 refine wpAny_bind (wpAny_rule ?_)
 exact wpAny_pure ⟨_,rfl,wpAny_pure h⟩
theorem b5r:SlR X (λx lo hi H Q=>∃ a xs,x=.ref a/\SqT X.K H a xs/\(HT.sIx xs.length 0 lo=0/\HT.sIx xs.length xs.length hi=xs.length)/\Q (.ref a) H):=by
 intro pins s σ H x v vl vu lo hi sl Q I rx hs pl pu h
 obtain ⟨a,xs,rfl,hx,hw,q⟩:=h
 cases rx
 obtain ⟨its,r,ht,hz⟩:=I.tuple hx
 have hlen:its.toArray.size=xs.length:=by rw [List.size_toArray];exact r.length.symm
 exact ⟨"tuple",_,PyProof.Rows.slot_tuple_getitem.lookup,ht.typeIs,J2 ht hs pl pu (by rw [hlen];exact hw) ⟨.ref a,H,I,rfl,q⟩⟩
theorem c3i:SlR X (λx lo hi H Q=>∃ μ S d,RD X.K μ H d x/\Rep X.K cl μ S H/\Post X.K cl xe μ H (slD d lo hi S) λr _ μ' H'=>∀ v,RD X.K μ' H' r v->Q v H'):=by
 intro pins s σ H x v vl vu lo hi sl Q I rx hs pl pu ⟨μ,S,d,rd,rp,p⟩
 have sq:∀ {a:Addr} {xs:List V} {ds:List D},SqL X.K H a xs->RDs X.K μ H ds xs->x=.ref a->(∀ μ' H',Lat μ H μ' H'->Rep X.K cl μ' S H'->∀ w,RD X.K μ' H' (.lst (u9 ds lo hi)) w->Q w H') ->
   ∃ T id,typeLookup (.type T) "__getitem__" = pure (some (.builtin id))/\s.TypeIs v T/\wpAny (model X.prog X.w) X.A (getItem v (.ref sl)) (EP X pins σ Q) X.xe s:=λ{a xs ds} hq r2 hv q=>by
  subst hv
  refine b49 pins s σ H _ v vl vu lo hi sl Q I rx hs pl pu ⟨a,xs,rfl,hq,λz hz=>?_⟩
  obtain ⟨l,rp2,rd2⟩:=w5 rp (b09 r2 lo hi) hz
  exact q μ _ l rp2 _ rd2
 cases rd with
 | tup h r=>
  rename_i a xs ds
  by_cases hw:HT.sIx xs.length 0 lo=0/\HT.sIx xs.length xs.length hi=xs.length
  ·refine b5r pins s σ H _ v vl vu lo hi sl Q I rx hs pl pu ⟨a,xs,rfl,h.sq,hw,?_⟩
   have e:u9 ds lo hi=ds:=by
    unfold u9
    rw [r.length,hw.1,hw.2,List.drop_zero,Nat.sub_zero]
    exact List.take_of_length_le (by rw [r.length];exact Nat.le_refl _)
   exact p μ H (Lat.refl _ _) rp _ (by rw [e];exact .tup h r)
  ·refine b9b pins s σ H _ v vl vu lo hi sl Q I rx hs pl pu ⟨a,xs,rfl,h.sq,hw,λz hz=>?_⟩
   obtain ⟨l,rp2,rd2⟩:=I0 rp (b09 r lo hi) hz
   exact p μ _ l rp2 _ rd2
 | lst h r=>exact sq h.sq r rfl p
 | scr h r=>exact sq h.sq r rfl p
 | ref h=>
  rename_i n a0
  have p2:Post X.K cl xe μ H (bind (lstOf (.ref n)) (λds=>ret (D.lst (u9 ds lo hi))) S) (λr _ μ' H'=>∀ v,RD X.K μ' H' r v->Q v H'):=p
  obtain ⟨a,xs,ds,e1,h1,h2,e2⟩:=j9 (.ref h) rp p2.bind
  exact sq (.inl (.inl h1)) h2 e1 (p2.ok_bind e2)
 | _=>exact False.elim p
theorem c2r {lo hi:Option Expr} {p2:Pos} {fl fh:Env->M (Option Int)} (h:PE X e (tD X.K cl xe f)) (hl:PO X lo (tPt X.K cl xe fl)) (hh:PO X hi (tPt X.K cl xe fh)) :
  PE X (.Subscript e (.Slice lo hi none p2) pos) (tD X.K cl xe λρ=>bind (f ρ) λd=>bind (fl ρ) λl=>bind (fh ρ) λu=>slD d l u):=PE.imp (a97 c3i h hl hh) λσ H Q ⟨μ,S,ρ,eo,rp,p⟩=>
 ⟨μ,S,ρ,eo,rp,p.bind.imp λd S1 μ1 H1 l1 r1 p1 v rv=>⟨μ1,S1,ρ,eo.later l1,r1,p1.bind.imp λl S2 μ2 H2 l2 r2 p2=>⟨μ2,S2,ρ,(eo.later l1).later l2,r2,p2.bind.imp λu S3 μ3 H3 l3 r3 p3=>⟨μ3,S3,d,(rv.later l2).later l3,r3,p3⟩⟩⟩⟩
end
noncomputable def K1 (x k v:D):M D:=match x with
 | .ref n=>λS=>match S[n]? with
  | some (.lst ds)=>match k with
   | .int i=>match ixN ds.length i with
    | some j=>.ok .non (S.set n (.lst (ds.set j v)))
    | none=>.bad
   | _=>.bad
  | some (.dct kvs)=>match a0e k with
   | some key=>if kvs.length<sizeLine then .ok .non (S.set n (.dct (b92 kvs key v))) else .bad
   | none=>.bad
  | _=>.bad
 | _=>bad
theorem a5t {K:PySem.W.Frag} {μ:Mp} {H:Hp} {k:Key}:∀ {kvs:List (Key×D)} {ks:List (Key×V)},KvsAt K μ H kvs ks->(kvs.any λkv=>decide (kv.1=k))=ks.any λkv=>decide (kv.1=k)
 | _,_,.nil=>rfl
 | _,_,.cons ⟨h1,h2⟩ t=>by simp only [List.any_cons,h1,a5t (k:=k) t]
theorem a51 {K:PySem.W.Frag} {μ:Mp} {H:Hp} {k:Key} {d:D} {v:V} (r:RD K μ H d v):∀ {kvs:List (Key×D)} {ks:List (Key×V)},KvsAt K μ H kvs ks->KvsAt K μ H (kvs.map λkv=>if kv.1=k then (kv.1,d) else kv) (ks.map λkv=>if kv.1=k then (kv.1,v) else kv)
 | _,_,.nil=>.nil
 | _,_,.cons (a:=a) (b:=b) ⟨h1,h2⟩ t=>by
  simp only [List.map_cons]
  refine .cons ?_ (a51 r t)
  by_cases hk:b.1=k
  ·rw [if_pos hk,if_pos (h1.trans hk)];exact ⟨h1,r⟩
  ·rw [if_neg hk,if_neg (by rw [h1];exact hk)];exact ⟨h1,h2⟩
theorem Paired.app {α β:Type} {P:α->β->Prop}:∀ {xs xs':List α} {ys ys':List β},Paired P xs ys->Paired P xs' ys'->Paired P (xs++xs') (ys++ys')
 | _,_,_,_,.nil,s=>s
 | _,_,_,_,.cons r t,s=>.cons r (Paired.app t s)
theorem b4q {K:PySem.W.Frag} {μ:Mp} {H:Hp} {k:Key} {d:D} {v:V} {kvs:List (Key×D)} {ks:List (Key×V)} (h:KvsAt K μ H kvs ks) (r:RD K μ H d v):KvsAt K μ H (b92 kvs k d) (C0 ks k v):=by
 unfold b92 C0
 rw [a5t h]
 split
 ·exact a51 r h
 ·exact Paired.app h (.cons ⟨rfl,r⟩ .nil)
theorem KvsAt.later {K:PySem.W.Frag} {μ μ':Mp} {H H':Hp} {kvs:List (Key×D)} {ks:List (Key×V)} (h:KvsAt K μ H kvs ks) (l:Lat μ H μ' H'):KvsAt K μ' H' kvs ks:=Paired.mono (λ_ _ ⟨z,w⟩=>⟨z,w.later l⟩) h
section
variable {X:Cx} {cl:Nat->Addr} {xe:Addr->Hp->Prop} {a b e:Expr} {es rest:List Expr} {pos:Pos} {f g k:Env->M D}
theorem c0o (hu:X.A.units+1<cLine):b9v X (λo i v H Q=>∃ μ S x y z,RD X.K μ H x o/\RD X.K μ H y i/\RD X.K μ H z v/\Rep X.K cl μ S H/\Post X.K cl xe μ H (K1 x y z S) λ_ _ _ H'=>Q H'):=by
 intro pins s σ H o i v ov iv u Q I ro ri rv ⟨μ,S,x,y,z,rx,ry,rz,rp,p⟩
 cases rx with
 | ref h=>
  rename_i n a
  have m:a∈μ.pl:=List.mem_of_getElem? h
  simp only [K1] at p
  cases q1:S[n]? with
  | none=>rw [q1] at p;exact p.elim
  | some ob=>
   rw [q1] at p
   cases ob with
   | lst ds=>
    obtain ⟨xs,h1,h2⟩:=rp.ats n _ a q1 h
    cases ry with
    | int j=>
     simp only at p
     cases q2:ixN ds.length j with
     | none=>rw [q2] at p;exact p.elim
     | some t=>
      rw [q2] at p
      refine a9e pins s σ H _ _ v ov iv u Q I ro ri rv ⟨a,xs,j,t,rfl,rfl,h1,by rw [<- h2.length];exact q2,?_⟩
      exact p μ _ (Lat.wrote m) (rp.wrote h ⟨_,b9,(h2.set rz t).later (Lat.wrote m)⟩)
    | _=>exact False.elim p
   | dct kvs=>
    obtain ⟨ks,h1,h2⟩:=rp.ats n _ a q1 h
    simp only at p
    cases q2:a0e y with
    | none=>rw [q2] at p;exact p.elim
    | some key=>
     rw [q2] at p
     by_cases hl:kvs.length<sizeLine
     ·simp only [if_pos hl] at p
      have hy:=a2c ry q2
      subst hy
      cases ro
      have hl2:ks.length<sizeLine:=by rw [<- Paired.length h2];exact hl
      refine a7b hu I (DPut.k h1 hl2) ri rv λs' I'=>⟨_,I',?_⟩
      exact p μ _ (Lat.wrote m) (rp.wrote h ⟨_,b9,(b4q h2 rz).later (Lat.wrote m)⟩)
     ·simp only [if_neg hl] at p;exact p.elim
   | exc _ _=>exact p.elim
 | _=>exact False.elim p
theorem a8q {a b:Expr} {p2:Pos} {env:PySem.Env} (h:C2 b=true):∀ v,assign (.Subscript a b p2) env v=(do
   let ov <- holding [v] (eval a env)
   let iv <- holding [v,ov] (eval b env)
   standAt p2
   holding [v,ov,iv] (setItem ov iv v)
   release [v,ov,iv] []):=by
 intro v
 cases b <;> first | rfl | (exact absurd h (by simp [C2]))
theorem a9r {p2:Pos} (hu:X.A.units+1<cLine) (he:PE X e (tD X.K cl xe f)) (ho:PE X a (tD X.K cl xe g)) (hi:PE X b (tD X.K cl xe k)) (hn:y9 e=true) (hb:C2 b=true) :
  PS X (.Assign [.Subscript a b p2] e pos) (sD X.K cl xe λρ=>bind (f ρ) λv=>bind (g ρ) λx=>bind (k ρ) λy=>bind (K1 x y v) λ_=>ret (.nx ρ)):=
 PS.imp (a4i he (b6s ho hi (c0o (cl:=cl) (xe:=xe) hu) (a8q hb)) (by unfold swapsWithSole;exact D2 hn) rfl rfl) λD σ H ⟨μ,S,ρ,eo,rp,p⟩=>
  ⟨μ,S,ρ,eo,rp,p.bind.imp λv S1 μ1 H1 l1 r1 p1 vv rv=>⟨μ1,S1,ρ,eo.later l1,r1,p1.bind.imp λx S2 μ2 H2 l2 r2 p2 xv rx=>⟨μ2,S2,ρ,(eo.later l1).later l2,r2,p2.bind.imp λy S3 μ3 H3 l3 r3 p3 yv ry=>
   ⟨μ3,S3,x,y,v,rx.later l3,ry,(rv.later l2).later l3,r3,p3.bind.imp λ_ S4 μ4 H4 l4 r4 p4=>p4.ret μ4 H4 (Lat.refl _ _) r4 σ ((((eo.later l1).later l2).later l3).later l4)⟩⟩⟩⟩
noncomputable def J9 (x:D) (ds:List D):M D:=match x,ds with
 | .ref n,[d]=>λS=>match S[n]? with
  | some (.lst es)=>if es.length<sizeLine then .ok .non (S.set n (.lst (es++[d]))) else .bad
  | _=>.bad
 | _,_=>bad
noncomputable def B8 (es:List Expr):Bool:=decide (es.length<30)
theorem a96 {es:List Expr} {cpos:Pos} (h1:es.all b5=true) (h2:B8 es=true):((backTo cpos (starEach es X.env)).all (λx=>!x.1)&&(backToKw cpos (keywordEach [] X.env)).all (λx=>x.1.isSome)&&decide (es.length+([]:List Keyword).length+(if ([]:List Keyword).isEmpty then 0 else 1)<30))=true:=by
 rw [W0 h1]
 unfold B8 at h2
 simpa [keywordEach,backToKw] using of_decide_eq_true h2
theorem Y9 {fs:Env->M (List D)} {apos cpos:Pos} (ho:PE X a (tD X.K cl xe f)) (ha:PA X (e :: es) (tDs X.K cl xe fs)) (hb:A6 a=true) (hs:(e :: es).all b5=true) (hf:B8 (e :: es)=true) (hl:(apos.endLine==cpos.line)=true) :
  PE X (.Call (.Attribute a "append" apos) (e :: es) [] cpos) (tD X.K cl xe λρ=>bind (f ρ) λx=>bind (lstOf x) λ_=>bind (fs ρ) λds=>J9 x ds):=by
 have hs2:=hs
 rw [List.all_cons,Bool.and_eq_true] at hs2
 refine PE.imp (b6k PySem.F.plainAttrs_list PySem.F.slot_list_append PySem.F.type_list_append O9 ho ha (N8 hb) (a96 hs hf) hl (d5 hs2.1) (A2 hs2.2)) λσ H Q ⟨μ,S,ρ,eo,rp,p⟩=>?_
 refine ⟨μ,S,ρ,eo,rp,p.bind.imp λx S1 μ1 H1 l1 r1 p1 xv rx=>?_⟩
 obtain ⟨a0,xs0,ds0,e0,h0,r0,q0⟩:=j9 rx r1 p1.bind
 have p1:=p1.ok_bind q0
 subst e0
 refine ⟨.inl ⟨rfl,_,.inl (.inl h0)⟩,μ1,S1,ρ,eo.later l1,r1,p1.bind.imp λds S2 μ2 H2 l2 r2 p2 vs rvs=>?_⟩
 have rx2:=rx.later l2
 clear p1
 cases rx2 with
 | ref h=>
  rename_i n
  match ds,rvs with
  | [],_=>exact False.elim p2
  | _ :: _ :: _,_=>exact False.elim p2
  | [d],rvs=>
   obtain ⟨v,rfl,rv⟩:=c1d rvs
   simp only [J9] at p2
   cases q1:S2[n]? with
   | none=>rw [q1] at p2;exact p2.elim
   | some o=>
    rw [q1] at p2
    cases o with
    | lst es=>
     obtain ⟨xs,h1,h2⟩:=r2.ats n _ _ q1 h
     by_cases hl:es.length<sizeLine
     ·simp only [if_pos hl] at p2
      have m:=List.mem_of_getElem? h
      refine ⟨_,xs,v,rfl,rfl,h1,by rw [<- h2.length];exact hl,?_⟩
      exact p2 μ2 _ (Lat.wrote m) (r2.wrote h ⟨_,b9,(h2.append (.cons rv .nil)).later (Lat.wrote m)⟩) _ .non
     ·simp only [if_neg hl] at p2;exact p2.elim
    | dct _=>exact p2.elim
    | exc _ _=>exact p2.elim
 | _=>exact False.elim p2
end
section
variable {K:PySem.W.Frag} {cl:Nat->Addr} {xe:Addr->Hp->Prop} {μ:Mp} {H:Hp} {S:Sto} {β:Type}
theorem bind_assoc {α γ:Type} (m:M α) (k:α->M β) (j:β->M γ):bind (bind m k) j=bind m λa=>bind (k a) j:=by
 funext S
 unfold bind
 cases m S <;> rfl
theorem e9 {α:Type} (a:α) (k:α->M β):bind (ret a) k=k a:=rfl
end
noncomputable def tys:List String:=["NoneType","bool","int","str","tuple","list","dict"]
noncomputable def subT (t T:String):Bool:=t==T||(t == "bool" && T == "int")
theorem b2z (K:PySem.W.Frag):∀ t∈tys,∀ T∈tys,PySem.W.kitOne K (.type t) (.type T)=some (subT t T):=by
 intro t ht T hT
 simp only [tys,List.mem_cons,List.not_mem_nil,or_false] at ht hT
 rcases ht with rfl | rfl | rfl | rfl | rfl | rfl | rfl <;> rcases hT with rfl | rfl | rfl | rfl | rfl | rfl | rfl <;> kernel_rfl
noncomputable def tyD (S:Sto) (d:D):Option String:=match d with
 | .non=>some "NoneType"
 | .bl _=>some "bool"
 | .int _=>some "int"
 | .str _=>some "str"
 | .tup _=>some "tuple"
 | .lst _=>some "list"
 | .scr _=>some "list"
 | .ref n=>match S[n]? with
  | some (.lst _)=>some "list"
  | some (.dct _)=>some "dict"
  | _=>none
noncomputable def v7 (T:String) (sx:Nat->Bool) (d:D):M D:=λS=>match tyD S d with
 | some t=>.ok (.bl (subT t T)) S
 | none=>match d with
  | .ref n=>match S[n]? with
   | some (.exc c _)=>.ok (.bl (sx c)) S
   | _=>.bad
  | _=>.bad
noncomputable def a8a (sx:Nat->Bool) (d:D):M D:=λS=>match d with
 | .ref n=>match S[n]? with
  | some (.exc c _)=>.ok (.bl (sx c)) S
  | _=>.bad
 | _=>.bad
section
variable {X:Cx} {cl:Nat->Addr} {xe:Addr->Hp->Prop} {a:Expr} {pos p q:Pos} {f:Env->M D}
theorem b4y {T:V} {c0:Value} {sx:Nat->Bool} (hc:c0v T=some c0) (hk:∀ c,XC X.K (cl c)->PySem.W.kitOne X.K (.ref (cl c)) c0=some (sx c)) {pins:List (Addr×Obj)} {s:Shared} {σ:L2.St} {H:Hp} {us:List Value} {Q:VK} {μ:Mp} {S:Sto} {n:Nat} {b:Addr} {c:Nat} {fs:List (Str×D)} (I:L2.Inv X pins σ H s) (r:Vals [.ref b,T] us)
  (rp:Rep X.K cl μ S H) (e:S[n]?=some (.exc c fs)) (h:μ.pl[n]?=some b) (q:Q (.bl (sx c)) H):wpAny (model X.prog X.w) X.A (call (.builtin "isinstance") us) (EP X pins σ Q) X.xe s:=by
 obtain ⟨xc,gs,r2,fr,h2⟩:=rp.ats n _ b e h
 rcases h2 with ⟨z,e2⟩ | ⟨d,n1,n2,e2,e3⟩
 ·exact a0b pins s σ H _ us Q I r ⟨fr,b,cl c,none,T,c0,sx c,rfl,xc,e2,λ_ z=>(nomatch z),hc,hk c xc,q⟩
 ·exact a0b pins s σ H _ us Q I r ⟨fr,b,cl c,some d,T,c0,sx c,rfl,xc,e2,λd' z=>by cases z;exact ⟨gs,e3⟩,hc,hk c xc,q⟩
theorem a7v {T:String} (hT:T∈tys) {pins:List (Addr×Obj)} {s:Shared} {σ:L2.St} {H:Hp} {us:List Value} {Q:VK} {μ:Mp} {S:Sto} {d:D} {v:V} {t:String} (I:L2.Inv X pins σ H s) (r:Vals [v,.ty T] us) (rd:RD X.K μ H d v) (rp:Rep X.K cl μ S H) (e:tyD S d=some t)
  (q:Q (.bl (subT t T)) H):wpAny (model X.prog X.w) X.A (call (.builtin "isinstance") us) (EP X pins σ Q) X.xe s:=by
 obtain ⟨u,u2,rfl,ru,ru2⟩:=b10 r
 cases (show u2=Value.type T from ru2)
 have ht:t∈tys:=by
  cases d <;> simp only [tyD] at e <;> first
   | (cases e;decide)
   | (split at e <;> first | (cases e;decide) | cases e)
 have hk:=b2z X.K t ht T hT
 have fin:∀ tk,EP X pins σ Q (.bool (subT t T)) { s with toks:=tk }:=λtk=>⟨.bl _,H,I.tok _,rfl,q⟩
 have tupT:∀ {b:Addr} {xs:List V},SqT X.K H b xs->u=.ref b->t = "tuple"->wpAny (model X.prog X.w) X.A (call (.builtin "isinstance") [u,.type T]) (EP X pins σ Q) X.xe s:=λ{b xs} h eu et=>by
  subst eu et
  obtain ⟨its,_,⟨o,h1,h2,_⟩,_⟩:=I.tuple h
  exact PySem.W.kia_one PySem.W.kitx_tuple I.kIn ⟨o,h1,h2⟩ hk (λz=>nomatch z) fin
 have lstT:∀ {b:Addr} {xs:List V},SqL X.K H b xs->u=.ref b->t = "list"->wpAny (model X.prog X.w) X.A (call (.builtin "isinstance") [u,.type T]) (EP X pins σ Q) X.xe s:=λ{b xs} h eu et=>by
  subst eu et
  obtain ⟨its,_,⟨o,n,h1,h2,_⟩,_⟩:=I.list h
  exact PySem.W.kia_one PySem.W.kitx_list I.kIn ⟨o,h1,h2⟩ hk (λz=>nomatch z) fin
 cases rd with
 | non=>cases (show u=Value.none from ru);cases e;exact PySem.W.kia_one PySem.W.kitx_none I.kIn True.intro hk (λz=>nomatch z) fin
 | bl b=>cases (show u=Value.bool b from ru);cases e;exact PySem.W.kia_one PySem.W.kitx_bool I.kIn True.intro hk (λz=>nomatch z) fin
 | int i=>obtain ⟨tk,q⟩:=(show ∃ t,u=Value.int i t from ru);cases q;cases e;exact PySem.W.kia_one PySem.W.kitx_int I.kIn True.intro hk (λz=>nomatch z) fin
 | str x=>obtain ⟨tk,q⟩:=(show ∃ t,u=Value.str x t from ru);cases q;cases e;exact PySem.W.kia_one PySem.W.kitx_str I.kIn True.intro hk (λz=>nomatch z) fin
 | tup h r=>cases e;exact tupT h.sq ru rfl
 | lst h r=>cases e;exact lstT h.sq ru rfl
 | scr h r=>cases e;exact lstT h.sq ru rfl
 | ref h=>
  rename_i n b
  simp only [tyD] at e
  cases q1:S[n]? with
  | none=>rw [q1] at e;cases e
  | some o=>
   rw [q1] at e
   cases o with
   | lst ds=>
    cases e
    obtain ⟨xs,h1,h2⟩:=rp.ats n _ b q1 h
    exact lstT (.inl (.inl h1)) ru rfl
   | dct kvs=>
    cases e
    obtain ⟨ks,h1,h2⟩:=rp.ats n _ b q1 h
    cases (show u=Value.ref b from ru)
    obtain ⟨_,_,vs,_,pp⟩:=(show ObjOk X.prog X.w H s.heap b (.dK ks) from I.hok b _ h1)
    obtain ⟨o,es,ep,g1,g2,_⟩:=pp
    exact PySem.W.kia_one PySem.W.kitx_dict I.kIn ⟨o,g1,g2.1⟩ hk (λz=>nomatch z) fin
   | exc _ _=>cases e
theorem a6s {x:Str} {T:String} {sx:Nat->Bool} (hT:T∈tys\/T = "ValueError") (hk:∀ c,XC X.K (cl c)->PySem.W.kitOne X.K (.ref (cl c)) (.type T)=some (sx c)) (h:PE X a (tD X.K cl xe f)) (hg:Gl X "isinstance") (hm:X.mg "isinstance" = none) (hg2:Gl X x) (hm2:X.mg x=none) (hv:bootBuiltins x=some (.type T)) (hn:x ≠ "__name__") (hd:(x==("__debug__" : Str))=false) (hs:b5 a=true) :
  PE X (.Call (.Name "isinstance" p) [a,.Name x q] [] pos) (tD X.K cl xe λρ=>bind (f ρ) λd=>if T∈tys then v7 T sx d else a8a sx d):=by
 have key:i5 X (.builtin "isinstance") (λvs H Q=>∃ μ S d v,vs=[v,.ty T]/\RD X.K μ H d v/\Rep X.K cl μ S H/\Post X.K cl xe μ H ((if T∈tys then v7 T sx d else a8a sx d) S) λr _ μ' H'=>∀ v,RD X.K μ' H' r v->Q v H'):=by
  intro pins s σ H xs us Q I r ⟨μ,S,d,v,ev,rd,rp,P⟩
  subst ev
  have ex:∀ {n:Nat} {b:Addr} {c:Nat} {fs:List (Str×D)},v=.ref b->S[n]?=some (.exc c fs)->μ.pl[n]?=some b->Q (.bl (sx c)) H->wpAny (model X.prog X.w) X.A (call (.builtin "isinstance") us) (EP X pins σ Q) X.xe s:=λ{n b c fs} ev e h q=>by
   subst ev
   exact b4y (T:=.ty T) (c0:=.type T) rfl hk I r rp e h q
  by_cases ht:T∈tys
  ·rw [if_pos ht] at P
   unfold v7 at P
   cases e:tyD S d with
   | some t=>rw [e] at P;exact a7v ht I r rd rp e (P μ H (Lat.refl _ _) rp _ (.bl _))
   | none=>
    rw [e] at P
    cases rd with
    | ref h=>
     rename_i n b
     simp only at P
     cases q1:S[n]? with
     | none=>rw [q1] at P;exact P.elim
     | some o=>
      rw [q1] at P
      cases o with
      | exc c fs=>exact ex rfl q1 h (P μ H (Lat.refl _ _) rp _ (.bl _))
      | lst _=>exact P.elim
      | dct _=>exact P.elim
    | _=>exact False.elim P
  ·rw [if_neg ht] at P
   unfold a8a at P
   cases rd with
   | ref h=>
    rename_i n b
    simp only at P
    cases q1:S[n]? with
    | none=>rw [q1] at P;exact P.elim
    | some o=>
     rw [q1] at P
     cases o with
     | exc c fs=>exact ex rfl q1 h (P μ H (Lat.refl _ _) rp _ (.bl _))
     | lst _=>exact P.elim
     | dct _=>exact P.elim
   | _=>exact False.elim P
 have hb:PE X (.Name x q) (tC (.ty T)):=b4w (u:=.type T) hg2 hm2 hv rfl hn hd
 refine PE.imp (a2y key hg hm (by rfl) (a1j h (a1j hb b2o (d5 rfl)) (d5 hs)) (by decide) (by decide) (d5 hs) (A2 rfl)) λσ H Q ⟨μ,S,ρ,eo,rp,P⟩=>?_
 exact ⟨μ,S,ρ,eo,rp,P.bind.imp λd S1 μ1 H1 l1 r1 p1 v rv=>⟨μ1,S1,d,v,rfl,rv,r1,p1⟩⟩
end
theorem a4y (bs:List Bool):(List.range bs.length).map (λi=>bs.getD i false)=bs:=by
 apply List.ext_getElem
 ·simp
 ·intro i h1 h2
  simp at h1
  simp [h1]
theorem a7d (bs:List Bool):(List.range bs.length).all (λi=>bs.getD i false)=bs.all id:=by
 conv=>rhs;rw [<- a4y bs,List.all_map]
 rfl
section
variable {X:Cx}
theorem a3r {A:Around} {bs:List Bool} {its:List Value} (r:Vals (bs.map V.bl) its):TruthOf X.prog X.w A (λi v=>its.toArray[i]?=some v) (λi=>bs.getD i false):=by
 intro i v s Q E hP hQ
 rw [List.getElem?_toArray] at hP
 have hi:i<bs.length:=by
  have a:=r.length
  rw [List.length_map] at a
  have b:=(List.getElem?_eq_some_iff.mp hP).1
  omega
 obtain ⟨u,e1,rv⟩:=Vals.get r (i:=i) (x:=V.bl bs[i]) (by rw [List.getElem?_map,List.getElem?_eq_getElem hi];rfl)
 rw [hP] at e1
 cases e1
 cases rv
 have:bs.getD i false=bs[i]:=by simp [hi]
 exact wpAny_truthy_bool (this▸hQ)
theorem a2v (hc:X.calm=true):i5 X (.builtin "all") (λxs H Q=>∃ (p:Addr) (bs:List Bool),xs=[.ref p]/\SqL X.K H p (bs.map V.bl)/\Q (.bl (bs.all id)) H):=by
 intro pins s σ H xs us Q I r h
 obtain ⟨p,bs,rfl,hq,q⟩:=h
 obtain ⟨u,rfl,rx⟩:=E1 r
 cases rx
 obtain ⟨its,r',pl,hz⟩:=I.list hq
 have hh:X.A.handled=none:=I.ok.hd hc
 have lt:p<s.heap.objs.size:=by
  obtain ⟨o,ho,_⟩:=pl.isList
  exact Heap.lt_size ho
 have hl:its.length=bs.length:=by rw [<- r'.length,List.length_map]
 refine call_all_walk (wpAny_pyIter_list pl.isList ⟨s.heap.objs.size,[s.heap.objs.size,p],[s.heap.objs.size],its.toArray.size,_,_,λi=>bs.getD i false,rfl,Walks.list (A:=X.A.in1) (show X.A.in1.handled=none from hh) _ _ (Nat.ne_of_lt lt) its.toArray,⟨?_,?_⟩,a3r r',λh' tk k=>?_⟩)
 ·exact ⟨_,Heap.get?_push_size _ rfl,rfl,rfl⟩
 ·exact pl.isList.push _
 ·have e:(List.range its.toArray.size).all (λi=>bs.getD i false)=bs.all id:=by
   rw [List.size_toArray,hl];exact a7d bs
  rw [e]
  refine ⟨.bl (bs.all id),H,I.kept (t':=tk) λb o eb=>?_,rfl,q⟩
  have nb:b<s.heap.objs.size:=Heap.lt_size eb
  exact k b o (by simp;exact Nat.ne_of_lt nb) (Heap.get?_push_of_some _ eb)
variable {cl:Nat->Addr} {xe:Addr->Hp->Prop}
noncomputable def N0:List D->Option (List Bool)
 | []=>some []
 | .bl b :: ds=>(N0 ds).map (b :: ·)
 | _=>none
theorem b1y {K:PySem.W.Frag} {μ:Mp} {H:Hp}:∀ {ds:List D} {vs:List V} {bs:List Bool},N0 ds=some bs->RDs K μ H ds vs->vs=bs.map V.bl
 | [],_,bs,e,r=>by cases r;cases e;rfl
 | d :: ds,_,bs,e,r=>by
  cases r with
  | cons h t=>
   cases d <;> try (simp [N0] at e;done)
   case bl b=>
    simp only [N0] at e
    cases e1:N0 ds with
    | none=>rw [e1] at e;cases e
    | some bs'=>
     rw [e1] at e;cases e
     cases h
     rw [b1y e1 t];rfl
noncomputable def a7g (d:D):M D:=bind (lstOf d) λds=>match N0 ds with
 | some bs=>ret (.bl (bs.all id))
 | none=>bad
theorem c25 (hc:X.calm=true):i5 X (.builtin "all") (rPs X.K cl xe (one a7g)):=D1 λpins s σ H μ S d v us Q I r rd rp p=>by
 obtain ⟨a,xs,ds,rfl,h1,h2,e2⟩:=j9 rd rp p.bind
 have p:=p.ok_bind e2
 cases e:N0 ds with
 | none=>rw [e] at p;exact p.elim
 | some bs=>
  rw [e] at p
  have:=b1y e h2
  subst this
  exact a2v hc pins s σ H _ us Q I r ⟨a,bs,rfl,.inl (.inl h1),p μ H (Lat.refl _ _) rp _ (.bl _)⟩
noncomputable def j7:List D->Option (List Int)
 | []=>some []
 | .int i :: ds=>(j7 ds).map (i :: ·)
 | _=>none
theorem A4 {K:PySem.W.Frag} {μ:Mp} {H:Hp}:∀ {ds:List D} {vs:List V} {ns:List Int},j7 ds=some ns->RDs K μ H ds vs->vs=ns.map V.int
 | [],_,ns,e,r=>by cases r;cases e;rfl
 | d :: ds,_,ns,e,r=>by
  cases r with
  | cons h t=>
   cases d <;> try (simp [j7] at e;done)
   case int i=>
    simp only [j7] at e
    cases e1:j7 ds with
    | none=>rw [e1] at e;cases e
    | some ns'=>
     rw [e1] at e;cases e
     cases h
     rw [A4 e1 t];rfl
noncomputable def M3:List Int->Option Int
 | []=>none
 | n :: ns=>some (match M3 ns with
  | none=>n
  | some m=>if n<m then m else n)
theorem b4t:∀ {ns:List Int} {M:Int},M∈ns->(∀ a∈ns,a<=M)->M3 ns=some M
 | [],_,h,_=>by cases h
 | [n],M,h,_=>by simp at h;subst h;rfl
 | n :: k :: ns,M,h,q=>by
  obtain ⟨t,e⟩:∃ t,M3 (k :: ns)=some t:=⟨_,rfl⟩
  have he:M3 (n :: k :: ns)=some (if n<t then t else n):=by rw [M3,e]
  rw [he]
  have top:∀ {l:List Int} {t:Int},M3 l=some t->t∈l/\∀ a∈l,a<=t:=by
   intro l
   induction l with
   | nil=>intro t e;cases e
   | cons x l ih=>
    intro t e
    cases h2:M3 l with
    | none=>
     cases l with
     | nil=>simp only [M3] at e;cases e;exact ⟨List.mem_cons_self ..,λa ha=>by simp at ha;omega⟩
     | cons y l=>simp [M3] at h2
    | some m=>
     obtain ⟨m1,m2⟩:=ih h2
     simp only [M3,h2] at e
     cases e
     by_cases hx:x<m
     ·rw [if_pos hx]
      exact ⟨List.mem_cons_of_mem _ m1,λa ha=>by
       rcases List.mem_cons.mp ha with z | z
       ·omega
       ·exact m2 a z⟩
     ·rw [if_neg hx]
      exact ⟨List.mem_cons_self ..,λa ha=>by
       rcases List.mem_cons.mp ha with z | z
       ·omega
       ·have:=m2 a z;omega⟩
  obtain ⟨t1,t2⟩:=top e
  congr 1
  by_cases hx:n<t
  ·rw [if_pos hx]
   have a1:=q t (List.mem_cons_of_mem _ t1)
   rcases List.mem_cons.mp h with z | z
   ·omega
   ·have:=t2 M z;omega
  ·rw [if_neg hx]
   have a1:=q n (List.mem_cons_self ..)
   rcases List.mem_cons.mp h with z | z
   ·omega
   ·have:=t2 M z;omega
theorem B4:∀ {ns:List Int} {us:List Value},Vals (ns.map V.int) us->∃ xs:List (Int×Tok),us=xs.map (λp=>Value.int p.1 p.2)/\xs.map (·.1)=ns
 | [],_,r=>by cases r;exact ⟨[],rfl,rfl⟩
 | n :: ns,_,r=>by
  cases r with
  | cons h t=>
   obtain ⟨k,rfl⟩:=(show ∃ t,_=Value.int n t from h)
   obtain ⟨xs,e1,e2⟩:=B4 t
   exact ⟨(n,k) :: xs,by rw [e1];rfl,by rw [List.map_cons,e2]⟩
theorem a7w (hc:X.calm=true):i5 X (.builtin "max") (λxs H Q=>∃ (p:Addr) (ns:List Int),xs=[.ref p]/\SqL X.K H p (ns.map V.int)/\∃ M,M3 ns=some M/\Q (.int M) H):=by
 intro pins s σ H xs us Q I r h
 obtain ⟨p,ns,rfl,hq,M,hM,q⟩:=h
 obtain ⟨u,rfl,rx⟩:=E1 r
 cases rx
 obtain ⟨its,r',pl,hz⟩:=I.list hq
 have hh:X.A.handled=none:=I.ok.hd hc
 obtain ⟨ys,e1,e2⟩:=B4 r'
 have e3:its.toArray=intItems ys.toArray:=by rw [e1];simp [intItems]
 have hne:0<ys.toArray.size:=by
  cases ys with
  | nil=>cases e2;cases hM
  | cons y ys=>simp
 refine max_intList hh (xs:=ys.toArray) (by rw [<- e3];exact pl.isList) hne λv h' tk hv hk=>?_
 obtain ⟨t,rfl⟩:=intItems_at hv
 obtain ⟨h1,h2⟩:=argBest_gt (numAt ys.toArray) (ys.toArray.size-1)
 have hm:M3 ns=some (numAt ys.toArray (argBest (λi j=>decide (numAt ys.toArray i > numAt ys.toArray j)) (ys.toArray.size-1))):=by
  refine b4t ?_ λa ha=>?_
  ·rw [numAt_eq,<- e2]
   refine getD_mem ?_
   have e5:ys.toArray.size=ys.length:=List.size_toArray
   rw [e5] at h1 hne
   rw [List.length_map]
   show _<ys.length
   rw [e5]
   omega
  ·rw [<- e2] at ha
   obtain ⟨j,hj,rfl⟩:=mem_getD (l:=ys.toArray.toList.map (·.1)) ha
   rw [List.length_map,Array.length_toList] at hj
   rw [<- numAt_eq];exact h2 j (by omega)
 rw [hM] at hm
 cases hm
 exact ⟨.int _,H,I.kept (t':=tk) λb o eb=>hk b o eb,⟨t,rfl⟩,q⟩
noncomputable def b1z (ds:List D):M D:=match ds with
 | [.int i,.int j]=>ret (.int (if j > i then j else i))
 | [d]=>bind (lstOf d) λes=>match (j7 es).bind M3 with
  | some m=>ret (.int m)
  | none=>bad
 | _=>bad
theorem c06 (hc:X.calm=true):i5 X (.builtin "max") (rPs X.K cl xe b1z):=by
 intro pins s σ H xs us Q I r ⟨μ,S,ds,rds,rp,p⟩
 unfold b1z at p
 split at p
 ·cases rds with
  | cons h t=>cases t with
   | cons h2 t2=>
    cases t2;cases h;cases h2
    exact a7s hc pins s σ H _ us Q I r ⟨_,_,rfl,p μ H (Lat.refl _ _) rp _ (.int _)⟩
 ·rename_i d
  cases rds with
  | cons h t=>
   cases t
   obtain ⟨a,xs,es,rfl,h1,h2,e2⟩:=j9 h rp p.bind
   have p:=p.ok_bind e2
   cases e:j7 es with
   | none=>rw [e] at p;exact p.elim
   | some ns=>
    rw [e] at p
    cases e3:M3 ns with
    | none=>simp only [Option.bind_some,e3] at p;exact p.elim
    | some m=>
     simp only [Option.bind_some,e3] at p
     have:=A4 e h2
     subst this
     exact a7w hc pins s σ H _ us Q I r ⟨a,ns,rfl,.inl (.inl h1),m,e3,p μ H (Lat.refl _ _) rp _ (.int _)⟩
 ·exact p.elim
noncomputable def c4s (d:D):M D:=match d with
 | .int i=>if i.natAbs.log2<1920 then ret (.str (toString i)) else bad
 | _=>bad
noncomputable def Y3 (d:D):M D:=match d with
 | .int i=>ret (.int (-i))
 | _=>bad
theorem a9s:UnR X (unaryOp .USub) (λx H Q=>∃ μ S d,RD X.K μ H d x/\Rep X.K cl μ S H/\Post X.K cl xe μ H (Y3 d S) λr _ μ' H'=>∀ v,RD X.K μ' H' r v->Q v H'):=by
 intro pins s σ H x v Q I rx ⟨μ,S,d,rd,rp,p⟩
 cases rd with
 | int i=>exact b9a pins s σ H _ v Q I rx ⟨i,rfl,p μ H (Lat.refl _ _) rp _ (.int _)⟩
 | _=>exact False.elim p
theorem b7k {a:Expr} {f:Env->M D} {pos:Pos} (h:PE X a (tD X.K cl xe f)):PE X (.UnaryOp .USub a pos) (tD X.K cl xe λρ=>bind (f ρ) Y3):=
 PE.imp (c2s a9s h) λσ H Q ⟨μ,S,ρ,eo,rp,p⟩=>⟨μ,S,ρ,eo,rp,p.bind.imp λd S1 μ1 H1 l1 r1 p1 v rv=>⟨μ1,S1,d,rv,r1,p1⟩⟩
noncomputable def L5 (h h':D->D->M D) (x y:D) (z:M D):M D:=bind (h x y) λd=>bind (asB d) λk=>if k=true then bind z λw=>h' y w else ret (.bl false)
theorem a2a {h h':D->D->M D} {tc:TE} {fc:Env->M D} {ρ:Env} {σ:L2.St} {μ:Mp} {S:Sto} {H:Hp} {x y:D} {v u:V} {Q:VK} (htc:tc=tD X.K cl xe fc) (eo:EnvOk X.K μ H ρ σ) (rx:RD X.K μ H x v) (ry:RD X.K μ H y u) (rp:Rep X.K cl μ S H)
  (p:Post X.K cl xe μ H (L5 h h' x y (fc ρ) S) λd _ μ' H'=>∀ v,RD X.K μ' H' d v->Q v H') :
  rP2 X.K cl xe h v u H λz H3=>∃ k,z=.bl k/\(if k=true then tc σ H3 λw' H4=>rP2 X.K cl xe h' u w' H4 Q else Q (.bl false) H3):=by
 subst htc
 refine ⟨μ,S,x,y,rx,ry,rp,p.bind.imp λd S3 μ3 H3 l3 r3 p3 z rz=>?_⟩
 cases rz with
 | bl k=>
  refine ⟨k,rfl,?_⟩
  have p3:Post X.K cl xe μ3 H3 ((if k=true then bind (fc ρ) (λw=>h' y w) else ret (.bl false)) S3) λd _ μ' H'=>∀ v,RD X.K μ' H' d v->Q v H':=p3
  cases k with
  | true=>
   rw [if_pos rfl] at p3 ⊢
   exact ⟨μ3,S3,ρ,eo.later l3,r3,p3.bind.imp λw S4 μ4 H4 l4 r4 p4 w' rw'=>⟨μ4,S4,y,w,(ry.later l3).later l4,rw',r4,p4⟩⟩
  | false=>
   rw [if_neg Bool.false_ne_true] at p3 ⊢
   exact p3 μ3 H3 (Lat.refl _ _) r3 _ (.bl _)
 | _=>exact False.elim p3
theorem b6h {op op':CmpOp} {b c:Expr} (h:behindInMarks op' c=false):lastMarks [op,op'] [b,c]=false:=h
theorem a9q {op op':CmpOp} {h h':D->D->M D} {a b c:Expr} {f g fc:Env->M D} {pos:Pos} (ha:PE X a (tD X.K cl xe f)) (hb:PE X b (tD X.K cl xe g)) (hc:PE X c (tD X.K cl xe fc)) (ho:OpR X (compareOp op) (rP2 X.K cl xe h)) (ho':OpR X (compareOp op') (rP2 X.K cl xe h')) (hm:behindInMarks op' c=false) :
  PE X (.Compare a [op,op'] [b,c] pos) (tD X.K cl xe λρ=>bind (f ρ) λx=>bind (g ρ) λy=>L5 h h' x y (fc ρ)):=PE.imp (b0m ho ho' ha hb hc (b6h hm)) λσ H Q ⟨μ,S,ρ,eo,rp,p⟩=>
 ⟨μ,S,ρ,eo,rp,p.bind.imp λx S1 μ1 H1 l1 r1 p1 v rv=>⟨μ1,S1,ρ,eo.later l1,r1,p1.bind.imp λy S2 μ2 H2 l2 r2 p2 u ru=>a2a rfl ((eo.later l1).later l2) (rv.later l2) ru r2 p2⟩⟩
theorem b0w {op op':CmpOp} {h h':D->D->M D} {a b c:Expr} {f g fc:Env->M D} {pos:Pos} (ha:PE X a (tD X.K cl xe f)) (hb:PE X b (tD X.K cl xe g)) (hc:PE X c (tD X.K cl xe fc)) (ho:OpR X (compareOp op) (rP2 X.K cl xe h)) (ho':OpR X (compareOp op') (rP2 X.K cl xe h')) (hm:behindInMarks op' c=false) :
  PT X (.Compare a [op,op'] [b,c] pos) (tBo X.K cl xe λρ=>bind (f ρ) λx=>bind (g ρ) λy=>bind (L5 h h' x y (fc ρ)) asB):=PT.imp (a9m ho ho' ha hb hc (b6h hm)) λσ H Q ⟨μ,S,ρ,eo,rp,p⟩=>
 ⟨μ,S,ρ,eo,rp,p.bind.imp λx S1 μ1 H1 l1 r1 p1 v rv=>⟨μ1,S1,ρ,eo.later l1,r1,p1.bind.imp λy S2 μ2 H2 l2 r2 p2 u ru=>a2a rfl ((eo.later l1).later l2) (rv.later l2) ru r2 (p2.bind.imp λz S3 μ3 H3 l3 r3 p3 w rw=>a99 rw r3 p3)⟩⟩
end
theorem V2:∀ {xs:List V} {us:List Value},Vals xs us->Vals xs.reverse us.reverse
 | _,_,.nil=>.nil
 | _,_,.cons r t=>by
  rw [List.reverse_cons,List.reverse_cons]
  exact (V2 t).append (.cons r .nil)
theorem a1q {K:PySem.W.Frag} {μ:Mp} {H:Hp}:∀ {ds:List D} {vs:List V},RDs K μ H ds vs->RDs K μ H ds.reverse vs.reverse
 | _,_,.nil=>.nil
 | _,_,.cons r t=>by
  rw [List.reverse_cons,List.reverse_cons]
  exact (a1q t).append (.cons r .nil)
theorem fm_congr {α β:Type} {f g:α->Option β}:∀ {l:List α},(∀ x∈l,f x=g x)->l.filterMap f=l.filterMap g
 | [],_=>rfl
 | x :: l,h=>by
  rw [List.filterMap_cons,List.filterMap_cons,h x (List.mem_cons_self ..),fm_congr λy hy=>h y (List.mem_cons_of_mem _ hy)]
theorem a9p (its:List Value):slicePick its.toArray none none (some (-1))=its.reverse.toArray:=by
 have hb:sliceBounds none none (some (-1)) its.toArray.size=((its.length:Int)-1,-1,-1):=by
  simp [sliceBounds]
 unfold slicePick
 rw [hb]
 have hc:sliceRange ((its.length:Int)-1) (-1) (-1)=(List.range its.length).map λ(k:Nat)=>its.length-1-k:=by
  unfold sliceRange
  have e:(if (-1:Int) > 0 then (if (its.length:Int)-1 < -1 then (-1-((its.length:Int)-1) + -1-1) / -1 else 0) else (if (its.length:Int)-1 > -1 then ((its.length:Int)-1 - -1 - -1-1) / (- -1) else 0)).toNat=its.length:=by
   rw [if_neg (by decide)]
   by_cases h:(its.length:Int)-1 > -1
   ·rw [if_pos h];simp
   ·rw [if_neg h];omega
  show (List.range (if (-1:Int) > 0 then (if (its.length:Int)-1 < -1 then (-1-((its.length:Int)-1) + -1-1) / -1 else 0) else (if (its.length:Int)-1 > -1 then ((its.length:Int)-1 - -1 - -1-1) / (- -1) else 0)).toNat).map (λ(k:Nat)=>((its.length:Int)-1 + -1 * (k:Int)).toNat)=_
  rw [e]
  apply List.map_congr_left
  intro k hk
  omega
 simp only [hc]
 congr 1
 rw [List.filterMap_map]
 have h2:(List.range its.length).filterMap ((λx=>its.toArray[x]?) ∘ λk=>its.length-1-k)=(List.range its.length).filterMap (λk=>its.reverse.toArray[0+k]?):=by
  apply fm_congr
  intro k hk
  have hk:k<its.length:=List.mem_range.mp hk
  simp only [Function.comp,List.getElem?_toArray,Nat.zero_add]
  rw [List.getElem?_reverse hk]
 rw [h2]
 have:=pick_run its.reverse.toArray 0 its.length
 rw [List.filterMap_map] at this
 have e2:((λx=>its.reverse.toArray[x]?) ∘ λx=>0+x)=λm=>its.reverse.toArray[0+m]?:=rfl
 rw [e2] at this
 rw [this]
 simp only [List.drop_zero]
 rw [List.take_of_length_le (by simp)]
end L3
namespace HT
open PySem PySem.Spec PyProof.Rows
section
variable {prog:Program} {w:World} {A:Around} {E:Value->Shared->Prop} {s:Shared}
theorem P3 {sl:Addr} {t:Tok} {n:Nat} {Q:Int×Int×Nat->Shared->Prop} (hs:s.heap.IsSliceOf sl .none .none (.int (-1) t))
  (h:Q ((n:Int)-1,-1,n) s):wpAny (model prog w) A (Builtin.Slice.sliceApplied (.ref sl) (pure (n:Int))) Q E s:=by
 obtain ⟨os,hos,hcs,hds⟩:=id hs
 unfold Builtin.Slice.sliceApplied Builtin.Slice.sliceFields
 refine wpAny_bind (wpAny_bind (wpAny_field hos hds (x:=.none) rfl (wpAny_bind (wpAny_field hos hds (x:=.none) rfl (wpAny_bind (wpAny_field hos hds (x:=.int (-1) t) rfl (wpAny_pure ?_)))))))
 refine wpAny_bind (slicePart_int ?_)
 show wpAny _ _ (if ((-1:Int)==0)=true then _ else _) _ _ s
 rw [if_neg (by decide)]
 refine wpAny_bind (slicePart_none (wpAny_bind (slicePart_none (wpAny_bind (wpAny_pure ?_)))))
 show wpAny _ _ (pure ((n:Int)-1,(-1:Int),Builtin.Slice.slicePlaces ((n:Int)-1) (-1) (-1))) _ _ s
 have e:Builtin.Slice.slicePlaces ((n:Int)-1) (-1) (-1)=n:=by
  unfold Builtin.Slice.slicePlaces
  rw [if_neg (by decide)]
  by_cases hn:(n:Int)-1 > -1
  ·rw [if_pos hn];simp
  ·rw [if_neg hn];omega
 rw [e]
 exact wpAny_pure h
theorem a7h (xs:List Value):((List.range xs.length).filterMap λ(m:Nat)=>xs.toArray[((xs.length:Int)-1+(m:Int) * -1).toNat]?).toArray=xs.reverse.toArray:=by
 congr 1
 have h2:(List.range xs.length).filterMap (λ(m:Nat)=>xs.toArray[((xs.length:Int)-1+(m:Int) * -1).toNat]?)=(List.range xs.length).filterMap (λk=>xs.reverse.toArray[0+k]?):=by
  apply L3.fm_congr
  intro k hk
  have hk:k<xs.length:=List.mem_range.mp hk
  have e:((xs.length:Int)-1+(k:Int) * -1).toNat=xs.length-1-k:=by omega
  rw [e]
  simp only [List.getElem?_toArray,Nat.zero_add]
  rw [List.getElem?_reverse hk]
 rw [h2]
 have:=pick_run xs.reverse.toArray 0 xs.length
 rw [List.filterMap_map] at this
 have e2:((λx=>xs.reverse.toArray[x]?) ∘ λx=>0+x)=λm=>xs.reverse.toArray[0+m]?:=rfl
 rw [e2] at this
 rw [this]
 simp only [List.drop_zero]
 rw [List.take_of_length_le (by simp)]
theorem getItem_tuple_rev {t sl:Addr} {its:List Value} {tk:Tok} {Q:Value->Shared->Prop} (ht:IsTup s.heap t its.toArray) (hs:s.heap.IsSliceOf sl .none .none (.int (-1) tk))
  (h:Q (.ref s.heap.objs.size) { s with heap:=s.heap.push { cls:=.type "tuple",data:=.seq its.reverse.toArray } })
  (hsz:its.length<=sizeLine):wpAny (model prog w) A (getItem (.ref t) (.ref sl)) Q E s:=by
 have htake:sizeOk (.seq its.reverse.toArray):=by
  show its.reverse.toArray.size<=sizeLine
  rw [List.size_toArray,List.length_reverse];exact hsz
 obtain ⟨os,hos,hcs,hds⟩:=id hs
 have hTs:s.TypeIs (.ref sl) "slice":=⟨os,hos,hcs⟩
 unfold getItem
 try with_reducible refine wpAny_holding ?_
 first | refine wpAny_bind (wpAny_pure ?_) | skip
 refine wpAny_bind (wpAny_sequenceKey ht.typeIs (by decide) ?_)
 refine wpAny_bind (wpAny_callSpecial?_slot (name:=Str.ofString "__getitem__") ht.typeIs PyProof.Rows.slot_tuple_getitem
  (wpAny_call_entry PyProof.Rows.slot_tuple_getitem ht.typeIs entry_tuple_getitem ?_ (args_tuple_getitem _ _)))
 show wpAny _ _ (Builtin.Tuple.tupleItemsOf (.ref t) >>= _) _ _ s
 refine wpAny_bind (tupleItemsOf_ ht ?_)
 refine wpAny_bind (wpAny_typeOf hTs ?_)
 rw [if_pos (by decide)]
 refine wpAny_bind (P3 (n:=its.length) hs ?_)
 have hno:¬ ((((its.length:Int)-1)==0&&(-1:Int)==1&&its.length==its.toArray.size)=true):=by
  intro q
  rw [Bool.and_eq_true,Bool.and_eq_true] at q
  exact absurd q.1.2 (by decide)
 show wpAny _ _ (if (((its.length:Int)-1)==0&&(-1:Int)==1&&its.length==its.toArray.size)=true then _ else _) _ _ s
 rw [if_neg hno,a7h]
 first
  | exact wpAny_bind (m:=Builtin.Tuple.tupleExact _) (wpAny_newObj_type (wpAny_pure ⟨_,rfl,wpAny_pure h⟩) htake)
  | exact wpAny_bind (m:=Builtin.Tuple.tupleExact _) (wpAny_newObj_type (wpAny_bind (wpAny_pure (wpAny_pure ⟨_,rfl,wpAny_pure h⟩))) htake)
  | exact wpAny_bind (wpAny_bind (m:=Builtin.Tuple.tupleExact _) (wpAny_newObj_type (wpAny_pure (wpAny_pure ⟨_,rfl,wpAny_pure h⟩)) htake))
  | exact wpAny_bind (wpAny_bind (m:=Builtin.Tuple.tupleExact _) (wpAny_newObj_type (wpAny_pure ⟨_,rfl,wpAny_pure h⟩) htake))
end
end HT
namespace L3
open PySem PySem.Spec PyProof.Rows L2
section
variable {X:Cx} {e st:Expr} {te ts:TE} {pos p2:Pos} {cl:Nat->Addr} {xe:Addr->Hp->Prop}
def c1v (K:PySem.W.Frag) (te ts:TE):TE:=λσ H Q=>te σ H λx H1=>ts σ H1 λy H2=>y=.int (-1)/\∃ a xs,x=.ref a/\((SqL K H2 a xs/\∀ p,H2 p=none->Q (.ref p) (upd H2 p (.lst xs.reverse)))\/(SqT K H2 a xs/\∀ p,H2 p=none->Q (.ref p) (upd H2 p (.tup xs.reverse))))
theorem b5i (he:PE X e te) (hs:PE X st ts):PE X (.Subscript e (.Slice none none (some st) p2) pos) (c1v X.K te ts):=by
 intro pins s σ H Q I h
 refine Subscript_ (thn (he pins s σ H _ I h) λv s1 ⟨x,H1,I1,r1,q1⟩=>?_)
 refine wpAny_Slice ?_
 rw [evalPart_none]
 refine wpAny_pure (wpAny_pure ?_)
 rw [evalPart_some]
 refine thn (hs pins s1 σ H1 _ I1 q1) λu s3 ⟨y,H3,I3,r3,e3,a,xs,e4,hx⟩=>?_
 subst e3 e4
 obtain ⟨t,rfl⟩:=r3
 cases r1
 have I4:Inv X pins σ H3 { s3 with heap:=s3.heap.push { cls:=.type "slice",data:=.fields #[.none,.none,.int (-1) t] } }:=I3.kept (t':=s3.toks) λb ob q=>Heap.get?_push_of_some _ q
 rcases hx with ⟨hx,q⟩ | ⟨hx,q⟩
 ·obtain ⟨its,r,ht,hz⟩:=I4.list hx
  have hlen:=r.length
  have hg:wpAny (model X.prog X.w) X.A (getItem (.ref a) (.ref s3.heap.objs.size)) (EP X pins σ Q) X.xe { s3 with heap:=s3.heap.push { cls:=.type "slice",data:=.fields #[.none,.none,.int (-1) t] } }:=by
   refine wpAny_getItem_list_slice ht.isList (Heap.IsSliceOf.new ..) .none .none (.int (-1) t) (by simp) ?_ (by rw [List.size_toArray] <;> omega)
   rw [a9p]
   refine ⟨.ref _,_,I4.laid (t':=s3.toks) (o:=.lst xs.reverse) (λb ob q=>Heap.get?_push_of_some _ q) (Nat.le_refl _) ?_,rfl,q _ (I4.hok.fresh (Nat.le_refl _))⟩
   exact ⟨by rw [List.length_reverse];exact hz,_,0,V2 r,Heap.get?_push_size _ rfl⟩
  show wpAny (model X.prog X.w) X.A (subscriptTail e (.Slice none none (some st) p2) (.ref a) (.ref s3.heap.objs.size)) (EP X pins σ Q) X.xe { s3 with heap:=s3.heap.push { cls:=.type "slice",data:=.fields #[.none,.none,.int (-1) t] } }
  exact tail_any (ops:=[.ref a,.ref s3.heap.objs.size]) ht.isList.typeIs slot_list_getitem.lookup hg (by with_unfolding_all rfl)
 ·obtain ⟨its,r,ht,hz⟩:=I4.tuple hx
  have hlen:=r.length
  have hg:wpAny (model X.prog X.w) X.A (getItem (.ref a) (.ref s3.heap.objs.size)) (EP X pins σ Q) X.xe { s3 with heap:=s3.heap.push { cls:=.type "slice",data:=.fields #[.none,.none,.int (-1) t] } }:=by
   refine HT.getItem_tuple_rev ht (Heap.IsSliceOf.new ..) ?_ (by rw [<- hlen];exact hz)
   refine ⟨.ref _,_,I4.laid (t':=s3.toks) (o:=.tup xs.reverse) (λb ob q=>Heap.get?_push_of_some _ q) (Nat.le_refl _) ?_,rfl,q _ (I4.hok.fresh (Nat.le_refl _))⟩
   exact ⟨by rw [List.length_reverse];exact hz,_,V2 r,TupN.new _ _⟩
  show wpAny (model X.prog X.w) X.A (subscriptTail e (.Slice none none (some st) p2) (.ref a) (.ref s3.heap.objs.size)) (EP X pins σ Q) X.xe { s3 with heap:=s3.heap.push { cls:=.type "slice",data:=.fields #[.none,.none,.int (-1) t] } }
  exact tail_any (ops:=[.ref a,.ref s3.heap.objs.size]) ht.typeIs PyProof.Rows.slot_tuple_getitem.lookup hg (by with_unfolding_all rfl)
noncomputable def a2k (d s:D):M D:=match s with
 | .int (-1)=>(match d with
  | .tup ds=>ret (.tup ds.reverse)
  | d=>bind (lstOf d) λds=>ret (.lst ds.reverse))
 | _=>bad
theorem b8j {f g:Env->M D} (he:PE X e (tD X.K cl xe f)) (hs:PE X st (tD X.K cl xe g)):PE X (.Subscript e (.Slice none none (some st) p2) pos) (tD X.K cl xe λρ=>bind (f ρ) λx=>bind (g ρ) λy=>a2k x y):=
 PE.imp (b5i he hs) λσ H Q ⟨μ,S,ρ,eo,rp,p⟩=>⟨μ,S,ρ,eo,rp,p.bind.imp λx S1 μ1 H1 l1 r1 p1 v rv=>⟨μ1,S1,ρ,eo.later l1,r1,p1.bind.imp λy S2 μ2 H2 l2 r2 p2 u ru=>by
  unfold a2k at p2
  split at p2
  ·cases ru
   refine ⟨rfl,?_⟩
   have L:Post X.K cl xe μ2 H2 (bind (lstOf x) (λds=>ret (.lst ds.reverse)) S2) (λd _ μ' H'=>∀ v,RD X.K μ' H' d v->Q v H')->∃ a xs,v=.ref a/\((SqL X.K H2 a xs/\∀ p,H2 p=none->Q (.ref p) (upd H2 p (.lst xs.reverse)))\/(SqT X.K H2 a xs/\∀ p,H2 p=none->Q (.ref p) (upd H2 p (.tup xs.reverse)))):=λp2=>by
    obtain ⟨a,xs,ds,rfl,h1,h2,e2⟩:=j9 (rv.later l2) r2 p2.bind
    refine ⟨a,xs,rfl,.inl ⟨.inl (.inl h1),λz hz=>?_⟩⟩
    obtain ⟨l,rp2,rd2⟩:=w5 r2 (a1q h2) hz
    exact (p2.ok_bind e2) μ2 _ l rp2 _ rd2
   cases rv.later l2 with
   | tup h1 h2=>
    rename_i a xs ds
    refine ⟨a,xs,rfl,.inr ⟨h1.sq,λz hz=>?_⟩⟩
    obtain ⟨l,rp2,rd2⟩:=I0 r2 (a1q h2) hz
    exact p2 μ2 _ l rp2 _ rd2
   | _=>exact L p2
  ·exact p2.elim⟩⟩
end
noncomputable def C9 (ns:List Int):Nat:=(firstMet (λi=>ns.getD i 0) ns.length).length
section
variable {X:Cx} {e:Expr} {te:TE} {p p2 pos pos2:Pos} {cl:Nat->Addr} {xe:Addr->Hp->Prop}
theorem B6:∀ {ns:List Int} {us:List Value},Vals (ns.map V.int) us->IntsAre us ns
 | [],_,r=>by cases r;exact .nil
 | n :: ns,_,r=>by
  cases r with
  | cons h t=>
   obtain ⟨k,rfl⟩:=(show ∃ t,_=Value.int n t from h)
   exact .cons n k (B6 t)
end
end L3
namespace HT
open PySem PySem.Spec PyProof.Rows
section
variable {prog:Program} {w:World} {A:Around} {E:Value->Shared->Prop} {s:Shared}
theorem b86 {a:Addr} {us:List Value} {ob:Obj} {k:Nat} {T:String} {Q:List Value->Shared->Prop} (hT:T = "list"\/T = "tuple") (ha:s.heap.get? a=some ob) (hT2:ob.cls=.type T) (hD:ob.data=.seq us.toArray k) (hz:us.length<=sizeLine)
  (q:Q us { s with heap:=(s.heap.push (seqObj "list" #[] 0)).update s.heap.objs.size (Obj.mapSeq (·++us.toArray)) }):wpAny (model prog w) A (collect (.ref a)) Q E s:=by
 have ha2:(s.heap.push (seqObj "list" #[] 0)).get? a=some ob:=Heap.get?_push_of_some _ ha
 have hn:(s.heap.push (seqObj "list" #[] 0)).get? s.heap.objs.size=some (seqObj "list" #[] 0):=Heap.get?_push_size _ rfl
 unfold collect
 refine wpAny_bind (wpAny_runValue (codeAny_builtin PyProof.Rows.entry_proto_collect' (?_:wpAny _ _ (do again (.builtin "list.__iadd__" ⟨[<- newList [],.ref a],[]⟩)) _ _ s)))
 refine wpAny_bind (wpAny_newList (wpAny_pure ⟨Code.quiet_builtin _ (by decide +kernel),codeAny_builtin PyProof.Rows.entry_list_iadd' (?_:wpAny _ _ (Builtin.List.listExtendWith (.ref s.heap.objs.size) (.ref a) (.ref s.heap.objs.size)) _ _ { s with heap:=s.heap.push (seqObj "list" #[] 0) })⟩))
 unfold Builtin.List.listExtendWith
 refine wpAny_bind (wpAny_typeOf (T:=T) ⟨ob,ha2,hT2⟩ ?_)
 rw [if_pos (by rcases hT with rfl | rfl <;> simp)]
 refine wpAny_bind (PyProof.Rows.listItems_at ha2 hD (wpAny_bind (PyProof.Rows.listItems_at hn rfl ?_)))
 rw [if_neg (by simp)]
 refine wpAny_bind (PyProof.Rows.listUpdate_at hn rfl (wpAny_pure ?_) (Nat.zero_le _) (by rw [Array.size_append];show 0+us.toArray.size<=_;rw [List.size_toArray];omega))
 show wpAny (model prog w) A (load s.heap.objs.size >>= _) Q E _
 refine wpAny_bind (wpAny_load (PyProof.Rows.get?_update_seq hn _) ?_)
 show wpAny _ _ (pure ((#[]:Array Value)++us.toArray).toList) Q E _
 have e:((#[]:Array Value)++us.toArray).toList=us:=by simp
 rw [e]
 exact wpAny_pure q
theorem sorted_seq {a:Addr} {us:List Value} {ob:Obj} {k:Nat} {T:String} {ns:List Int} {Q:Value->Shared->Prop} (hT:T = "list"\/T = "tuple") (ha:s.heap.get? a=some ob) (hT2:ob.cls=.type T) (hD:ob.data=.seq us.toArray k) (hI:IntsAre us ns) (few:us.length<64)
  (q:∀ (out:Array Value) (ms:List Int),IntsAre out.toList ms->ms.Perm ns->ms.Pairwise (·<=·)->Q (.ref (s.heap.objs.size+1)) { s with heap:=sortedAll s.heap us out }):wpAny (model prog w) A (call (.builtin "sorted") [.ref a]) Q E s:=by
 refine Calls.call_function_entry PyProof.Rows.kind_sorted PyProof.Rows.plain_sorted PyProof.Rows.entry_sorted (PyProof.Rows.args_sorted1 _) ?_
 unfold Builtin.«sorted»
 refine wpAny_bind (m:=checkCount "sorted" 1 1 _) (wpAny_pure (wpAny_bind (b86 hT ha hT2 hD (by rw [sizeLine_eq];omega) (wpAny_bind (wpAny_newList ?_)))))
 have sz:((s.heap.push (seqObj "list" #[] 0)).update s.heap.objs.size (Obj.mapSeq (·++us.toArray))).objs.size=s.heap.objs.size+1:=by
  rw [Heap.size_update,PyProof.Rows.size_push']
 have at_:(((s.heap.push (seqObj "list" #[] 0)).update s.heap.objs.size (Obj.mapSeq (·++us.toArray))).push (seqObj "list" us.toArray 0)).get? (s.heap.objs.size+1)=some (seqObj "list" us.toArray 0):=sz▸Heap.get?_push_size _ rfl
 show wpAny _ _ _ _ _ { s with heap:=((s.heap.push (seqObj "list" #[] 0)).update s.heap.objs.size (Obj.mapSeq (·++us.toArray))).push (seqObj "list" us.toArray 0) }
 rw [sz]
 refine wpAny_bind (wpAny_holding (wpAny_call_entry PyProof.Rows.slot_list_sort ⟨_,at_,rfl⟩ PyProof.Rows.entry_list_sort (PyProof.Rows.list_sort_tree at_ hI few λout ms b1 b2 b3=>⟨_,rfl,wpAny_pure ⟨_,rfl,q out ms b1 b2 b3⟩⟩) (PyProof.Rows.args_list_sort _)))
end
end HT
namespace L3
open PySem PySem.Spec PyProof.Rows L2
noncomputable def a4z (x:Int):List Int->List Int
 | []=>[x]
 | y :: ys=>if x<=y then x :: y :: ys else y :: a4z x ys
noncomputable def srt:List Int->List Int
 | []=>[]
 | x :: xs=>a4z x (srt xs)
theorem V6 (x:Int):∀ l:List Int,(a4z x l).Perm (x :: l)
 | []=>.refl _
 | y :: ys=>by
  unfold a4z
  split
  ·exact .refl _
  ·exact ((V6 x ys).cons y).trans (.swap x y ys)
theorem b4:∀ l:List Int,(srt l).Perm l
 | []=>.refl _
 | x :: xs=>(V6 x (srt xs)).trans ((b4 xs).cons x)
theorem b2b (x:Int):∀ l:List Int,l.Pairwise (·<=·)->(a4z x l).Pairwise (·<=·)
 | [],_=>by simp [a4z]
 | y :: ys,h=>by
  unfold a4z
  rw [List.pairwise_cons] at h
  split
  ·rename_i c
   rw [List.pairwise_cons]
   refine ⟨λz hz=>?_,List.pairwise_cons.mpr h⟩
   rcases List.mem_cons.mp hz with e | e
   ·omega
   ·have:=h.1 z e;omega
  ·rename_i c
   rw [List.pairwise_cons]
   refine ⟨λz hz=>?_,b2b x ys h.2⟩
   rcases List.mem_cons.mp ((V6 x ys).mem_iff.mp hz) with e | e
   ·omega
   ·exact h.1 z e
theorem P9:∀ l:List Int,(srt l).Pairwise (·<=·)
 | []=>.nil
 | x :: xs=>b2b x _ (P9 xs)
theorem a1e:∀ {a b:List Int},a.Perm b->a.Pairwise (·<=·)->b.Pairwise (·<=·)->a=b
 | [],b,p,_,_=>by
  have:=p.length_eq
  cases b with
  | nil=>rfl
  | cons _ _=>simp at this
 | x :: a,[],p,_,_=>by have:=p.length_eq;simp at this
 | x :: a,y :: b,p,ha,hb=>by
  rw [List.pairwise_cons] at ha hb
  have h1:x∈y :: b:=p.mem_iff.mp (List.mem_cons_self ..)
  have h2:y∈x :: a:=p.mem_iff.mpr (List.mem_cons_self ..)
  have e:x=y:=by
   rcases List.mem_cons.mp h1 with e | e
   ·exact e
   ·rcases List.mem_cons.mp h2 with f | f
    ·exact f.symm
    ·have:=ha.1 y f;have:=hb.1 x e;omega
  subst e
  rw [a1e (List.Perm.cons_inv p) ha.2 hb.2]
theorem O0:∀ {us:List Value} {ns:List Int},IntsAre us ns->Vals (ns.map V.int) us
 | _,_,.nil=>.nil
 | _,_,.cons n t h=>.cons ⟨t,rfl⟩ (O0 h)
section
variable {X:Cx} {cl:Nat->Addr} {xe:Addr->Hp->Prop}
theorem a1m:i5 X (.builtin "sorted") (λxs H Q=>∃ (a:Addr) (ns:List Int),xs=[.ref a]/\(SqL X.K H a (ns.map V.int)\/SqT X.K H a (ns.map V.int))/\ns.length<64/\∀ p,H p=none->Q (.ref p) (upd H p (.lst ((srt ns).map V.int)))):=by
 intro pins s σ H xs us Q I r h
 obtain ⟨a,ns,rfl,hs,hl,q⟩:=h
 obtain ⟨u,rfl,ru⟩:=E1 r
 cases ru
 have gen:∀ (ob:Obj) (k:Nat) (T:String) (its:List Value),(T = "list"\/T = "tuple")->s.heap.get? a=some ob->ob.cls=.type T->ob.data=.seq its.toArray k->Vals (ns.map V.int) its->wpAny (model X.prog X.w) X.A (call (.builtin "sorted") [.ref a]) (EP X pins σ Q) X.xe s:=λob k T its hT h1 h2 h3 rv=>by
  have hlen:its.length=ns.length:=by rw [<- rv.length,List.length_map]
  refine HT.sorted_seq hT h1 h2 h3 (B6 rv) (by omega) λout ms b1 b2 b3=>?_
  have e:ms=srt ns:=a1e (b2.trans (b4 ns).symm) b3 (P9 ns)
  subst e
  obtain ⟨ep,he⟩:=sortedAll_at s.heap its out
  have hf:H (s.heap.objs.size+1)=none:=I.hok.fresh (Nat.le_succ _)
  refine ⟨.ref (s.heap.objs.size+1),_,I.laid (t':=s.toks) (o:=.lst ((srt ns).map V.int)) (λb ob q=>sortedAll_old q) (Nat.le_succ _) ?_,rfl,q _ hf⟩
  refine ⟨by rw [List.length_map,(b4 ns).length_eq,sizeLine_eq];omega,out.toList,ep,O0 b1,?_⟩
  rw [Array.toArray_toList]
  exact he
 rcases hs with hs | hs
 ·obtain ⟨its,rv,⟨o,n,e,c,d0,d⟩,_⟩:=I.list hs
  exact gen o n "list" its (.inl rfl) e c d rv
 ·obtain ⟨its,rv,⟨o,e,c,n,d⟩,_⟩:=I.tuple hs
  exact gen o n "tuple" its (.inr rfl) e c d rv
noncomputable def v3 (d:D):M D:=bind (u3 d) λds=>match j7 ds with
 | some ns=>if ns.length<64 then ret (.lst ((srt ns).map D.int)) else bad
 | none=>bad
theorem b0x:i5 X (.builtin "sorted") (rPs X.K cl xe (one v3)):=D1 λpins s σ H μ S d v us Q I r rd rp p=>by
 obtain ⟨a,xs,ds,rfl,h1,h2,e2⟩:=E5 rd rp p.bind
 have p:=p.ok_bind e2
 cases e:j7 ds with
 | none=>rw [e] at p;exact p.elim
 | some ns=>
  rw [e] at p
  obtain ⟨hz,p⟩:=Post.guard p
  have:=A4 e h2
  subst this
  refine a1m pins s σ H _ us Q I r ⟨a,ns,rfl,h1,hz,λz hz=>?_⟩
  obtain ⟨l,rp2,rd2⟩:=w5 rp (RDs.ints (srt ns)) hz
  exact p μ _ l rp2 _ rd2
end
section
variable {X:Cx} {cl:Nat->Addr} {xe:Addr->Hp->Prop} {o e:Expr} {es:List Expr} {f:Env->M D} {fs:Env->M (List D)} {apos cpos:Pos} {name:Str} {T T2 id id2:String} {r r2:V->List V->Hp->VK->Prop} {α:Type}
def a5q (K:PySem.W.Frag) (cl:Nat->Addr) (xe:Addr->Hp->Prop) (T:String) (g:D->M α):Prop:=∀ (μ:Mp) (S:Sto) (H:Hp) (x:D) (v:V) (G:α->Sto->Mp->Hp->Prop),RD K μ H x v->Rep K cl μ S H->Post K cl xe μ H (g x S) G->tyV K T v H/\∃ a,g x S=.ok a S
def b6r (K:PySem.W.Frag) (cl:Nat->Addr) (xe:Addr->Hp->Prop) (r:V->List V->Hp->VK->Prop) (op:D->List D->M D):Prop:=∀ (μ:Mp) (S:Sto) (H:Hp) (x:D) (v:V) (ds:List D) (vs:List V) (Q:VK),RD K μ H x v->RDs K μ H ds vs->Rep K cl μ S H->Post K cl xe μ H (op x ds S) (λd _ μ' H'=>∀ w,RD K μ' H' d w->Q w H')->r v vs H Q
theorem a5u {g:D->M α} {op:D->List D->M D} (pa:PlainAttrs T) (slot:Slot T name id) (hty:typeOf (.builtin id)=pure (.type "method_descriptor")) (hm:MtR X id r) (hg:a5q X.K cl xe T g) (hd:b6r X.K cl xe r op) (ho:PE X o (tD X.K cl xe f)) (ha:PA X (e :: es) (tDs X.K cl xe fs))
  (hb:A6 o=true) (hs:(e :: es).all b5=true) (hf:B8 (e :: es)=true) (hl:(apos.endLine==cpos.line)=true) :
  PE X (.Call (.Attribute o name apos) (e :: es) [] cpos) (tD X.K cl xe λρ=>bind (f ρ) λx=>bind (g x) λ_=>bind (fs ρ) λds=>op x ds):=by
 have hs2:=hs
 rw [List.all_cons,Bool.and_eq_true] at hs2
 refine PE.imp (b6k pa slot hty hm ho ha (N8 hb) (a96 hs hf) hl (d5 hs2.1) (A2 hs2.2)) λσ H Q ⟨μ,S,ρ,eo,rp,p⟩=>?_
 refine ⟨μ,S,ρ,eo,rp,p.bind.imp λx S1 μ1 H1 l1 r1 p1 xv rx=>?_⟩
 obtain ⟨ty,a,ea⟩:=hg μ1 S1 H1 x xv _ rx r1 p1.bind
 have p1:=p1.ok_bind ea
 exact ⟨ty,μ1,S1,ρ,eo.later l1,r1,p1.bind.imp λds S2 μ2 H2 l2 r2 p2 vs rvs=>hd μ2 S2 H2 x xv ds vs Q (rx.later l2) rvs r2 p2⟩
theorem RDs.erase {K:PySem.W.Frag} {μ:Mp} {H:Hp}:∀ {ds:List D} {vs:List V} (n:Nat),RDs K μ H ds vs->RDs K μ H (ds.eraseIdx n) (vs.eraseIdx n)
 | _,_,_,.nil=>.nil
 | _,_,0,.cons h r=>r
 | _,_,n+1,.cons h r=>.cons h (RDs.erase n r)
noncomputable def popD (x:D) (ds:List D):M D:=match x,ds with
 | .ref n,[.int i]=>λS=>match S[n]? with
  | some (.lst es)=>if -(2 ^ 63)<=i/\i<2 ^ 63 then (match ixN es.length i with
   | some j=>(match es[j]? with
    | some y=>.ok y (S.set n (.lst (es.eraseIdx j)))
    | none=>.bad)
   | none=>.bad) else .bad
  | _=>.bad
 | _,_=>bad
theorem V8:a5q X.K cl xe "list" lstOf:=λμ S H x v G rx rp p=>by
 obtain ⟨a,xs,ds,rfl,h1,h2,e⟩:=j9 rx rp p
 exact ⟨.inl ⟨rfl,_,.inl (.inl h1)⟩,ds,e⟩
theorem b2e:b6r X.K cl xe rPopAt popD:=λμ S H x v ds vs Q rx rvs rp p=>by
 unfold popD at p
 split at p
 ·rename_i n i
  cases rvs with
  | cons h t=>
   cases t;cases h
   cases rx with
   | ref e=>
    rename_i a
    cases q1:S[n]? with
    | none=>rw [q1] at p;exact p.elim
    | some o=>
     rw [q1] at p
     cases o with
     | lst es=>
      obtain ⟨xs,h1,h2⟩:=rp.ats n _ a q1 e
      dsimp only at p
      by_cases hb:-(2 ^ 63)<=i/\i<2 ^ 63
      ·rw [if_pos hb] at p
       cases q2:ixN es.length i with
       | none=>rw [q2] at p;exact p.elim
       | some j=>
        rw [q2] at p
        dsimp only at p
        cases q3:es[j]? with
        | none=>rw [q3] at p;exact p.elim
        | some y=>
         rw [q3] at p
         obtain ⟨y',e4,r4⟩:=h2.get q3
         have ml:a∈μ.pl:=List.mem_of_getElem? e
         refine ⟨a,xs,i,j,y',rfl,rfl,h1,hb.1,hb.2,by rw [<- h2.length];exact (a1i q2).1,e4,?_⟩
         have la:Lat μ H μ (upd H a (.lst (xs.eraseIdx j))):=Lat.wrote ml
         exact p μ _ la (rp.wrote e ⟨_,b9,(h2.erase j).later la⟩) _ (r4.later la)
      ·rw [if_neg hb] at p;exact p.elim
     | dct _=>exact p.elim
     | exc _ _=>exact p.elim
 ·exact p.elim
end
section
variable {X:Cx} {cl:Nat->Addr} {xe:Addr->Hp->Prop} {o e:Expr} {es:List Expr} {f:Env->M D} {p p2 pos pos2:Pos} {te:TE}
noncomputable def rgL (n:Nat):List Int:=(List.range n).map λ(k:Nat)=>(k:Int)
theorem b21 {acc:List Value} {n:Nat} (hl:acc.length=n) (h:∀ (i:Nat) (v:Value),acc[i]?=some v->∃ t,v=Value.int (i:Int) t):Vals ((rgL n).map V.int) acc:=by
 have gen:∀ (k:Nat) (l:List Value) (b:Nat),l.length=k->(∀ (i:Nat) (v:Value),l[i]?=some v->∃ t,v=Value.int ((b+i:Nat):Int) t)->Vals ((List.range' b k).map λ(j:Nat)=>V.int (j:Int)) l:=by
  intro k
  induction k with
  | zero=>intro l b hl _;cases l with
   | nil=>exact .nil
   | cons _ _=>simp at hl
  | succ k ih=>
   intro l b hl hv
   cases l with
   | nil=>simp at hl
   | cons v l=>
    rw [List.range'_succ,List.map_cons]
    refine .cons ?_ (ih l (b+1) (by simpa using hl) λi w hw=>?_)
    ·obtain ⟨t,e⟩:=hv 0 v rfl
     exact ⟨t,by rw [e];simp⟩
    ·obtain ⟨t,e⟩:=hv (i+1) w (by simpa using hw)
     exact ⟨t,by rw [e];congr 2;omega⟩
 have:=gen n acc 0 hl λi v hv=>by
  obtain ⟨t,e⟩:=h i v hv
  exact ⟨t,by rw [e];simp⟩
 unfold rgL
 rw [List.map_map,List.range_eq_range']
 exact this
def b30 (te:TE):TE:=λσ H Q=>te σ H λx H1=>∃ n:Nat,x=.int (n:Int)/\n<100000/\∀ q,H1 q=none->Q (.ref q) (upd H1 q (.lst ((rgL n).map V.int)))
theorem a8s (hc:X.calm=true) (hl:Gl X "list") (ml:X.mg "list" = none) (hr:Gl X "range") (mr:X.mg "range" = none) (he:PE X e te) (hn:b5 e=true):PE X (.Call (.Name "list" p) [.Call (.Name "range" p2) [e] [] pos2] [] pos) (b30 te):=by
 intro pins s σ H Q I h
 have hh:X.A.handled=none:=I.ok.hd hc
 refine wpAny_Call_Name_kw (y4 I hl ml (by rfl) ?_ (by decide) (by decide))
 refine PyProof.Rows.callWith_type1 ?_ rfl rfl
 show wpAny _ _ (spliced ((false,eval (.Call (.Name "range" p2) [e] [] pos2) X.env) :: backTo pos (starEach [] X.env))) _ _ s
 refine Calls.spliced_cons ?_
 refine wpAny_Call_Name_kw (y4 I hr mr boot_range ?_ (by decide) (by decide))
 refine PyProof.Rows.callWith_type1 ?_ (d5 hn) rfl
 rw [d5 hn]
 show wpAny _ _ (spliced ((false,eval e X.env) :: backTo pos2 (starEach [] X.env))) _ _ s
 refine Calls.spliced_cons (thn (he pins s σ H _ I h) λu s1 ⟨x,H1,I1,r1,n,e1,hz,q⟩=>?_)
 subst e1
 obtain ⟨t,rfl⟩:=r1
 refine Calls.spliced_nil (call_range_1 (Calls.spliced_nil ?_))
 have rs:Builtin.Range.rangeSize 0 (n:Int) 1=(n:Int):=by rw [rangeSize_one];split <;> omega
 refine call_list_range hh (IsRange.new ..) (small_one (by omega) (by omega) (by omega) (by omega)) rs (by omega) λh' tk acc c hk hS hacc=>?_
 have I2:=I1.kept (t':=s1.toks+1+1) (h':=s1.heap.push { cls:=.type "range",data:=.fields #[.int 0 s1.toks,.int (n:Int) t,.int 1 (s1.toks+1)] }) λb ob q=>Heap.get?_push_of_some _ q
 refine ⟨.ref _,_,Inv.laid (t':=tk) (o:=.lst ((rgL n).map V.int)) I2 hk (Nat.le_refl _) ?_,rfl,q _ (I2.hok.fresh (Nat.le_refl _))⟩
 refine ⟨by rw [List.length_map];show (rgL n).length<=_;unfold rgL;rw [List.length_map,List.length_range,sizeLine_eq];omega,acc.toList,c,b21 (by rw [Array.length_toList];exact hacc.1) (λi v hv=>?_),?_⟩
 ·obtain ⟨t',e⟩:=hacc.2 i v (by rw [<- Array.getElem?_toList];exact hv)
  exact ⟨t',by rw [e];simp⟩
 ·rw [Array.toArray_toList];exact hS
noncomputable def C1 (d:D):M D:=match d with
 | .int i=>if 0<=i/\i<100000 then ret (.lst ((rgL i.toNat).map D.int)) else bad
 | _=>bad
theorem a8l (hc:X.calm=true) (hl:Gl X "list") (ml:X.mg "list" = none) (hr:Gl X "range") (mr:X.mg "range" = none) (he:PE X e (tD X.K cl xe f)) (hn:b5 e=true):PE X (.Call (.Name "list" p) [.Call (.Name "range" p2) [e] [] pos2] [] pos) (tD X.K cl xe λρ=>bind (f ρ) C1):=
 PE.imp (a8s hc hl ml hr mr he hn) λσ H Q ⟨μ,S,ρ,eo,rp,p⟩=>⟨μ,S,ρ,eo,rp,p.bind.imp λd S1 μ1 H1 l1 r1 p1 v rv=>by
  cases rv with
  | int i=>
   obtain ⟨hi,p1⟩:=Post.guard p1
   refine ⟨i.toNat,by rw [Int.toNat_of_nonneg hi.1],by omega,λz hz=>?_⟩
   obtain ⟨l,rp2,rd2⟩:=w5 r1 (RDs.ints (rgL i.toNat)) hz
   exact p1 μ1 _ l rp2 _ rd2
  | _=>exact False.elim p1⟩
theorem a44:MtR X "list.extend" (λx vs H Q=>∃ l b xs zs,x=.ref l/\vs=[.ref b]/\H l=some (.lst xs)/\(SqL X.K H b zs\/SqT X.K H b zs)/\xs.length+zs.length<=sizeLine/\Q .non (upd H l (.lst (xs++zs)))):=by
 intro pins s σ H x vs v us Q I rx rv h
 obtain ⟨l,b,xs,zs,rfl,rfl,hH,hB,hz,q⟩:=h
 cases rx
 obtain ⟨u,rfl,ru⟩:=rv.one
 cases ru
 obtain ⟨z,its,n,r,hl,e⟩:=I.lstM hH
 have gen:∀ (ob:Obj) (k:Nat) (T:String) (is2:List Value),(T = "list"\/T = "tuple")->s.heap.get? b=some ob->ob.cls=.type T->ob.data=.seq is2.toArray k->Vals zs is2->wpAny (model X.prog X.w) X.A (call (.builtin "list.extend") [.ref l,.ref b]) (EP X pins σ Q) X.xe s:=λob k T is2 hT h1 h2 h3 rv2=>by
  have hsz:its.toArray.size+is2.toArray.size<=sizeLine:=by rw [List.size_toArray,List.size_toArray,<- rv2.length];omega
  have hlong:¬ (!its.toArray.isEmpty&&Builtin.List.listTooLong (its.toArray.size+is2.toArray.size))=true:=by
   rw [a3o hsz,Bool.and_false]
   exact Bool.false_ne_true
  have ht:s.TypeIs (.ref l) "list":=⟨_,e,rfl⟩
  refine wpAny_call_entry F.slot_list_extend ht F.entry_list_extend ?_ (F.args_list_extend_2 _ _)
  show wpAny _ _ (Builtin.List.listExtendWith (.ref l) (.ref b) .none) _ _ s
  unfold Builtin.List.listExtendWith
  refine wpAny_bind (wpAny_typeOf (T:=T) ⟨ob,h1,h2⟩ ?_)
  rw [if_pos (by rcases hT with rfl | rfl <;> simp)]
  refine wpAny_bind (PyProof.Rows.listItems_at h1 h3 (wpAny_bind (PyProof.Rows.listItems_at e rfl ?_)))
  rw [if_neg hlong]
  refine wpAny_bind (PyProof.Rows.listUpdate_at e rfl (wpAny_pure ?_) (by rw [List.size_toArray];omega) (by rw [Array.size_append];omega))
  refine ⟨_,rfl,.non,_,I.lset (its':=its++is2) hH e (by simp) (r.append rv2) ?_,rfl,q⟩
  rw [List.length_append]
  omega
 rcases hB with hB | hB
 ·obtain ⟨is2,rv2,⟨o,k,e2,c,d0,d⟩,_⟩:=I.list hB
  exact gen o k "list" is2 (.inl rfl) e2 c d rv2
 ·obtain ⟨is2,rv2,⟨o,e2,c,k,d⟩,_⟩:=I.tuple hB
  exact gen o k "tuple" is2 (.inr rfl) e2 c d rv2
noncomputable def extD (x:D) (ds:List D):M D:=match x,ds with
 | .ref n,[.tup ys]=>λS=>match S[n]? with
  | some (.lst es)=>if es.length+ys.length<=sizeLine then .ok .non (S.set n (.lst (es++ys))) else .bad
  | _=>.bad
 | .ref n,[.lst ys]=>λS=>match S[n]? with
  | some (.lst es)=>if es.length+ys.length<=sizeLine then .ok .non (S.set n (.lst (es++ys))) else .bad
  | _=>.bad
 | _,_=>bad
theorem b2p:b6r X.K cl xe (λx vs H Q=>∃ l b xs zs,x=.ref l/\vs=[.ref b]/\H l=some (.lst xs)/\(SqL X.K H b zs\/SqT X.K H b zs)/\xs.length+zs.length<=sizeLine/\Q .non (upd H l (.lst (xs++zs)))) extD:=λμ S H x v ds vs Q rx rvs rp p=>by
 have gen:∀ (n:Nat) (a b:Addr) (ys:List D) (zs:List V),μ.pl[n]?=some a->(SqL X.K H b zs\/SqT X.K H b zs)->RDs X.K μ H ys zs->Post X.K cl xe μ H (match S[n]? with
   | some (.lst es)=>if es.length+ys.length<=sizeLine then R.ok D.non (S.set n (.lst (es++ys))) else .bad
   | _=>.bad) (λd _ μ' H'=>∀ w,RD X.K μ' H' d w->Q w H')->∃ l b' xs zs',V.ref a=.ref l/\[V.ref b]=[.ref b']/\H l=some (.lst xs)/\(SqL X.K H b' zs'\/SqT X.K H b' zs')/\xs.length+zs'.length<=sizeLine/\Q .non (upd H l (.lst (xs++zs'))):=λn a b ys zs e hs hr p=>by
  cases q1:S[n]? with
  | none=>rw [q1] at p;exact p.elim
  | some o=>
   rw [q1] at p
   cases o with
   | lst es=>
    obtain ⟨xs,h1,h2⟩:=rp.ats n _ a q1 e
    dsimp only at p
    by_cases hz:es.length+ys.length<=sizeLine
    ·rw [if_pos hz] at p
     have ml:a∈μ.pl:=List.mem_of_getElem? e
     refine ⟨a,b,xs,zs,rfl,rfl,h1,hs,by rw [<- h2.length,<- hr.length];exact hz,?_⟩
     have la:Lat μ H μ (upd H a (.lst (xs++zs))):=Lat.wrote ml
     exact p μ _ la (rp.wrote e ⟨_,b9,(h2.append hr).later la⟩) _ .non
    ·rw [if_neg hz] at p;exact p.elim
   | dct _=>exact p.elim
   | exc _ _=>exact p.elim
 unfold extD at p
 split at p
 ·rename_i n ys
  cases rvs with
  | cons h t=>
   cases t
   cases rx with
   | ref e=>
    cases h with
    | tup h1 h2=>
     rename_i a b zs
     exact gen n a b ys zs e (.inr h1.sq) h2 p
 ·rename_i n ys
  cases rvs with
  | cons h t=>
   cases t
   cases rx with
   | ref e=>
    cases h with
    | lst h1 h2=>
     rename_i a b zs
     exact gen n a b ys zs e (.inl h1.sq) h2 p
 ·exact p.elim
noncomputable def listP (d:D):M D:=bind (u3 d) λds=>λS=>.ok (.ref S.length) (S++[.lst ds])
theorem b5z:i5 X (.type "list") (rPs X.K cl xe (one listP)):=D1 λpins s σ H μ S d v us Q I r rd rp p=>by
 obtain ⟨a,xs,ds,rfl,h1,h2,e2⟩:=E5 rd rp p.bind
 refine L8 pins s σ H _ us Q I r ⟨a,xs,rfl,h1,λz hz=>?_⟩
 obtain ⟨l,rp2,rd2⟩:=a0k rp h2 hz
 exact (p.ok_bind e2) _ _ l rp2 _ rd2
end
end L3
namespace HT
open PySem PySem.Spec PyProof.Rows
noncomputable def f8 (led:Bool):Obj:={ cls:=.type "set",dict:=none,data:=.set #[] 0 (.fresh 0 0 led) }
section
variable {prog:Program} {w:World} {A:Around} {E:Value->Shared->Prop} {s:Shared}
theorem a21 {t:Addr} {its:Array Value} {ns:List Int} {led:Bool} (hh:A.handled=none) (ht:s.heap.IsTuple t its) (hi:IntsAre its.toList ns) (hb:its.size+1<scanBound) (P:Fin->Shared->Prop) (E':Value->Shared->Prop)
  (h:∀ (g:Heap) (tk:Nat),g.SetOf (intKind prog w) s.heap.objs.size (λk=>(firstMet (λi=>ns.getD i 0) its.size).any (·==k)) (firstMet (λi=>ns.getD i 0) its.size).length ->
   (∀ b o,b<s.heap.objs.size->s.heap.get? b=some o->g.get? b=some o)->P (.done (.ret .none)) { s with heap:=g,toks:=tk }) :
  wpAny (model prog w) A (Builtin.«set.__init__» ⟨[.ref s.heap.objs.size,.ref t],[]⟩) P E' { s with heap:=s.heap.push (f8 led) }:=by
 have gS:(s.heap.push (f8 led)).get? s.heap.objs.size=some (f8 led):=Heap.get?_push_size _ rfl
 obtain ⟨ob,eo,ec,n,ed⟩:=ht
 obtain ⟨cls,dict,data,slots⟩:=ob
 dsimp only at ec ed
 subst ec ed
 have e1:=Heap.get?_push_of_some (f8 led) eo
 have t1:(s.heap.push (f8 led)).IsTuple t its:=⟨_,e1,rfl,n,rfl⟩
 have lt:=Heap.lt_size eo
 have q1:=F.sub_tuple_set
 have q2:=F.sub_tuple_frozenset
 have q3:(Value.type "tuple" == Value.type "dict")=false:=by decide
 unfold Builtin.«set.__init__» noKeywords Builtin.Frozenset.updateFrom
 generalize hp:pyIter=pI
 wp_walk
 subst hp
 refine wpAny_pyIter_tuple t1 (wpAny_bind (wpAny_runValue ?_))
 have ne:t≠(s.heap.push (f8 led)).objs.size:=by rw [Heap.size_push];exact Nat.ne_of_lt (Nat.lt_succ_of_lt lt)
 have nS:s.heap.objs.size∉[(s.heap.push (f8 led)).objs.size,t]:=by
  rw [Heap.size_push]
  simp only [List.mem_cons,List.not_mem_nil,or_false,not_or]
  exact ⟨Nat.ne_of_lt (Nat.lt_succ_self _),Nat.ne_of_gt lt⟩
 have val:∀ (i:Nat) (v:Value),its[i]?=some v->∃ tk,v=.int ((λi=>ns.getD i 0) i) tk:=λi v hv=>IntsAre.int_at hi i v (by rw [Array.getElem?_toList];exact hv)
 have h3:A.in1.handled=none:=by simp [hh]
 refine codeAny_set_update_loopS ((Walks.tuple h3 _ t ne its).toS) s.heap.objs.size nS (λi=>ns.getD i 0) val hb (its.size-0) 0 _ (by omega) (Nat.zero_le _) ⟨⟨_,Heap.get?_push_size _ rfl,rfl,rfl⟩,t1.push _⟩ ?_ ?_
 ·exact SetOf_congr ((setObjOf_fresh (knd:=intKind prog w) led).setOf (Heap.get?_push_of_some _ gS) (by unfold scanBound;omega)) (λ_=>rfl) rfl
 ·rintro ⟨g,gn,dr,tk,os⟩ mv hS
  have z1:gn=s.gens:=mv.gens
  have z2:dr=s.drawn:=mv.drawn
  have z3:os=s.os:=mv.os
  subst z1 z2 z3
  refine wpAny_pure ?_
  show wpAny _ _ (ret Value.none) _ _ _
  refine wpAny_pure (h g tk hS λb o hb e=>mv.heap b o ?_ (Heap.get?_push_of_some _ (Heap.get?_push_of_some _ e)))
  simp only [List.mem_cons,List.not_mem_nil,or_false,not_or]
  exact ⟨Nat.ne_of_lt hb,by rw [Heap.size_push];exact Nat.ne_of_lt (Nat.lt_succ_of_lt hb)⟩
theorem call_set_tup {t:Addr} {its:Array Value} {ns:List Int} {Q:Value->Shared->Prop} (hh:A.handled=none) (ht:s.heap.IsTuple t its) (hi:IntsAre its.toList ns) (hb:its.size+1<scanBound)
  (h:∀ (g:Heap) (tk:Nat),g.SetOf (intKind prog w) s.heap.objs.size (λk=>(firstMet (λi=>ns.getD i 0) its.size).any (·==k)) (firstMet (λi=>ns.getD i 0) its.size).length ->
   (∀ b o,b<s.heap.objs.size->s.heap.get? b=some o->g.get? b=some o)->Q (.ref s.heap.objs.size) { s with heap:=g,toks:=tk }):wpAny (model prog w) A (call (.type "set") [.ref t]) Q E s:=by
 obtain ⟨c,tl,m1⟩:=PySem.F.called_set.mro
 have m2:=PySem.F.called_set.made
 have m3:=PySem.F.called_set.sub
 refine wpAny_call (codeAny_of_tree ?_)
 show wpAny _ _ (callAny (.type "set") _) _ _ _
 refine wpAny_pure ⟨Code.quiet_builtin _ (by decide +kernel),codeAny_builtin PySem.F.entry_type_call ?_⟩
 rw [Around.under_plain (weight_type_call_type "set" [.ref t] []) rfl]
 have m4:=PySem.F.called_set.notType
 have m5:=PySem.F.called_set.canCreate
 have m6:=PySem.F.typeCall_set_1 (.ref t)
 repeat (any_goals (first | assumption | wp_step))
 refine codeAny_mono (code_set_new_1 (.ref t) (E:=E) (Q₁:=λr z=>∃ led:Bool,r=.ref s.heap.objs.size/\z={ s with heap:=s.heap.push (f8 led) }) λled=>⟨led,rfl,rfl⟩) λr z hr=>?_
 match r,hr with
 | .error _,hr=>exact hr
 | .ok .next,hr=>exact hr.elim
 | .ok .brk,hr=>exact hr.elim
 | .ok .cont,hr=>exact hr.elim
 | .ok (.ret r),hr=>
  obtain ⟨led,rfl,rfl⟩:=hr
  have tT:Shared.TypeIs { s with heap:=s.heap.push (f8 led) } (.ref s.heap.objs.size) "set":=⟨_,Heap.get?_push_size _ rfl,rfl⟩
  have m7:=PySem.F.called_set.init.lookup
  have m8:=PySem.F.called_set.init.bind (.ref s.heap.objs.size)
  repeat (any_goals (first | assumption | wp_step))
  refine codeAny_mono (codeAny_call_builtin (R:=wants (λr z=>r=.none/\∃ g tk,z={ s with heap:=g,toks:=tk }/\g.SetOf (intKind prog w) s.heap.objs.size (λk=>(firstMet (λi=>ns.getD i 0) its.size).any (·==k)) (firstMet (λi=>ns.getD i 0) its.size).length /\
   (∀ b o,b<s.heap.objs.size->s.heap.get? b=some o->g.get? b=some o)) E) PySem.F.called_set.init.plain PySem.F.entry_set_init (check_set_init_1 tT ?_)) λr z hr=>?_
  ·exact a21 (by simp [hh]) ht hi hb _ _ λg tk hS hk=>⟨rfl,g,tk,rfl,hS,hk⟩
  ·match r,hr with
   | .error _,hr=>exact hr
   | .ok .next,hr=>exact hr.elim
   | .ok .brk,hr=>exact hr.elim
   | .ok .cont,hr=>exact hr.elim
   | .ok (.ret r),hr=>
    obtain ⟨rfl,g,tk,rfl,hS,hk⟩:=hr
    repeat (any_goals (first | assumption | wp_step))
    exact h _ _ hS hk
end
end HT
namespace L3
open PySem PySem.Spec PyProof.Rows L2
section
variable {X:Cx} {e:Expr} {te:TE} {p p2 pos pos2:Pos} {cl:Nat->Addr} {xe:Addr->Hp->Prop}
def b1q (K:PySem.W.Frag) (te:TE):TE:=λσ H Q=>te σ H λx H1=>∃ a ns,x=.ref a/\(SqL K H1 a (ns.map V.int)\/SqT K H1 a (ns.map V.int))/\ns.length<4000/\Q (.int (C9 ns:Nat)) H1
theorem a42 (hc:X.calm=true) (hl:Gl X "len") (ml:X.mg "len" = none) (hs:Gl X "set") (ms:X.mg "set" = none) (he:PE X e te) (hn:b5 e=true):PE X (.Call (.Name "len" p) [.Call (.Name "set" p2) [e] [] pos2] [] pos) (b1q X.K te):=by
 intro pins s σ H Q I h
 have hh:X.A.handled=none:=I.ok.hd hc
 refine wpAny_Call_Name_kw (y4 I hl ml PySem.boot_len ?_ (by decide) (by decide))
 refine PyProof.Rows.callWith_builtin1 ?_ rfl rfl
 show wpAny _ _ (spliced ((false,eval (.Call (.Name "set" p2) [e] [] pos2) X.env) :: backTo pos (starEach [] X.env))) _ _ s
 refine Calls.spliced_cons ?_
 refine wpAny_Call_Name_kw (y4 I hs ms (by rfl) ?_ (by decide) (by decide))
 refine PyProof.Rows.callWith_type1 ?_ (d5 hn) rfl
 rw [d5 hn]
 show wpAny _ _ (spliced ((false,eval e X.env) :: backTo pos2 (starEach [] X.env))) _ _ s
 refine Calls.spliced_cons (thn (he pins s σ H _ I h) λu s1 ⟨x,H1,I1,r1,a,ns,e1,hq,hz,q⟩=>?_)
 subst e1
 cases r1
 refine Calls.spliced_nil ?_
 have fin:∀ (its:List Value) (h':Heap) (tk:Nat),its.length=ns.length->h'.SetOf (intKind X.prog X.w) s1.heap.objs.size (λk'=>(firstMet (λi=>ns.getD i 0) its.toArray.size).any (·==k')) (firstMet (λi=>ns.getD i 0) its.toArray.size).length ->
   (∀ b o,b<s1.heap.objs.size->s1.heap.get? b=some o->h'.get? b=some o)->wpAny (model X.prog X.w) X.A (spliced (backTo pos (starEach [] X.env))) (λvs s2=>wpAny (model X.prog X.w) X.A (call (.builtin "len") (.ref s1.heap.objs.size :: vs)) (EP X pins σ Q) X.xe s2) X.xe { s1 with heap:=h',toks:=tk }:=λits h' tk hlen hS hk=>by
  refine Calls.spliced_nil ?_
  obtain ⟨o,es,ep,t,ho,hex,hd,_,_,hsc,hf,hsz2⟩:=hS
  have hsc':es.size<4096:=hsc
  refine PySem.call_len_set ho hex hd hf (by omega) ?_
  have e5:its.toArray.size=ns.length:=by rw [List.size_toArray,hlen]
  rw [e5] at hsz2
  have e6:es.size=C9 ns:=hsz2
  rw [e6]
  exact ⟨.int (C9 ns:Nat),H1,I1.kept (t':=tk+1+1) λb ob eb=>hk b ob (Heap.lt_size eb) eb,⟨_,rfl⟩,q⟩
 rcases hq with hq | hq
 ·obtain ⟨its,r',pl,hsz⟩:=I1.list hq
  have hlen:its.length=ns.length:=by rw [<- r'.length,List.length_map]
  exact call_set_list hh pl.isList (B6 r') (by rw [List.size_toArray,hlen];show ns.length+1<4096;omega) λh' tk hS hk=>fin its h' tk hlen hS hk
 ·obtain ⟨its,r',⟨ob,o1,o2,n,o3⟩,hsz⟩:=I1.tuple hq
  have hlen:its.length=ns.length:=by rw [<- r'.length,List.length_map]
  exact HT.call_set_tup hh ⟨ob,o1,o2,n,o3⟩ (B6 r') (by rw [List.size_toArray,hlen];show ns.length+1<4096;omega) λh' tk hS hk=>fin its h' tk hlen hS hk
noncomputable def M4 (d:D):M D:=bind (u3 d) λds=>match j7 ds with
 | some ns=>if ns.length<4000 then ret (.int (C9 ns:Nat)) else bad
 | none=>bad
theorem a5g {f:Env->M D} (hc:X.calm=true) (hl:Gl X "len") (ml:X.mg "len" = none) (hs:Gl X "set") (ms:X.mg "set" = none) (he:PE X e (tD X.K cl xe f)) (hn:b5 e=true):PE X (.Call (.Name "len" p) [.Call (.Name "set" p2) [e] [] pos2] [] pos) (tD X.K cl xe λρ=>bind (f ρ) M4):=
 PE.imp (a42 hc hl ml hs ms he hn) λσ H Q ⟨μ,S,ρ,eo,rp,p⟩=>⟨μ,S,ρ,eo,rp,p.bind.imp λd S1 μ1 H1 l1 r1 p1 v rv=>by
  obtain ⟨a,xs,ds,rfl,h1,h2,e2⟩:=E5 rv r1 p1.bind
  have p1:=p1.ok_bind e2
  cases e3:j7 ds with
  | none=>rw [e3] at p1;exact p1.elim
  | some ns=>
   rw [e3] at p1
   obtain ⟨hz,p1⟩:=Post.guard p1
   have:=A4 e3 h2
   subst this
   exact ⟨a,ns,rfl,h1,hz,p1 μ1 H1 (Lat.refl _ _) r1 _ (.int _)⟩⟩
end
end L3
namespace HT
open PySem PySem.Spec PyProof.Rows
def Rise (xs:Array Nat):Prop:=xs.toList.Pairwise (· < ·)
theorem Rise.lt {xs:Array Nat} (h:Rise xs) {i j:Nat} (hij:i<j) (hj:j<xs.size):xs[i]<xs[j]:=by
 have:=List.pairwise_iff_getElem.mp h i j (by simp;omega) (by simpa using hj) hij
 simpa using this
theorem W6 {xs:Array Nat} {j:Nat} (h:Rise xs):∀ (fuel lo hi:Nat),hi-lo<=fuel->lo<=hi->hi<=xs.size->(∀ i (z:i<xs.size),i<lo->xs[i]<j)->(∀ i (z:i<xs.size),hi<=i->j<=xs[i]) ->
  SetTable.below.go xs j fuel lo hi<=xs.size/\(∀ i (z:i<xs.size),i<SetTable.below.go xs j fuel lo hi->xs[i]<j)/\∀ i (z:i<xs.size),SetTable.below.go xs j fuel lo hi<=i->j<=xs[i]
 | 0,lo,hi,f,le,le2,a,b=>by
  have e:lo=hi:=by omega
  subst e
  exact ⟨le2,a,b⟩
 | fuel+1,lo,hi,f,le,le2,a,b=>by
  unfold SetTable.below.go
  by_cases c:lo<hi
  ·rw [if_pos c]
   have hm:(lo+hi) / 2<xs.size:=by omega
   have em:xs.getD ((lo+hi) / 2) j=xs[(lo+hi) / 2]:=by simp [Array.getD,hm]
   dsimp only
   rw [em]
   by_cases d:xs[(lo+hi) / 2]<j
   ·rw [if_pos d]
    refine W6 h fuel _ _ (by omega) (by omega) le2 (λi z w=>?_) b
    rcases Nat.lt_or_ge i ((lo+hi) / 2) with u | u
    ·exact Nat.lt_trans (h.lt u hm) d
    ·have:i=(lo+hi) / 2:=by omega
     subst this;exact d
   ·rw [if_neg d]
    refine W6 h fuel _ _ (by omega) (by omega) (by omega) a λi z w=>?_
    rcases Nat.lt_or_ge ((lo+hi) / 2) i with u | u
    ·have:=h.lt u z;omega
    ·have:i=(lo+hi) / 2:=by omega
     subst this;omega
  ·rw [if_neg c]
   have e:lo=hi:=by omega
   subst e
   exact ⟨le2,a,b⟩
theorem V1 {xs:Array Nat} (h:Rise xs) (j:Nat):SetTable.below xs j<=xs.size/\(∀ i (z:i<xs.size),i<SetTable.below xs j->xs[i]<j)/\∀ i (z:i<xs.size),SetTable.below xs j<=i->j<=xs[i]:=
 W6 h xs.size 0 xs.size (by omega) (Nat.zero_le _) (Nat.le_refl _) (λi _ w=>absurd w (Nat.not_lt_zero _)) λi z w=>by omega
theorem a4w {xs:Array Nat} (h:Rise xs) {i:Nat} (hi:i<xs.size):SetTable.below xs (xs[i]+1)=i+1:=by
 obtain ⟨a,b,c⟩:=V1 h (xs[i]+1)
 generalize SetTable.below xs (xs[i]+1)=k at a b c
 rcases Nat.lt_trichotomy k (i+1) with u | u | u
 ·have:=c i hi (by omega);omega
 ·exact u
 ·have z:i+1<xs.size:=by omega
  have:=b (i+1) z u
  have:xs[i]<xs[i+1]:=h.lt (Nat.lt_succ_self i) z
  omega
theorem a5k {xs:Array Nat} (h:Rise xs):SetTable.below xs 0=0:=by
 obtain ⟨a,b,c⟩:=V1 h 0
 rcases Nat.eq_zero_or_pos (SetTable.below xs 0) with u | u
 ·exact u
 ·have:=b 0 (by omega) u;omega
theorem a2g {xs:Array Nat} (h:Rise xs) {j:Nat} (n:xs[SetTable.below xs j]?≠some j):Rise (SetTable.insertAt xs (SetTable.below xs j) j):=by
 obtain ⟨a,b,c⟩:=V1 h j
 unfold Rise
 rw [SetTable.toList_insertAt,List.pairwise_append,List.pairwise_cons]
 refine ⟨List.Pairwise.sublist (List.take_sublist _ _) h,⟨λy hy=>?_,List.Pairwise.sublist (List.drop_sublist _ _) h⟩,λx hx y hy=>?_⟩
 ·obtain ⟨k,hk,rfl⟩:=List.mem_iff_getElem.mp hy
  rw [List.length_drop,Array.length_toList] at hk
  have hz:SetTable.below xs j+k<xs.size:=by omega
  rw [List.getElem_drop,Array.getElem_toList]
  have h1:=c _ hz (Nat.le_add_right _ _)
  rcases Nat.eq_zero_or_pos k with rfl | kp
  ·rcases Nat.lt_or_eq_of_le h1 with u | u
   ·exact u
   ·refine absurd ?_ n
    rw [Array.getElem?_eq_getElem (by omega)]
    exact congrArg some u.symm
  ·have z0:SetTable.below xs j<xs.size:=by omega
   have:=c _ z0 (Nat.le_refl _)
   have:=h.lt (show SetTable.below xs j<SetTable.below xs j+k by omega) hz
   omega
 ·have hxj:x<j:=by
   obtain ⟨k,hk,rfl⟩:=List.mem_iff_getElem.mp hx
   rw [List.length_take,Array.length_toList] at hk
   rw [List.getElem_take,Array.getElem_toList]
   exact b _ (by omega) (by omega)
  rcases List.mem_cons.mp hy with rfl | hy
  ·exact hxj
  ·obtain ⟨k,hk,rfl⟩:=List.mem_iff_getElem.mp hy
   rw [List.length_drop,Array.length_toList] at hk
   rw [List.getElem_drop,Array.getElem_toList]
   have:=c _ (show SetTable.below xs j+k<xs.size by omega) (Nat.le_add_right _ _)
   omega
structure TbHt (t:SetTable):Prop where
 nd:t.dummies=#[]
 up:t.plain=true->Rise t.place
theorem a29 (j:Nat):SetTable.has #[] j=false:=by simp [SetTable.has]
theorem a2u {t:SetTable} (h:t.dummies=#[]) (f:Nat->Int) (x:Int):∀ (n:Nat) (p:SetTable.Probe) (j:Nat) (d:Option Nat),p.dummy=none->SetTable.probe.go t f x n p=some (.empty j d)->d=none/\t.slot j=.empty
 | 0,p,j,d,_,e=>by unfold SetTable.probe.go at e;cases e
 | n+1,p,j,d,pd,e=>by
  unfold SetTable.probe.go at e
  have ad:∀ q:SetTable.Probe,(t.advance q).dummy=q.dummy:=λq=>by
   unfold SetTable.advance
   split <;> rfl
  cases hs:t.slot p.j with
  | empty=>
   rw [hs] at e
   simp only [Option.some.injEq,SetTable.Met.empty.injEq] at e
   obtain ⟨rfl,rfl⟩:=e
   exact ⟨pd,hs⟩
  | dummy=>
   unfold SetTable.slot at hs
   rw [h] at hs
   dsimp only at hs
   split at hs
   ·cases hs
   ·rw [a29] at hs;simp at hs
  | live i=>
   rw [hs] at e
   dsimp only at e
   split at e
   ·cases e
   ·exact a2u h f x n _ j d ((ad p).trans pd) e
theorem b4d {t:SetTable} (h:t.dummies=#[]) {x:Int} {j:Nat} {b:Bool} (e:t.freeSlot x=some (j,b)):t.slot j=.empty:=by
 unfold SetTable.freeSlot SetTable.probe at e
 split at e
 ·rename_i jj dd eq
  obtain ⟨rfl,q⟩:=a2u h _ _ _ _ _ _ rfl eq
  simp only [Option.getD_none,Option.some.injEq,Prod.mk.injEq] at e
  rw [<- e.1];exact q
 ·cases e
theorem b3z {t:SetTable} {j:Nat} (h:t.slot j=.empty):t.place[SetTable.below t.place j]?≠some j:=λe=>by
 unfold SetTable.slot at h
 dsimp only at h
 rw [e] at h
 simp at h
theorem TbHt.stand (t:SetTable) (n:Nat):TbHt (t.standIn n):=⟨rfl,λh=>by cases h⟩
theorem TbHt.put {t:SetTable} (h:TbHt t) {j:Nat} (e:t.slot j=.empty):TbHt (t.put j).1:=by
 refine ⟨?_,λp=>?_⟩
 ·unfold SetTable.put
  dsimp only
  rw [h.nd,a29];rfl
 ·exact a2g (h.up p) (b3z e)
theorem TbHt.lay {t:SetTable} (h:TbHt t) (es:Array (Int×Value)) (x:Int) (v:Value):TbHt (layNew t es x v).2.1/\(layNew t es x v).2.1.led=t.led:=by
 unfold layNew
 split
 ·rename_i slot wd e
  have hp:=h.put (b4d h.nd e)
  dsimp only
  unfold SetTable.orStandIn
  split
  ·exact ⟨hp,rfl⟩
  ·exact ⟨.stand _ _,rfl⟩
 ·exact ⟨.stand _ _,rfl⟩
theorem a48 (n:Nat) (f:Nat->Option (Nat×Nat)) (hf:∀ j p,f j=some p->p.1=j):(((List.range n).filterMap f).map (·.1)).Pairwise (· < ·):=by
 rw [List.pairwise_map]
 refine List.Pairwise.filterMap f (R:=λa b=>a<b) (λa b hab x hx y hy=>?_) List.pairwise_lt_range
 rw [hf a x hx,hf b y hy]
 exact hab
theorem TbHt.relay {t:SetTable} (h:TbHt t) (es:Array (Int×Value)) (m:Nat):TbHt (relayAll t es m).2.1/\(relayAll t es m).2.1.led=t.led:=by
 unfold relayAll
 split
 ·rename_i t' ord e
  dsimp only
  unfold SetTable.relaid SetTable.laid at e
  simp only [Option.bind_eq_bind,Option.bind_eq_some_iff,Option.pure_def,Option.some.injEq,Prod.mk.injEq] at e
  obtain ⟨ow,_,rfl,_⟩:=e
  split
  ·refine ⟨⟨rfl,λ_=>?_⟩,rfl⟩
   show Rise _
   unfold Rise
   dsimp only
   refine a48 _ _ λj p q=>?_
   rw [Option.map_eq_some_iff] at q
   obtain ⟨_,_,rfl⟩:=q
   rfl
  ·exact ⟨.stand _ _,rfl⟩
 ·exact ⟨.stand _ _,rfl⟩
theorem TbHt.unplain {t:SetTable} (h:TbHt t):TbHt { t with plain:=false }:=⟨h.nd,λz=>by cases z⟩
theorem TbHt.fresh (f m:Nat) (l:Bool):TbHt (SetTable.fresh f m l):=⟨rfl,λ_=>by unfold Rise SetTable.fresh;exact .nil⟩
section
variable {prog:Program} {w:World} {K:Type} [DecidableEq K] {knd:KeyKind prog w K} {A:Around} {E:Value->Shared->Prop} {s:Shared}
noncomputable def i6 (w:World):Bool:=w.params.followText "set-order"
def a8d (knd:KeyKind prog w K) (o:Obj) (S:K->Bool) (n:Nat) (es:Array (Int×Value)) (ep:Nat) (t:SetTable):Prop:=
 o.ExactSet/\o.data=.set es ep t/\ElemsOf knd es.toList/\(∀ k,S k=true↔∃ e∈es.toList,knd.is k e.2=true)/\es.size<scanBound/\t.fits es.size=true/\es.size=n/\TbHt t/\t.led=!i6 w
def SetL (knd:KeyKind prog w K) (h:Heap) (a:Addr) (S:K->Bool) (n:Nat):Prop:=∃ o es ep t,h.get? a=some o/\a8d knd o S n es ep t
theorem SetL.cg {h:Heap} {a:Addr} {S S':K->Bool} {n n':Nat} (x:SetL knd h a S n) (e:∀ k,S k=S' k) (f:n=n'):SetL knd h a S' n':=by
 have:S=S':=funext e
 subst this;subst f;exact x
theorem SetL.mv {h h':Heap} {a:Addr} {S:K->Bool} {n:Nat} (x:SetL knd h a S n) (e:∀ o,h.get? a=some o->h'.get? a=some o):SetL knd h' a S n:=
 let ⟨o,es,ep,t,ho,r⟩:=x;⟨o,es,ep,t,e o ho,r⟩
theorem a3u {h:Heap} {a:Addr} {o:Obj} {es:Array (Int×Value)} {ep:Nat} {t:SetTable} (ho:h.get? a=some o) (hex:o.ExactSet) (hd:o.data=.set es ep t) {es':Array (Int×Value)} {t':SetTable} {S':K->Bool}
  (r:ElemsOf knd es'.toList/\(∀ k,S' k=true↔∃ e∈es'.toList,knd.is k e.2=true)/\es'.size<scanBound/\t'.fits es'.size=true/\TbHt t'/\t'.led=!i6 w) :
  ∃ o',(h.update a (Obj.putSet es' t')).get? a=some o'/\a8d knd o' S' es'.size es' (ep+1) t':=by
 obtain ⟨g,_⟩:=SetOf_store (knd:=knd) ho hex hd r.1 r.2.1 r.2.2.1 r.2.2.2.1
 exact ⟨_,g,hex,rfl,r.1,r.2.1,r.2.2.1,r.2.2.2.1,rfl,r.2.2.2.2⟩
theorem Z7 {a:Addr} {o:Obj} {es:Array (Int×Value)} {ep:Nat} {t:SetTable} (ho:s.heap.get? a=some o) (hex:o.ExactSet) (hd:o.data=.set es ep t) {g:Bool->Sem Unit}
  (hg:∀ (b:Bool) (u:Shared) (R:Unit->Shared->Prop),R () u->wpAny (model prog w) A (g b) R E u) {es1:Array (Int×Value)} {t2:SetTable} {S':K->Bool}
  (r:ElemsOf knd es1.toList/\(∀ k,S' k=true↔∃ e∈es1.toList,knd.is k e.2=true)/\es1.size<scanBound/\t2.fits es1.size=true/\TbHt t2/\t2.led=!i6 w) {wd:Bool} {R:Option Bool->Shared->Prop}
  (q:∀ h',Heap.SameBut a s.heap h'->SetL knd h' a S' es1.size->R (some true) { s with heap:=h' }) :
  wpAny (model prog w) A (storeSet a es1 t2 >>= λ_=>if (!wd&&t2.tooFull)=true then (g (relayAll t2 es1 (SetTable.grown es1.size)).2.2 >>= λ_=>storeSet a (relayAll t2 es1 (SetTable.grown es1.size)).1 (relayAll t2 es1 (SetTable.grown es1.size)).2.1 >>= λ_=>pure (some true)) else pure (some true)) R E s:=by
 refine wpAny_bind (wpAny_storeSet_of ho hd ?_ (fits_of_scanBound r.2.2.1))
 obtain ⟨o1,ho1,x1⟩:=a3u (S':=S') ho hex hd r
 have b1:=Heap.SameBut.update s.heap a (Obj.putSet es1 t2)
 split
 ·have p:=relayAll_perm t2 es1 (SetTable.grown es1.size)
  have f:=relayAll_fits t2 es1 (SetTable.grown es1.size)
  have tb:=r.2.2.2.2.1.relay es1 (SetTable.grown es1.size)
  generalize relayAll t2 es1 (SetTable.grown es1.size)=Z at p f tb ⊢
  obtain ⟨es2,t3,gv⟩:=Z
  dsimp only at p f tb ⊢
  have sz:es2.size=es1.size:=by
   have:=p.length_eq
   rwa [Array.length_toList,Array.length_toList] at this
  have z2:es2.size<scanBound:=sz▸r.2.2.1
  refine wpAny_bind (hg _ _ _ (wpAny_bind (wpAny_storeSet_of ho1 x1.2.1 ?_ (fits_of_scanBound z2))))
  obtain ⟨o2,ho2,x2⟩:=a3u (S':=S') ho1 x1.1 x1.2.1 (es':=es2) (t':=t3) ⟨r.1.perm p,λk=>(r.2.1 k).trans ⟨λ⟨e,he,z⟩=>⟨e,p.mem_iff.mpr he,z⟩,λ⟨e,he,z⟩=>⟨e,p.mem_iff.mp he,z⟩⟩,z2,f,tb.1,tb.2.trans r.2.2.2.2.2⟩
  exact wpAny_pure (q _ (b1.trans (Heap.SameBut.update _ a _)) (SetL.cg ⟨o2,_,_,_,ho2,x2⟩ (λ_=>rfl) sz))
 ·exact wpAny_pure (q _ b1 ⟨o1,_,_,_,ho1,x1⟩)
theorem b6p {a:Addr} {S:K->Bool} {n:Nat} {k:K} {x:Value} {Q:Bool->Shared->Prop} (hk:knd.is k x=true) (hx:x.scannable=true) (hS:SetL knd s.heap a S n) (hr:n+1<scanBound)
  (q:∀ h',Heap.SameBut a s.heap h'->SetL knd h' a (λk'=>S k'||decide (k'=k)) (if S k then n else n+1)->Q (!S k) { s with heap:=h' }):wpAny (model prog w) A (setAddHashed a x (knd.hash k)) Q E s:=by
 obtain ⟨o,es,ep,t,ho,hex,hd,hel,hm,hb,hf,hn,tb,ld⟩:=hS
 unfold setAddHashed setAddHashedIn
 refine wpAny_holding (wpAny_bind (wpAny_setState_of ho hd hf ?_))
 dsimp only
 rw [byScan_of hx hb hel,if_pos rfl]
 unfold setAddByScan
 refine wpAny_bind (wpAny_bind (wpAny_rule (wpAny_bind (wpAny_setScan_of hk ho hd hf hel ?_))))
 cases fi:List.findIdx? (λe=>knd.is k e.2) es.toList with
 | some j=>
  obtain ⟨hj,hp,_⟩:=List.findIdx?_eq_some_iff_getElem.mp fi
  have yes:S k=true:=(hm k).mpr ⟨es.toList[j],List.getElem_mem hj,hp⟩
  refine wpAny_pure (wpAny_pure ?_)
  have z:=q s.heap (Heap.SameBut.refl a s.heap) (SetL.cg ⟨o,es,ep,t,ho,hex,hd,hel,hm,hb,hf,hn,tb,ld⟩ (λk'=>by
   by_cases e:k'=k
   ·subst e;rw [yes];rfl
   ·simp [e]) (by rw [if_pos yes]))
  rw [yes] at z
  exact z
 | none=>
  have no:S k=false:=by
   cases hc:S k with
   | false=>rfl
   | true=>
    obtain ⟨e,he,hp⟩:=(hm k).mp hc
    have:=List.findIdx?_eq_none_iff.mp fi e he
    rw [hp] at this;cases this
  have gw:∀ (b:Bool) (u:Shared) (R:Unit->Shared->Prop),R () u->wpAny (model prog w) A (match b with | true=>rule "set.scan.the-table-gave-way" | false=>pure ()) R E u:=λb u R z=>by
   cases b
   ·exact wpAny_pure z
   ·exact wpAny_rule z
  have p:=layNew_perm t es (knd.hash k) x
  have f:=layNew_fits t es (knd.hash k) x
  have l:=tb.lay es (knd.hash k) x
  dsimp only
  generalize layNew t es (knd.hash k) x=L at p f l ⊢
  obtain ⟨es1,t1,wd,gave⟩:=L
  dsimp only at p f l ⊢
  rw [Array.toList_push] at p
  have sz:es1.size=n+1:=by
   have:=p.length_eq
   rw [List.length_append,Array.length_toList,Array.length_toList,hn] at this
   exact this
  have end_:∀ h',Heap.SameBut a s.heap h'->SetL knd h' a (λk'=>S k'||decide (k'=k)) es1.size->Q true { s with heap:=h' }:=λh' z y=>by
   have:=q h' z
   rw [no] at this
   exact this (SetL.cg y (λ_=>rfl) sz)
  have r0:ElemsOf knd es1.toList:=(hel.push hk hx).perm p
  have r1:=mem_push_iff hk hm p
  refine wpAny_bind (gw _ _ _ ?_)
  split
  ·rw [hashByValue_scannable 8 hx]
   refine wpAny_bind (m:=pure (plainKind x)) (wpAny_pure ?_)
   refine Z7 ho hex hd (λb u R z=>by cases b <;> first | exact wpAny_pure z | exact wpAny_rule z) ⟨r0,r1,by rw [sz];exact hr,?_,?_,?_⟩ λh' z y=>wpAny_pure (end_ h' z y)
   ·split
    ·exact f
    ·exact SetTable.fits_plain_off f
   ·split
    ·exact l.1
    ·exact l.1.unplain
   ·split <;> exact l.2.trans ld
  ·refine wpAny_bind (wpAny_pure ?_)
   rw [if_pos rfl]
   exact Z7 ho hex hd (λb u R z=>by cases b <;> first | exact wpAny_pure z | exact wpAny_rule z) ⟨r0,r1,by rw [sz];exact hr,f,l.1,l.2.trans ld⟩ λh' z y=>wpAny_pure (end_ h' z y)
end
section
variable {K:Type} [DecidableEq K]
noncomputable def metKHt (f:Nat->K):Nat->List K
 | 0=>[]
 | i+1=>if f i∈metKHt f i then metKHt f i else metKHt f i++[f i]
theorem a5e (f:Nat->K) (i:Nat):metKHt f (i+1)=if f i∈metKHt f i then metKHt f i else metKHt f i++[f i]:=rfl
theorem a5x (f:Nat->K):∀ i,(metKHt f i).length<=i
 | 0=>Nat.le_refl _
 | i+1=>by
  have:=a5x f i
  unfold metKHt
  split
  ·omega
  ·rw [List.length_append];show _+1<=_;omega
theorem metK_nd (f:Nat->K):∀ i,(metKHt f i).Nodup
 | 0=>.nil
 | i+1=>by
  have:=metK_nd f i
  unfold metKHt
  split
  ·exact this
  ·rename_i c
   rw [List.nodup_append]
   exact ⟨this,by simp,λa ha b hb e=>c (by rw [List.mem_singleton] at hb;rw [<- hb,<- e];exact ha)⟩
theorem metK_mem (f:Nat->K) (k:K):∀ i,k∈metKHt f i↔∃ j,j<i/\f j=k
 | 0=>by simp [metKHt]
 | i+1=>by
  have ih:=metK_mem f k i
  have e:k∈metKHt f (i+1)↔(k∈metKHt f i\/k=f i):=by
   rw [a5e]
   split
   ·rename_i c
    exact ⟨.inl,λz=>z.elim id λz=>z▸c⟩
   ·rw [List.mem_append,List.mem_singleton]
  rw [e,ih]
  constructor
  ·rintro (⟨j,a,b⟩ | rfl)
   ·exact ⟨j,by omega,b⟩
   ·exact ⟨i,by omega,rfl⟩
  ·rintro ⟨j,a,b⟩
   rcases Nat.lt_or_ge j i with u | u
   ·exact .inl ⟨j,u,b⟩
   ·have:j=i:=by omega
    subst this;exact .inr b.symm
end
section
variable {prog:Program} {w:World} {K:Type} [DecidableEq K] {knd:KeyKind prog w K} {A:Around} {R:Result->Shared->Prop} {I:Addr} {fp wr:List Addr} {G:Array GenState->Array GenState->Prop} {n:Nat} {P:Nat->Value->Prop} {St:Nat->Shared->Prop}
noncomputable def J5 (l:List K) (k:K):Bool:=decide (k∈l)
theorem b8f (W:WalksS prog w A.in1 I fp wr G n P St) (B:Addr) (nB:B∉fp) (f:Nat->K) (hf:∀ i v,P i v->knd.is (f i) v=true/\v.scannable=true) (hb:n+1<scanBound) :
  ∀ (k i:Nat) (s:Shared),n-i=k->i<=n->St i s->SetL knd s.heap B (J5 (metKHt f i)) (metKHt f i).length ->
   (∀ z,Moved (B :: wr) G s z->SetL knd z.heap B (J5 (metKHt f n)) (metKHt f n).length->R (.ok (.ret .none)) z)->codeAny (model prog w) A (.builtin "set.update.loop" ⟨[.ref B,.ref I],[]⟩) R s:=by
 have nw:B∉wr:=λh=>nB (W.sub _ h)
 have sb:∀ b∈wr,b∈B :: wr:=λb hb=>List.mem_cons_of_mem _ hb
 intro k
 induction k with
 | zero=>
  intro i s e1 e2 st hS q
  obtain rfl:i=n:=by omega
  refine codeAny_builtin PyProof.Rows.F.entry_set_update_loop ?_
  rw [Around.under_plainId PyProof.Rows.F.plain_set_update_loop _]
  show wpAny _ A.in1 (pyNext (.ref I) >>= _) _ _ s
  refine wpAny_bind (W.done s _ _ st λz m=>?_)
  show wpAny _ A.in1 (ret Value.none) _ _ z
  exact wpAny_pure (q z (m.mono sb) (hS.mv λo=>m.heap B o nw))
 | succ k ih=>
  intro i s e1 e2 st hS q
  have lt:i<n:=by omega
  refine codeAny_builtin PyProof.Rows.F.entry_set_update_loop ?_
  rw [Around.under_plainId PyProof.Rows.F.plain_set_update_loop _]
  show wpAny _ A.in1 (pyNext (.ref I) >>= _) _ _ s
  refine wpAny_bind (W.item i s _ _ lt st λv z hP st2 m=>?_)
  obtain ⟨h1,h2⟩:=hf i v hP
  have hS2:=hS.mv λo=>m.heap B o nw
  show wpAny _ A.in1 (holding [v] (setAdd B v) >>= _) _ _ z
  unfold setAdd
  refine wpAny_bind (wpAny_holding (wpAny_holding (wpAny_bind (knd.pyHash h1 ?_))))
  refine b6p (s:={ z with toks:=z.toks+1 }) h1 h2 hS2 (by have:=a5x f i;omega) λg sm hS3=>?_
  have hS4:SetL knd g B (J5 (metKHt f (i+1))) (metKHt f (i+1)).length:=hS3.cg (λk'=>by
   rw [a5e]
   unfold J5
   by_cases c:f i∈metKHt f i
   ·rw [if_pos c]
    by_cases d:k'=f i
    ·subst d;simp [c]
    ·simp [d]
   ·rw [if_neg c]
    simp only [List.mem_append,List.mem_singleton,Bool.decide_or]) (by
   rw [a5e]
   unfold J5
   by_cases c:f i∈metKHt f i
   ·rw [if_pos (by simpa using c),if_pos c]
   ·rw [if_neg (by simpa using c),if_neg c,List.length_append];rfl)
  refine wpAny_pure ⟨plainId_quiet PyProof.Rows.F.plain_set_update_loop _,ih (i+1) _ (by omega) lt (W.frame _ z _ _ st2 (Nat.le_succ _) λb hb o e=>?_) hS4 λz2 m2 hS5=>?_⟩
  ·rw [sm.2 b (λh:b=B=>nB (h▸hb))];exact e
  ·refine q z2 (Moved.trans W.gtrans ((m.mono sb).then_heap (Nat.le_succ _) λb o hb e=>?_) m2) hS5
   rw [sm.2 b (λh:b=B=>hb (h▸List.mem_cons_self))];exact e
end
section
variable {prog:Program} {w:World} {K:Type} [DecidableEq K] {knd:KeyKind prog w K} {A:Around} {E:Value->Shared->Prop} {s:Shared}
def E2 (knd:KeyKind prog w K) (f:Nat->K) (n:Nat) (s:Shared) (g:Heap):Prop:=SetL knd g s.heap.objs.size (J5 (metKHt f n)) (metKHt f n).length/\∀ b o,b<s.heap.objs.size->s.heap.get? b=some o->g.get? b=some o
theorem a46 (h:Heap):SetL knd (h.push (f8 (!i6 w))) h.objs.size (J5 (metKHt (K:=K) f 0)) 0:=
 ⟨_,#[],0,_,Heap.get?_push_size _ rfl,⟨rfl,rfl,rfl⟩,rfl,λe he=>by simp at he,λk=>by simp [J5,metKHt],by decide,rfl,rfl,TbHt.fresh _ _ _,rfl⟩
theorem b3x {a:Addr} {its:Array Value} (f:Nat->K) (hh:A.handled=none) (hl:s.heap.IsTuple a its\/s.heap.IsList a its) (hf:∀ i v,its[i]?=some v->knd.is (f i) v=true/\v.scannable=true) (hb:its.size+1<scanBound) (P:Fin->Shared->Prop) (E':Value->Shared->Prop)
  (h:∀ (g:Heap) (tk:Nat),E2 knd f its.size s g->P (.done (.ret .none)) { s with heap:=g,toks:=tk }) :
  wpAny (model prog w) A (Builtin.«set.__init__» ⟨[.ref s.heap.objs.size,.ref a],[]⟩) P E' { s with heap:=s.heap.push (f8 (!i6 w)) }:=by
 have gS:(s.heap.push (f8 (!i6 w))).get? s.heap.objs.size=some (f8 (!i6 w)):=Heap.get?_push_size _ rfl
 have fin:∀ (iv:Obj) (fp wr:List Addr) (St:Nat->Heap->Prop) (W:Walks prog w A.in1 (s.heap.objs.size+1) fp wr its.size (λi v=>its[i]?=some v) St),wr=[s.heap.objs.size+1]->s.heap.objs.size∉fp->St 0 ((s.heap.push (f8 (!i6 w))).push iv)->codeAny (model prog w) A (.builtin "set.update.loop" ⟨[.ref s.heap.objs.size,.ref (s.heap.objs.size+1)],[]⟩) (λr z=>∃ g tk,r=.ok (.ret .none)/\z={ s with heap:=g,toks:=tk }/\E2 knd f its.size s g) { s with heap:=(s.heap.push (f8 (!i6 w))).push iv }:=λiv fp wr St W ew nS st=>by
  subst ew
  refine b8f (knd:=knd) W.toS s.heap.objs.size nS f hf hb (its.size-0) 0 _ (by omega) (Nat.zero_le _) st ?_ ?_
  ·exact (a46 (knd:=knd) (f:=f) s.heap).mv λo e=>Heap.get?_push_of_some _ e
  ·rintro ⟨g,gn,dr,tk,os⟩ mv hS
   have z1:gn=s.gens:=mv.gens
   have z2:dr=s.drawn:=mv.drawn
   have z3:os=s.os:=mv.os
   subst z1 z2 z3
   refine ⟨g,tk,rfl,rfl,hS,λb o hb e=>mv.heap b o ?_ (Heap.get?_push_of_some _ (Heap.get?_push_of_some _ e))⟩
   simp only [List.mem_cons,List.not_mem_nil,or_false,not_or]
   exact ⟨Nat.ne_of_lt hb,Nat.ne_of_lt (Nat.lt_succ_of_lt hb)⟩
 have h3:A.in1.handled=none:=by simp [hh]
 have ez:(s.heap.push (f8 (!i6 w))).objs.size=s.heap.objs.size+1:=Heap.size_push _ _
 have last:∀ (iv:Obj),codeAny (model prog w) A (.builtin "set.update.loop" ⟨[.ref s.heap.objs.size,.ref (s.heap.objs.size+1)],[]⟩) (λr z=>∃ g tk,r=.ok (.ret .none)/\z={ s with heap:=g,toks:=tk }/\E2 knd f its.size s g) { s with heap:=(s.heap.push (f8 (!i6 w))).push iv } ->
   wpAny (model prog w) A (runValue (.builtin "set.update.loop" ⟨[.ref s.heap.objs.size,.ref (s.heap.objs.size+1)],[]⟩) >>= λ_=>pure ()) (λ_ z=>wpAny (model prog w) A (ret Value.none) P E' z) E' { s with heap:=(s.heap.push (f8 (!i6 w))).push iv }:=λiv z=>by
  refine wpAny_bind (wpAny_runValue (codeAny_mono z λr y ⟨g,tk,e1,e2,e3⟩=>?_))
  subst e1 e2
  exact wpAny_pure (wpAny_pure (h g tk e3))
 rcases hl with hl | hl
 ·obtain ⟨ob,eo,ec,n,ed⟩:=hl
  obtain ⟨cls,dict,data,slots⟩:=ob
  dsimp only at ec ed
  subst ec ed
  have e1:=Heap.get?_push_of_some (f8 (!i6 w)) eo
  have t1:(s.heap.push (f8 (!i6 w))).IsTuple a its:=⟨_,e1,rfl,n,rfl⟩
  have lt:=Heap.lt_size eo
  have q1:=F.sub_tuple_set
  have q2:=F.sub_tuple_frozenset
  have q3:(Value.type "tuple" == Value.type "dict")=false:=by decide
  unfold Builtin.«set.__init__» noKeywords Builtin.Frozenset.updateFrom
  generalize hp:pyIter=pI
  wp_walk
  subst hp
  refine wpAny_pyIter_tuple t1 ?_
  show wpAny _ _ (runValue (.builtin "set.update.loop" ⟨[.ref s.heap.objs.size,.ref (s.heap.push (f8 (!i6 w))).objs.size],[]⟩) >>= λ_=>pure ()) _ _ { s with heap:=(s.heap.push (f8 (!i6 w))).push _ }
  rw [ez]
  have ne:a≠s.heap.objs.size+1:=Nat.ne_of_lt (Nat.lt_succ_of_lt lt)
  refine last _ (fin _ _ _ _ (Walks.tuple h3 _ a ne its) rfl ?_ ⟨⟨_,ez▸Heap.get?_push_size _ rfl,rfl,rfl⟩,t1.push _⟩)
  simp only [List.mem_cons,List.not_mem_nil,or_false,not_or]
  exact ⟨Nat.ne_of_lt (Nat.lt_succ_self _),Nat.ne_of_gt lt⟩
 ·obtain ⟨ob,eo,ec,n,ed⟩:=hl
  obtain ⟨cls,dict,data,slots⟩:=ob
  dsimp only at ec ed
  subst ec ed
  have e1:=Heap.get?_push_of_some (f8 (!i6 w)) eo
  have t1:(s.heap.push (f8 (!i6 w))).IsList a its:=⟨_,e1,rfl,n,rfl⟩
  have lt:=Heap.lt_size eo
  have q1:=PySem.F.sub_list_set
  have q2:=PySem.F.sub_list_frozenset
  have q3:(Value.type "list" == Value.type "dict")=false:=by decide
  unfold Builtin.«set.__init__» noKeywords Builtin.Frozenset.updateFrom
  generalize hp:pyIter=pI
  wp_walk
  subst hp
  refine wpAny_pyIter_list t1 ?_
  show wpAny _ _ (runValue (.builtin "set.update.loop" ⟨[.ref s.heap.objs.size,.ref (s.heap.push (f8 (!i6 w))).objs.size],[]⟩) >>= λ_=>pure ()) _ _ { s with heap:=(s.heap.push (f8 (!i6 w))).push _ }
  rw [ez]
  have ne:a≠s.heap.objs.size+1:=Nat.ne_of_lt (Nat.lt_succ_of_lt lt)
  refine last _ (fin _ _ _ _ (Walks.list h3 _ a ne its) rfl ?_ ⟨⟨_,ez▸Heap.get?_push_size _ rfl,rfl,rfl⟩,t1.push _⟩)
  simp only [List.mem_cons,List.not_mem_nil,or_false,not_or]
  exact ⟨Nat.ne_of_lt (Nat.lt_succ_self _),Nat.ne_of_gt lt⟩
theorem b9e (a:Value) {Q:Value->Shared->Prop} (h:Q (.ref s.heap.objs.size) { s with heap:=s.heap.push (f8 (!i6 w)) }):codeAny (model prog w) A (.call (.builtin "set.__new__") ⟨[.type "set",a],[]⟩) (wants Q E) s:=by
 refine codeAny_of_tree ?_
 show wpAny _ A.in1 (checkBuiltinCall "set.__new__" ⟨[.type "set",a],[]⟩ >>= λ_=>again (.builtin "set.__new__" ⟨[.type "set",a],[]⟩)) _ _ s
 refine wpAny_bind (wpAny_of_eq (PySem.F.newCall_set_1 a) (wpAny_pure ⟨plainId_quiet PySem.F.plain_set_new _,codeAny_builtin PySem.F.entry_set_new ?_⟩))
 rw [Around.under_plainId PySem.F.plain_set_new _]
 unfold Builtin.«set.__new__» Builtin.Frozenset.newClass
 have q:=sub_set_self
 obtain ⟨hp,g,d,tk,os⟩:=s
 dsimp only
 wp_walk
 refine wpAny_askSetting (wpAny_pure ?_)
 dsimp only
 simp only [newObj]
 exact wpAny_bind (wpAny_alloc (wpAny_pure (wpAny_pure h)))
theorem callLHt {a:Addr} {its:Array Value} (f:Nat->K) {Q:Value->Shared->Prop} (hh:A.handled=none) (hl:s.heap.IsTuple a its\/s.heap.IsList a its) (hf:∀ i v,its[i]?=some v->knd.is (f i) v=true/\v.scannable=true) (hb:its.size+1<scanBound)
  (h:∀ (g:Heap) (tk:Nat),E2 knd f its.size s g->Q (.ref s.heap.objs.size) { s with heap:=g,toks:=tk }):wpAny (model prog w) A (call (.type "set") [.ref a]) Q E s:=by
 obtain ⟨c,tl,m1⟩:=PySem.F.called_set.mro
 have m2:=PySem.F.called_set.made
 have m3:=PySem.F.called_set.sub
 refine wpAny_call (codeAny_of_tree ?_)
 show wpAny _ _ (callAny (.type "set") _) _ _ _
 refine wpAny_pure ⟨Code.quiet_builtin _ (by decide +kernel),codeAny_builtin PySem.F.entry_type_call ?_⟩
 rw [Around.under_plain (weight_type_call_type "set" [.ref a] []) rfl]
 have m4:=PySem.F.called_set.notType
 have m5:=PySem.F.called_set.canCreate
 have m6:=PySem.F.typeCall_set_1 (.ref a)
 repeat (any_goals (first | assumption | wp_step))
 refine codeAny_mono (b9e (.ref a) (E:=E) (Q:=λr z=>r=.ref s.heap.objs.size/\z={ s with heap:=s.heap.push (f8 (!i6 w)) }) ⟨rfl,rfl⟩) λr z hr=>?_
 match r,hr with
 | .error _,hr=>exact hr
 | .ok .next,hr=>exact hr.elim
 | .ok .brk,hr=>exact hr.elim
 | .ok .cont,hr=>exact hr.elim
 | .ok (.ret r),hr=>
  obtain ⟨rfl,rfl⟩:=hr
  have tT:Shared.TypeIs { s with heap:=s.heap.push (f8 (!i6 w)) } (.ref s.heap.objs.size) "set":=⟨_,Heap.get?_push_size _ rfl,rfl⟩
  have m7:=PySem.F.called_set.init.lookup
  have m8:=PySem.F.called_set.init.bind (.ref s.heap.objs.size)
  repeat (any_goals (first | assumption | wp_step))
  refine codeAny_mono (codeAny_call_builtin (R:=wants (λr z=>r=.none/\∃ g tk,z={ s with heap:=g,toks:=tk }/\E2 knd f its.size s g) E) PySem.F.called_set.init.plain PySem.F.entry_set_init (check_set_init_1 tT ?_)) λr z hr=>?_
  ·exact b3x f (by simp [hh]) hl hf hb _ _ λg tk hS=>⟨rfl,g,tk,rfl,hS⟩
  ·match r,hr with
   | .error _,hr=>exact hr
   | .ok .next,hr=>exact hr.elim
   | .ok .brk,hr=>exact hr.elim
   | .ok .cont,hr=>exact hr.elim
   | .ok (.ret r),hr=>
    obtain ⟨rfl,g,tk,rfl,hS⟩:=hr
    repeat (any_goals (first | assumption | wp_step))
    exact h _ _ hS
end
theorem si_slot:Slot "set_iterator" "__next__" "set_iterator.__next__":=by
 refine .of (owner:="set_iterator") (n:="__next__") ?_ (by decide +kernel) (by decide +kernel) (by decide +kernel) ?_ ?_
 ·rw [typeLookup_type,builtinLookup_eq_fast];kernel_rfl
 ·first | exact .inl (by decide +kernel) | exact .inr (by decide +kernel)
 ·rw [isSubtype_type];kernel_rfl
theorem M8:entryFor table "set_iterator.__next__" = some Builtin.«set_iterator.__next__»:=entryFor_of_tree (by kernel_rfl)
theorem a26:Manifest.owners.lookup (String.ofList ['r','o','t','a','r','e','t','i','_','t','e','s'].reverse)=some Manifest.sig_set_iterator:=by kernel_rfl
theorem T8 (a:Value):argsOk "set_iterator.__next__" ⟨[a],[]⟩:=by
 unfold argsOk
 rw [signature?_of (id:="set_iterator.__next__") (n:=['_','_','t','x','e','n','_','_']) (o:=['r','o','t','a','r','e','t','i','_','t','e','s']) (by kernel_rfl) a26]
 kernel_rfl
theorem b0u:entryFor table "set.__iter__" = some Builtin.«frozenset.__iter__»:=entryFor_alias (id':="frozenset.__iter__") (by kernel_rfl) rfl (by decide +kernel) (by kernel_rfl)
def SIt (h:Heap) (I a:Addr) (first:Value) (i n ep:Nat):Prop:=∃ o,h.get? I=some o/\o.cls=.type "set_iterator"/\o.data=.fields #[first,.int i 0,.ref a,.int n 0,.int ep 0]
theorem SIt.ty {s:Shared} {I a:Addr} {first:Value} {i n ep:Nat} (x:SIt s.heap I a first i n ep):s.TypeIs (.ref I) "set_iterator":=let ⟨o,ho,hc,_⟩:=x;⟨o,ho,hc⟩
section
variable {prog:Program} {w:World} {A:Around} {E:Value->Shared->Prop} {s:Shared}
theorem a4v {I a:Addr} {o:Obj} {es:Array (Int×Value)} {t:SetTable} {f g i n ep:Nat} {x:Value} {Q:Option Value->Shared->Prop} (hit:SIt s.heap I a (.int (f:Nat) 0) i n ep)
  (ho:s.heap.get? a=some o) (hd:o.data=.set es ep t) (hf:t.fits es.size=true) (hn:es.size=n)
  (hs:∀ (B:Around) (R:Option (Value×Nat)->Shared->Prop) (E:Value->Shared->Prop),R (some (x,g)) s->wpAny (model prog w) B (setNext a f i ep) R E s)
  (hQ:∀ h',SIt h' I a (.int (g:Nat) 0) (i+1) n ep->Heap.SameBut I s.heap h'->Q (some x) { s with heap:=h' }):wpAny (model prog w) A (pyNext (.ref I)) Q E s:=by
 obtain ⟨oi,h1,h2,h3⟩:=id hit
 unfold pyNext
 refine wpAny_bind (wpAny_attempt (wpAny_callSpecial?_slot (name:=Str.ofString "__next__") hit.ty si_slot (wpAny_call_entry si_slot hit.ty M8 ?_ (T8 _))))
 unfold Builtin.«set_iterator.__next__»
 refine wpAny_bind (wpAny_pure (wpAny_bind (wpAny_fieldsOf h1 h3 ?_)))
 show wpAny _ _ (setEntries a >>= _) _ _ s
 refine wpAny_bind (wpAny_setEntries_of ho hd hf ?_)
 rw [if_neg (by rw [hn];simp)]
 show wpAny _ _ (setNext a (f:Int).toNat (i:Int).toNat (ep:Int).toNat >>= _) _ _ s
 refine wpAny_bind (hs _ _ _ ?_)
 show wpAny _ _ (setField (.ref I) 0 (rawInt g) >>= _) _ _ s
 refine wpAny_bind (wpAny_setField h1 h3 (by simp) ?_)
 have h5:=Obj.data_mapFields h3 (·.setIfInBounds 0 (rawInt g))
 have h6:=Heap.get?_update_self (Obj.mapFields (·.setIfInBounds 0 (rawInt g))) h1 (Obj.isFreed_of_fields h5)
 refine wpAny_bind (wpAny_setField h6 h5 (by simp) ?_)
 have h7:=Obj.data_mapFields h5 (·.setIfInBounds 1 (rawInt ((i:Int)+1)))
 refine wpAny_pure ⟨_,rfl,wpAny_pure (hQ _ ⟨_,Heap.get?_update_self _ h6 (Obj.isFreed_of_fields h7),?_,?_⟩ ((Heap.SameBut.update ..).trans (Heap.SameBut.update ..)))⟩
 ·exact (Obj.cls_mapFields ..).trans ((Obj.cls_mapFields ..).trans h2)
 ·rw [h7];simp [rawInt]
theorem a0n {I:Addr} {o:Obj} {vs:Array Value} {k:Nat} {u:Value} {P:Fin->Shared->Prop} {F:Value->Shared->Prop} (hh:A.handled=none) (h1:s.heap.get? I=some o) (h3:o.data=.fields vs) (hk:k<vs.size)
  (q:∀ (e:Addr) (h':Heap),Heap.ExtBut I s.heap h'->Shared.TypeIs { s with heap:=h' } (.ref e) "StopIteration"->F (.ref e) { s with heap:=h' }) :
  wpAny (model prog w) A (setField (.ref I) k u >>= λ_=>(newExc (.type "StopIteration") [] >>= λe=>raiseNew e:Sem Fin)) P F s:=by
 refine wpAny_bind (wpAny_setField h1 h3 hk (wpAny_bind ?_))
 simp only [newExc,newTuple]
 refine wpAny_bind (wpAny_newObj_type ?_ (by size_fits))
 refine wpAny_bind (m:=firstArgMember _ _) (wpAny_of_eq (a:=Value.none) (by first | rfl | (simp only [firstArgMember];rfl)) (wpAny_newObj_type ?_ (by size_fits)))
 simp only [raiseNew]
 refine wpAny_bind (wpAny_handled ?_)
 rw [show A.handled=none from hh]
 refine wpAny_bind (wpAny_pure (wpAny_throw ?_))
 exact q _ _ (((Heap.SameBut.update ..).extBut.push _).push _) ⟨_,Heap.get?_push_size _ rfl,rfl⟩
theorem a8j {I a:Addr} {o:Obj} {es:Array (Int×Value)} {t:SetTable} {f i n ep:Nat} {Q:Option Value->Shared->Prop} (hh:A.handled=none) (hit:SIt s.heap I a (.int (f:Nat) 0) i n ep)
  (ho:s.heap.get? a=some o) (hd:o.data=.set es ep t) (hf:t.fits es.size=true) (hn:es.size=n)
  (hs:∀ (B:Around) (R:Option (Value×Nat)->Shared->Prop) (E:Value->Shared->Prop),R none s->wpAny (model prog w) B (setNext a f i ep) R E s)
  (hQ:∀ h',Heap.ExtBut I s.heap h'->Q none { s with heap:=h' }):wpAny (model prog w) A (pyNext (.ref I)) Q E s:=by
 obtain ⟨oi,h1,h2,h3⟩:=id hit
 unfold pyNext
 refine wpAny_bind (wpAny_attempt (wpAny_callSpecial?_slot (name:=Str.ofString "__next__") hit.ty si_slot (wpAny_call_entry si_slot hit.ty M8 ?_ (T8 _))))
 unfold Builtin.«set_iterator.__next__»
 refine wpAny_bind (wpAny_pure (wpAny_bind (wpAny_fieldsOf h1 h3 ?_)))
 show wpAny _ _ (setEntries a >>= _) _ _ s
 refine wpAny_bind (wpAny_setEntries_of ho hd hf ?_)
 rw [if_neg (by rw [hn];simp)]
 show wpAny _ _ (setNext a (f:Int).toNat (i:Int).toNat (ep:Int).toNat >>= _) _ _ s
 refine wpAny_bind (hs _ _ _ ?_)
 refine a0n (by simp [hh]) h1 h3 (by simp) λe h' x ty=>?_
 exact wpAny_bind (wpAny_isInstance (T:="StopIteration") (b:=true) ty isSubtype_stop (wpAny_pure (hQ _ x)))
theorem a4u {I a tp:Addr} {o ot:Obj} {es:Array (Int×Value)} {t:SetTable} {ps:List Nat} {c i n ep p:Nat} {hx:Int} {x:Value} {Q:Option Value->Shared->Prop} (hit:SIt s.heap I a (.ref tp) i n ep)
  (ho:s.heap.get? a=some o) (hd:o.data=.set es ep t) (hf:t.fits es.size=true) (hn:es.size=n) (ht:s.heap.get? tp=some ot) (htd:ot.data=.seq (ps.map λ(k:Nat)=>rawInt (k:Int)).toArray c)
  (hp:ps[i]?=some p) (he:es[p]?=some (hx,x))
  (hQ:∀ h',SIt h' I a (.ref tp) (i+1) n ep->Heap.SameBut I s.heap h'->Q (some x) { s with heap:=h' }):wpAny (model prog w) A (pyNext (.ref I)) Q E s:=by
 obtain ⟨oi,h1,h2,h3⟩:=id hit
 unfold pyNext
 refine wpAny_bind (wpAny_attempt (wpAny_callSpecial?_slot (name:=Str.ofString "__next__") hit.ty si_slot (wpAny_call_entry si_slot hit.ty M8 ?_ (T8 _))))
 unfold Builtin.«set_iterator.__next__»
 refine wpAny_bind (wpAny_pure (wpAny_bind (wpAny_fieldsOf h1 h3 ?_)))
 show wpAny _ _ (setEntries a >>= _) _ _ s
 refine wpAny_bind (wpAny_setEntries_of ho hd hf ?_)
 rw [if_neg (by rw [hn];simp)]
 show wpAny _ _ (seqItems? (.ref tp) >>= _) _ _ s
 refine wpAny_bind (wpAny_seqItems ht htd ?_)
 have e1:(ps.map λ(k:Nat)=>rawInt (k:Int)).toArray[((i:Int).toNat:Nat)]?=some (rawInt (p:Int)):=by
  rw [Int.toNat_natCast,List.getElem?_toArray,List.getElem?_map,hp];rfl
 dsimp only
 rw [e1]
 show wpAny _ _ (setNextDrawn a (p:Int).toNat (ep:Int).toNat >>= _) _ _ s
 unfold setNextDrawn
 refine wpAny_bind (wpAny_bind (wpAny_setState_of ho hd hf ?_))
 dsimp only
 rw [if_neg (by simp),Int.toNat_natCast,he]
 refine wpAny_pure ?_
 refine wpAny_bind (wpAny_setField h1 h3 (by simp) ?_)
 have h7:=Obj.data_mapFields h3 (·.setIfInBounds 1 (rawInt ((i:Int)+1)))
 refine wpAny_pure ⟨_,rfl,wpAny_pure (hQ _ ⟨_,Heap.get?_update_self _ h1 (Obj.isFreed_of_fields h7),?_,?_⟩ (Heap.SameBut.update ..))⟩
 ·exact (Obj.cls_mapFields ..).trans h2
 ·rw [h7];simp [rawInt]
theorem a8f {I a tp:Addr} {o ot:Obj} {es:Array (Int×Value)} {t:SetTable} {ps:List Nat} {c i n ep:Nat} {Q:Option Value->Shared->Prop} (hh:A.handled=none) (hit:SIt s.heap I a (.ref tp) i n ep)
  (ho:s.heap.get? a=some o) (hd:o.data=.set es ep t) (hf:t.fits es.size=true) (hn:es.size=n) (ht:s.heap.get? tp=some ot) (htd:ot.data=.seq (ps.map λ(k:Nat)=>rawInt (k:Int)).toArray c)
  (hp:ps[i]?=none)
  (hQ:∀ h',Heap.ExtBut I s.heap h'->Q none { s with heap:=h' }):wpAny (model prog w) A (pyNext (.ref I)) Q E s:=by
 obtain ⟨oi,h1,h2,h3⟩:=id hit
 unfold pyNext
 refine wpAny_bind (wpAny_attempt (wpAny_callSpecial?_slot (name:=Str.ofString "__next__") hit.ty si_slot (wpAny_call_entry si_slot hit.ty M8 ?_ (T8 _))))
 unfold Builtin.«set_iterator.__next__»
 refine wpAny_bind (wpAny_pure (wpAny_bind (wpAny_fieldsOf h1 h3 ?_)))
 show wpAny _ _ (setEntries a >>= _) _ _ s
 refine wpAny_bind (wpAny_setEntries_of ho hd hf ?_)
 rw [if_neg (by rw [hn];simp)]
 show wpAny _ _ (seqItems? (.ref tp) >>= _) _ _ s
 refine wpAny_bind (wpAny_seqItems ht htd ?_)
 have e1:(ps.map λ(k:Nat)=>rawInt (k:Int)).toArray[((i:Int).toNat:Nat)]?=none:=by
  rw [Int.toNat_natCast,List.getElem?_toArray,List.getElem?_map,hp];rfl
 dsimp only
 rw [e1]
 refine wpAny_bind (wpAny_setField h1 h3 (by simp) ?_)
 have h7:=Obj.data_mapFields h3 (·.setIfInBounds 0 (rawInt 0))
 have h8:=Heap.get?_update_self (Obj.mapFields (·.setIfInBounds 0 (rawInt 0))) h1 (Obj.isFreed_of_fields h7)
 refine a0n (by simp [hh]) h8 h7 (by simp) λe h' x ty=>?_
 exact wpAny_bind (wpAny_isInstance (T:="StopIteration") (b:=true) ty isSubtype_stop (wpAny_pure (hQ _ λb ob hb q=>x b ob hb ((Heap.SameBut.update s.heap I _).extBut b ob hb q))))
end
theorem a58:Slot "set_iterator" "__iter__" "set_iterator.__iter__":=by
 refine .of (owner:="set_iterator") (n:="__iter__") ?_ (by decide +kernel) (by decide +kernel) (by decide +kernel) ?_ ?_
 ·rw [typeLookup_type,builtinLookup_eq_fast];kernel_rfl
 ·first | exact .inl (by decide +kernel) | exact .inr (by decide +kernel)
 ·rw [isSubtype_type];kernel_rfl
theorem a98:entryFor table "set_iterator.__iter__" = some Builtin.«dict_keyiterator.__iter__»:=entryFor_alias (id':="dict_keyiterator.__iter__") (by kernel_rfl) rfl (by decide +kernel) (by kernel_rfl)
theorem b4m (a:Value):argsOk "set_iterator.__iter__" ⟨[a],[]⟩:=by
 unfold argsOk
 rw [signature?_of (id:="set_iterator.__iter__") (n:=['_','_','r','e','t','i','_','_']) (o:=['r','o','t','a','r','e','t','i','_','t','e','s']) (by kernel_rfl) a26]
 kernel_rfl
theorem P7 {α:Type}:∀ (l:List α) (i:Nat) (h:i<l.length),(l[i] :: l.eraseIdx i).Perm l
 | [],i,h=>by cases h
 | x :: l,0,h=>.refl _
 | x :: l,i+1,h=>by
  have z:i<l.length:=Nat.lt_of_succ_lt_succ h
  exact (List.Perm.swap x l[i] (l.eraseIdx i)).trans ((P7 l i z).cons x)
theorem a6j {α:Type} (f:Nat->Nat):∀ (n k:Nat) (l:List α) (out:Array α),n=l.length->(pickOrder.go f n k l out).toList.Perm (out.toList++l)
 | 0,k,l,out,e=>by
  have:l=[]:=List.length_eq_zero_iff.mp e.symm
  subst this
  unfold pickOrder.go
  simp
 | n+1,k,l,out,e=>by
  unfold pickOrder.go
  have z:f k % l.length<l.length:=Nat.mod_lt _ (by omega)
  rw [List.getElem?_eq_getElem z]
  dsimp only
  refine (a6j f n (k+1) _ _ (by rw [List.length_eraseIdx];split <;> omega)).trans ?_
  rw [Array.toList_push,List.append_assoc]
  refine List.Perm.append_left _ ?_
  exact P7 l _ z
theorem a76 {α:Type} (f:Nat->Nat) (xs:Array α):(pickOrder f xs).toList.Perm xs.toList:=by
 have:=a6j f xs.size 0 xs.toList #[] (by simp)
 unfold pickOrder
 simpa using this
section
variable {prog:Program} {w:World} {A:Around} {E:Value->Shared->Prop} {s:Shared}
theorem c14 {src:Source} {n:Nat} {Q:Nat->Shared->Prop} (hn:n≠0) (q:∀ k d,k<n->Q k { s with drawn:=d }):wpAny (model prog w) A (choose src n) Q E s:=
 λ_ _ _=>⟨hn,q _ _ (Nat.mod_lt _ (Nat.pos_of_ne_zero hn))⟩
theorem a0r {α:Type}:∀ (n:Nat) (l:List α) (s:Shared) (Q:List α->Shared->Prop),n=l.length->(∀ ys d,ys.Perm l->Q ys { s with drawn:=d })->wpAny (model prog w) A (drawOrder n l) Q E s
 | 0,l,s,Q,e,q=>by
  have:l=[]:=List.length_eq_zero_iff.mp e.symm
  subst this
  exact wpAny_pure (q [] s.drawn (.refl _))
 | n+1,[],s,Q,e,q=>by cases e
 | n+1,x :: l,s,Q,e,q=>by
  unfold drawOrder
  refine wpAny_bind (c14 (by simp) λk d hk=>?_)
  rw [List.getElem?_eq_getElem hk]
  refine wpAny_bind (a0r n _ _ _ (by rw [List.length_eraseIdx,if_pos hk];simp at e ⊢;omega) λys d2 p=>wpAny_pure ?_)
  exact q _ d2 ((p.cons _).trans (P7 (x :: l) k hk))
variable {a:Addr} {o:Obj} {es:Array (Int×Value)} {t:SetTable} {ep:Nat}
theorem text_atHt (hb:i6 w=true):wpAny (model prog w) A setsByText (λb z=>b=true/\s=z) E s:=wpAny_bind (wpAny_askSetting (wpAny_pure ⟨hb,rfl⟩))
theorem text_noHt (hb:i6 w=false):wpAny (model prog w) A setsByText (λb z=>b=false/\s=z) E s:=wpAny_bind (wpAny_askSetting (wpAny_pure ⟨hb,rfl⟩))
theorem a6x {f i:Nat} {R:Option (Value×Nat)->Shared->Prop} (hb:i6 w=true) (ho:s.heap.get? a=some o) (hd:o.data=.set es ep t) (hf:t.fits es.size=true)
  (q:R (((pickOrder (w.params.setOrder a ep) es)[i]?).map λe=>(e.2,f)) s):wpAny (model prog w) A (setNext a f i ep) R E s:=by
 unfold setNext
 refine wpAny_bind (wpAny_setState_of ho hd hf (wpAny_bind (wpAny_mono (text_atHt hb) (λb z ⟨e1,e2⟩=>?_) λ_ _ x=>x)))
 subst e1 e2
 rw [if_pos rfl]
 dsimp only
 rw [if_neg (by simp)]
 unfold setWalk
 refine wpAny_bind (wpAny_bind (wpAny_setState_of ho hd hf (wpAny_bind (wpAny_mono (text_atHt hb) (λb z ⟨e1,e2⟩=>?_) λ_ _ x=>x))))
 subst e1 e2
 rw [if_pos rfl]
 exact wpAny_bind (wpAny_askSetting (wpAny_pure (wpAny_pure q)))
theorem a88 {f i:Nat} {R:Option (Value×Nat)->Shared->Prop} (hb:i6 w=false) (ho:s.heap.get? a=some o) (hd:o.data=.set es ep t) (hf:t.fits es.size=true) (hl:t.led=true) (hp:(!t.plain&&decide (es.size > 1))=false)
  (q:R (match es[SetTable.below t.place f]?,t.place[SetTable.below t.place f]? with | some (_,x),some j=>some (x,j+1) | _,_=>none) s):wpAny (model prog w) A (setNext a f i ep) R E s:=by
 unfold setNext
 refine wpAny_bind (wpAny_setState_of ho hd hf (wpAny_bind (wpAny_mono (text_noHt hb) (λb z ⟨e1,e2⟩=>?_) λ_ _ x=>x)))
 subst e1 e2
 rw [if_neg Bool.false_ne_true]
 show wpAny _ _ (if (!t.plain&&decide (es.size > 1))=true then _ else _) _ _ _
 rw [hp,if_neg Bool.false_ne_true]
 refine wpAny_bind (?_:wpAny _ _ (if (!t.led&&!es.isEmpty)=true then _ else _) _ _ _)
 rw [hl,if_neg (by simp)]
 exact wpAny_pure (wpAny_pure q)
end
section
variable {prog:Program} {w:World} {A:Around} {E:Value->Shared->Prop} {s:Shared} {K:Type} [DecidableEq K] {knd:KeyKind prog w K} {S:K->Bool} {n:Nat}
variable {a:Addr} {o:Obj} {es:Array (Int×Value)} {t:SetTable} {ep:Nat}
theorem SIt.mv {h h':Heap} {I a:Addr} {first:Value} {i n ep:Nat} (x:SIt h I a first i n ep) (e:∀ o,h.get? I=some o->h'.get? I=some o):SIt h' I a first i n ep:=let ⟨o,ho,r⟩:=x;⟨o,e o ho,r⟩
theorem a6t {I a:Addr} {first:Value} {i n ep:Nat} {Q:Value->Shared->Prop} (x:SIt s.heap I a first i n ep) (q:Q (.ref I) s):wpAny (model prog w) A (pyIter (.ref I)) Q E s:=by
 refine wpAny_pyIter_slot x.ty a58 (wpAny_call_entry a58 x.ty a98 ?_ (b4m _))
 show wpAny _ _ (ret (.ref I)) _ _ s
 exact wpAny_pure ⟨_,rfl,"set_iterator",_,x.ty,si_slot.lookup,q⟩
noncomputable def b2q (t:SetTable):Nat->Nat
 | 0=>0
 | i+1=>t.place.getD i 0+1
theorem a4h (hh:A.handled=none) {I:Addr} (ne:a≠I) (x:a8d knd o S n es ep t) (f:Nat->Nat) (vs:List Value) (hn:vs.length=n)
  (h1:∀ i (B:Around) (s:Shared) (R:Option (Value×Nat)->Shared->Prop) (E:Value->Shared->Prop) v,s.heap.get? a=some o->vs[i]?=some v->R (some (v,f (i+1))) s->wpAny (model prog w) B (setNext a (f i) i ep) R E s)
  (h2:∀ (B:Around) (s:Shared) (R:Option (Value×Nat)->Shared->Prop) (E:Value->Shared->Prop),s.heap.get? a=some o->R none s->wpAny (model prog w) B (setNext a (f n) n ep) R E s) :
  Walks prog w A I [I,a] [I] n (λi v=>vs[i]?=some v) (λi h=>SIt h I a (.int (f i:Nat) 0) i n ep/\h.get? a=some o) where
 sub:=λb hb=>by simp at hb;simp [hb]
 frame:=λi h h' st hk=>⟨st.1.mv λo e=>hk I (by simp) o e,hk a (by simp) _ st.2⟩
 item:=λi s Q E hi st q=>by
  have e:vs[i]?=some vs[i]:=List.getElem?_eq_getElem (by omega)
  refine a4v st.1 st.2 x.2.1 x.2.2.2.2.2.1 x.2.2.2.2.2.2.1 (λB R E z=>h1 i B s R E _ st.2 e z) λh' y sm=>q _ h' s.toks e ⟨y,?_⟩ λb ob hb z=>sm.extBut b ob (λc=>hb (by simp [c])) z
  exact sm.extBut _ _ ne st.2
 done:=λs Q E st q=>a8j hh st.1 st.2 x.2.1 x.2.2.2.2.2.1 x.2.2.2.2.2.2.1 (λB R E z=>h2 B s R E st.2 z) λh' y=>q h' s.toks λb ob hb z=>y b ob (λc=>hb (by simp [c])) z
 self:=λ_ _ _ _ st q=>a6t st.1 q
theorem a47 (hh:A.handled=none) {I tp:Addr} (ne:a≠I) (nt:tp≠I) (x:a8d knd o S n es ep t) {ot:Obj} {c:Nat} (ps:List Nat) (htd:ot.data=.seq (ps.map λ(k:Nat)=>rawInt (k:Int)).toArray c) (hp:ps.Perm (List.range n)) :
  Walks prog w A I [I,a,tp] [I] n (λi v=>(ps.map λp=>(es.toList.map (·.2)).getD p .none)[i]?=some v) (λi h=>SIt h I a (.ref tp) i n ep/\h.get? a=some o/\h.get? tp=some ot) where
 sub:=λb hb=>by simp at hb;simp [hb]
 frame:=λi h h' st hk=>⟨st.1.mv λo e=>hk I (by simp) o e,hk a (by simp) _ st.2.1,hk tp (by simp) _ st.2.2⟩
 item:=λi s Q E hi st q=>by
  have ln:ps.length=n:=by rw [hp.length_eq,List.length_range]
  have sz:es.size=n:=x.2.2.2.2.2.2.1
  have e:ps[i]?=some (ps[i]'(by omega)):=List.getElem?_eq_getElem (by omega)
  have lt:ps[i]'(by omega)<es.size:=by
   have:ps[i]'(by omega)∈List.range n:=hp.mem_iff.mp (List.getElem_mem _)
   rw [sz];exact List.mem_range.mp this
  generalize ps[i]'(by omega)=p at e lt
  have e2:es[p]?=some (es[p].1,es[p].2):=Array.getElem?_eq_getElem lt
  refine a4u st.1 st.2.1 x.2.1 x.2.2.2.2.2.1 sz st.2.2 htd e e2 λh' y sm=>q _ h' s.toks ?_ ⟨y,sm.extBut _ _ ne st.2.1,sm.extBut _ _ nt st.2.2⟩ λb ob hb z=>sm.extBut b ob (λc=>hb (by simp [c])) z
  rw [List.getElem?_map,e]
  simp [lt]
 done:=λs Q E st q=>by
  have ln:ps.length=n:=by rw [hp.length_eq,List.length_range]
  exact a8f hh st.1 st.2.1 x.2.1 x.2.2.2.2.2.1 x.2.2.2.2.2.2.1 st.2.2 htd (List.getElem?_eq_none (by omega)) λh' y=>q h' s.toks λb ob hb z=>y b ob (λc=>hb (by simp [c])) z
 self:=λ_ _ _ _ st q=>a6t st.1 q
structure Itd (prog:Program) (w:World) (a:Addr) (es:Array (Int×Value)) (s z:Shared) (I:Addr):Prop where
 keep:∀ b ob,s.heap.get? b=some ob->z.heap.get? b=some ob
 rest:z={ s with heap:=z.heap,drawn:=z.drawn }
 new:s.heap.objs.size<=I
 walk:∃ (vs:List Value) (fp:List Addr) (St:Nat->Heap->Prop),vs.Perm (es.toList.map (·.2))/\(∀ B:Around,B.handled=none->Walks prog w B I fp [I] es.size (λi v=>vs[i]?=some v) St)/\St 0 z.heap/\∀ b∈fp,b=a\/(s.heap.objs.size<=b/\b<z.heap.objs.size)
theorem b5k {Q:Value->Shared->Prop} (ho:s.heap.get? a=some o) (x:a8d knd o S n es ep t) (q:∀ I z,Itd prog w a es s z I->Q (.ref I) z):wpAny (model prog w) A (pyIter (.ref a)) Q E s:=by
 have ty:s.TypeIs (.ref a) "set":=⟨o,ho,x.1.1⟩
 have lt:=Heap.lt_size ho
 obtain ⟨x1,x2,x3,x4,x5,x6,x7,x8,x9⟩:=id x
 refine wpAny_pyIter_slot ty PySem.F.slot_set_iter (wpAny_call_entry PySem.F.slot_set_iter ty b0u ?_ (PySem.F.args_set_iter_1 _))
 unfold Builtin.«frozenset.__iter__» Builtin.Frozenset.slot0 slotArgs
 simp only [List.isEmpty_nil,Bool.not_true,Bool.false_eq_true,↓reduceIte,LawfulMonad.bind_assoc,List.length_nil,bne_self_eq_false]
 unfold Builtin.Frozenset.addrOf Builtin.Frozenset.sizeOf setDrawn
 refine wpAny_bind (wpAny_pure ?_)
 dsimp only
 refine wpAny_bind (wpAny_pure ?_)
 refine wpAny_bind (wpAny_bind (wpAny_setEntries_of ho x2 x6 (wpAny_pure ?_)))
 refine wpAny_bind (wpAny_bind (wpAny_setState_of ho x2 x6 ?_))
 have ne:a≠s.heap.objs.size:=Nat.ne_of_lt lt
 have small:es.size<4096:=x5
 have int_:∀ (f:Nat->Nat) (vs:List Value),f 0=0->vs.Perm (es.toList.map (·.2)) ->
   (∀ i (B:Around) (s:Shared) (R:Option (Value×Nat)->Shared->Prop) (E:Value->Shared->Prop) v,s.heap.get? a=some o->vs[i]?=some v->R (some (v,f (i+1))) s->wpAny (model prog w) B (setNext a (f i) i ep) R E s) ->
   (∀ (B:Around) (s:Shared) (R:Option (Value×Nat)->Shared->Prop) (E:Value->Shared->Prop),s.heap.get? a=some o->R none s->wpAny (model prog w) B (setNext a (f n) n ep) R E s) ->
   wpAny (model prog w) A.in1 (setEpoch a >>= λk=>newFields "set_iterator" [rawInt 0,rawInt 0,.ref a,rawInt es.size,rawInt k] >>= λv=>ret v) (λfin z=>∃ v,fin=Fin.done (Flow.ret v)/\∃ T r,z.TypeIs v T/\typeLookup (Value.type T) (Str.ofString "__next__")=pure (some r)/\Q v z) E s:=λf vs f0 p h1 h2=>by
  have hn:vs.length=n:=by rw [p.length_eq,List.length_map,Array.length_toList,x7]
  refine wpAny_bind (wpAny_setEpoch_of ho x2 x6 (wpAny_bind (wpAny_newObj_type (wpAny_pure ⟨_,rfl,"set_iterator",_,⟨_,Heap.get?_push_size _ rfl,rfl⟩,si_slot.lookup,q _ _ ?_⟩) (by size_fits))))
  refine ⟨λb ob e=>Heap.get?_push_of_some _ e,rfl,Nat.le_refl _,vs,[s.heap.objs.size,a],_,p,λB hB=>x7▸a4h hB ne x f vs hn h1 h2,⟨⟨_,Heap.get?_push_size _ rfl,rfl,?_⟩,Heap.get?_push_of_some _ ho⟩,λb hb=>?_⟩
  ·rcases List.mem_cons.mp hb with rfl | hb
   ·exact .inr ⟨Nat.le_refl _,by show _<(Heap.push _ _).objs.size;rw [Heap.size_push];exact Nat.lt_succ_self _⟩
   ·exact .inl (List.mem_singleton.mp hb)
  ·rw [f0];rfl
 cases hb:i6 w with
 | true=>
  refine wpAny_bind (wpAny_mono (text_atHt hb) (λb z ⟨e1,e2⟩=>?_) λ_ _ y=>y)
  subst e1 e2
  refine wpAny_pure ?_
  have p:=a76 (w.params.setOrder a ep) es
  refine int_ (λ_=>0) ((pickOrder (w.params.setOrder a ep) es).toList.map (·.2)) rfl (p.map _) (λi B s R E v ho hv r=>a6x hb ho x2 x6 ?_) λB s R E ho r=>a6x hb ho x2 x6 ?_
  ·rw [List.getElem?_map,Array.getElem?_toList,Option.map_eq_some_iff] at hv
   obtain ⟨e,h1,h2⟩:=hv
   rw [h1]
   show R (some (e.2,0)) s
   rw [h2]
   exact r
  ·have:(pickOrder (w.params.setOrder a ep) es)[n]?=none:=by
    have:=p.length_eq
    rw [Array.length_toList,Array.length_toList,x7] at this
    exact Array.getElem?_eq_none (by omega)
   rw [this];exact r
 | false=>
  refine wpAny_bind (wpAny_mono (text_noHt hb) (λb z ⟨e1,e2⟩=>?_) λ_ _ y=>y)
  subst e1 e2
  refine wpAny_pure ?_
  cases hd:(!t.plain&&decide (es.size > 1)) with
  | false=>
   show wpAny _ _ (if (!false&&(!t.plain&&decide (es.size > 1)))=true then _ else _) _ _ _
   rw [hd,if_neg (by simp)]
   have led:t.led=true:=by rw [x9,hb];rfl
   have fit:t.place.size=es.size:=by
    have:=x6
    unfold SetTable.fits at this
    simp only [Bool.and_eq_true,beq_iff_eq] at this
    exact this.1
   have up:Rise t.place:=by
    cases pl:t.plain with
    | true=>exact x8.up pl
    | false=>
     rw [pl] at hd
     have z:t.place.size<=1:=by simp at hd;omega
     unfold Rise
     have:t.place.toList.length<=1:=by simpa using z
     match t.place.toList,this with
     | [],_=>exact .nil
     | [y],_=>exact .cons (λ_ h=>by cases h) .nil
   have go:∀ i,i<=n->SetTable.below t.place (b2q t i)=i:=λi hi=>by
    cases i with
    | zero=>exact a5k up
    | succ i=>
     have z:i<t.place.size:=by omega
     show SetTable.below t.place (t.place.getD i 0+1)=i+1
     rw [show t.place.getD i 0=t.place[i] by simp [Array.getD,z]]
     exact a4w up z
   refine int_ (b2q t) (es.toList.map (·.2)) rfl (.refl _) (λi B s R E v ho hv r=>a88 hb ho x2 x6 led hd ?_) λB s R E ho r=>a88 hb ho x2 x6 led hd ?_
   ·rw [List.getElem?_map,Array.getElem?_toList,Option.map_eq_some_iff] at hv
    obtain ⟨e,h1,h2⟩:=hv
    have z:i<es.size:=by
     rcases Nat.lt_or_ge i es.size with u | u
     ·exact u
     ·rw [Array.getElem?_eq_none u] at h1;cases h1
    have z2:i<t.place.size:=by omega
    rw [go i (by omega),h1,Array.getElem?_eq_getElem z2]
    obtain ⟨e1,e2⟩:=e
    dsimp only at h2 ⊢
    subst h2
    have:b2q t (i+1)=t.place[i]+1:=by show t.place.getD i 0+1=_;simp [Array.getD,z2]
    rw [this] at r
    exact r
   ·rw [go n (Nat.le_refl _),Array.getElem?_eq_none (by omega)]
    exact r
  | true=>
   show wpAny _ _ (if (!false&&(!t.plain&&decide (es.size > 1)))=true then _ else _) _ _ _
   rw [hd,if_pos (by simp)]
   refine wpAny_bind (a0r _ _ _ _ (by simp) λps d p=>?_)
   have pl:ps.length=es.size:=by rw [p.length_eq,List.length_range]
   refine wpAny_bind (wpAny_newTuple (wpAny_bind (wpAny_setEpoch_of (Heap.get?_push_of_some _ ho) x2 x6 (wpAny_bind (wpAny_newObj_type (wpAny_pure ⟨_,rfl,"set_iterator",_,⟨_,Heap.get?_push_size _ rfl,rfl⟩,si_slot.lookup,q _ _ ?_⟩) (by size_fits))))) (by rw [List.length_map,pl,sizeLine_eq];omega))
   have ez:(s.heap.push { cls:=.type "tuple",data:=.seq (ps.map λ(k:Nat)=>rawInt (k:Int)).toArray }).objs.size=s.heap.objs.size+1:=Heap.size_push _ _
   refine ⟨λb ob e=>Heap.get?_push_of_some _ (Heap.get?_push_of_some _ e),rfl,?g1,ps.map λp=>(es.toList.map (·.2)).getD p .none,[(s.heap.push { cls:=.type "tuple",data:=.seq (ps.map λ(k:Nat)=>rawInt (k:Int)).toArray }).objs.size,a,s.heap.objs.size],_,?g2,λB hB=>x7▸a47 hB ?g3 ?g4 x (ot:={ cls:=.type "tuple",data:=.seq (ps.map λ(k:Nat)=>rawInt (k:Int)).toArray }) ps rfl (x7▸p),⟨⟨_,Heap.get?_push_size _ rfl,rfl,?g5⟩,?g6,?g7⟩,λb hb=>?g8⟩
   case g1=>
    rw [ez];exact Nat.le_succ _
   case g2=>
    refine (p.map _).trans ?_
    have:(List.range es.size).map (λp=>(es.toList.map (·.2)).getD p .none)=es.toList.map (·.2):=by
     refine List.ext_getElem (by simp) λi h1 h2=>?_
     simp at h1 h2
     simp [h1]
    rw [this]
   case g3=>
    rw [ez];exact Nat.ne_of_lt (Nat.lt_succ_of_lt lt)
   case g4=>
    rw [ez];exact Nat.ne_of_lt (Nat.lt_succ_self _)
   case g5=>
    rfl
   case g6=>
    exact Heap.get?_push_of_some _ (Heap.get?_push_of_some _ ho)
   case g7=>
    exact Heap.get?_push_of_some _ (Heap.get?_push_size _ rfl)
   case g8=>
    have e2:((s.heap.push { cls:=.type "tuple",data:=.seq (ps.map λ(k:Nat)=>rawInt (k:Int)).toArray }).push { cls:=.type "set_iterator",data:=.fields [Value.ref s.heap.objs.size,rawInt 0,Value.ref a,rawInt ↑es.size,rawInt ↑ep].toArray }).objs.size=s.heap.objs.size+1+1:=(Heap.size_push _ _).trans (congrArg (· + 1) ez)
    rcases List.mem_cons.mp hb with rfl | hb
    ·exact .inr ⟨by rw [ez];exact Nat.le_succ _,by show _<(Heap.push _ _).objs.size;rw [e2,ez];exact Nat.lt_succ_self _⟩
    ·rcases List.mem_cons.mp hb with rfl | hb
     ·exact .inl rfl
     ·rw [List.mem_singleton.mp hb]
      exact .inr ⟨Nat.le_refl _,by show _<(Heap.push _ _).objs.size;rw [e2];exact Nat.lt_succ_of_lt (Nat.lt_succ_self _)⟩
end
section
variable {prog:Program} {w:World} {A:Around} {E:Value->Shared->Prop} {s:Shared} {K:Type} [DecidableEq K] {knd:KeyKind prog w K} {S:K->Bool} {n:Nat}
variable {a:Addr} {o:Obj} {es:Array (Int×Value)} {t:SetTable} {ep:Nat}
theorem a41 {Q:List Value->Shared->Prop} (hh:A.handled=none) (ho:s.heap.get? a=some o) (x:a8d knd o S n es ep t)
  (q:∀ z vs,(∀ b ob,s.heap.get? b=some ob->z.heap.get? b=some ob)->z={ s with heap:=z.heap,drawn:=z.drawn,toks:=z.toks }->vs.Perm (es.toList.map (·.2))->s.heap.objs.size<z.heap.objs.size->Q vs z):wpAny (model prog w) A (collect (.ref a)) Q E s:=by
 have lt:=Heap.lt_size ho
 have small:es.size<4096:=x.2.2.2.2.1
 unfold collect
 refine wpAny_bind (wpAny_runValue (codeAny_builtin PySem.F.entry_proto_collect ?_))
 rw [Around.under_plainId PySem.F.plain_proto_collect _]
 refine wpAny_bind (m:=newList []) (wpAny_newObj_type (wpAny_pure ⟨plainId_quiet PySem.F.plain_list_iadd _,codeAny_builtin PySem.F.entry_list_iadd ?_⟩))
 rw [Around.under_plainId PySem.F.plain_list_iadd _]
 have ho1:=Heap.get?_push_of_some ({ cls:=.type "list",data:=.seq ([]:List Value).toArray }:Obj) ho
 have ty:Shared.TypeIs { s with heap:=s.heap.push { cls:=.type "list",data:=.seq ([]:List Value).toArray } } (.ref a) "set":=⟨o,ho1,x.1.1⟩
 have hL:(s.heap.push { cls:=.type "list",data:=.seq ([]:List Value).toArray }).get? s.heap.objs.size=some { cls:=.type "list",data:=.seq ([]:List Value).toArray }:=Heap.get?_push_size _ rfl
 have hz:(s.heap.push { cls:=.type "list",data:=.seq ([]:List Value).toArray }).objs.size=s.heap.objs.size+1:=Heap.size_push _ _
 show wpAny _ A.in1 (Builtin.List.listExtendWith (.ref s.heap.objs.size) (.ref a) (.ref s.heap.objs.size)) _ _ _
 unfold Builtin.List.listExtendWith
 have e1:Builtin.List.listSameRef (.ref s.heap.objs.size) (.ref a)=false:=by
  have:s.heap.objs.size≠a:=Nat.ne_of_gt lt
  simp [Builtin.List.listSameRef,this]
 refine wpAny_bind (wpAny_typeOf ty ?_)
 rw [if_neg (by rw [e1];decide)]
 refine wpAny_bind (b5k ho1 x λI z d=>wpAny_bind (wpAny_holding ?_))
 have ty2:z.TypeIs (.ref a) "set":=⟨o,d.keep _ _ ho1,x.1.1⟩
 unfold Builtin.List.listLengthHint
 refine wpAny_bind (wpAny_specialOf ty2 PySem.F.slot_set_len.lookup ?_)
 wp_delta
 refine wpAny_bind (wpAny_isInstance (b:=true) ty2 (by rw [isSubtype_type];kernel_rfl) ?_)
 show wpAny _ A.in1 (typeOf (Value.ref a) >>= _) _ _ _
 refine wpAny_bind (wpAny_typeOf ty2 (wpAny_pure ?_))
 rw [if_pos (by decide)]
 refine wpAny_bind (wpAny_rule ?_)
 obtain ⟨vs,fp,St,p,W,st,fo⟩:=d.walk
 have hL2:=d.keep _ _ hL
 refine wpAny_bind ?_
 show wpAny _ A.in1 (updateSeq s.heap.objs.size (·.push .none) >>= λ_=>updateSeq s.heap.objs.size (·.pop)) _ _ _
 refine wpAny_bind (wpAny_updateSeq hL2 rfl ?_)
 have hL3:=Heap.get?_update_self (Obj.mapSeq (·.push Value.none)) hL2 rfl
 refine wpAny_updateSeq (hz:=by seq_fits) hL3 rfl ?_
 have hL4:=Heap.get?_update_self (Obj.mapSeq (·.pop)) hL3 rfl
 have nS:s.heap.objs.size∉fp:=λhm=>by
  rcases fo _ hm with u | u
  ·exact absurd u (Nat.ne_of_gt lt)
  ·have:=u.1;rw [show ({ s with heap:=s.heap.push { cls:=.type "list",data:=.seq ([]:List Value).toArray } }:Shared).heap.objs.size=s.heap.objs.size+1 from hz] at this;omega
 have oth:∀ b ob,b≠s.heap.objs.size->z.heap.get? b=some ob->((z.heap.update s.heap.objs.size (Obj.mapSeq (·.push Value.none))).update s.heap.objs.size (Obj.mapSeq (·.pop))).get? b=some ob:=
  λb ob hb e=>(Heap.get?_update_other _ _ (Ne.symm hb)).trans ((Heap.get?_update_other _ _ (Ne.symm hb)).trans e)
 have W1:=W A.in1 hh
 refine wpAny_pure ⟨plainId_quiet PySem.F.plain_extend_loop _,codeAny_extend_loopS W1.toS (by rw [sizeLine_eq];omega) _ nS _ es.size 0 _ _ _ rfl (Nat.zero_le _) (W1.frame 0 _ _ st λb hb ob e=>oth b ob (λh=>nS (h▸hb)) e) hL4 (ItemsOf.nil _) λy acc c m hL5 hacc=>?_⟩
 show wpAny _ A (load s.heap.objs.size >>= _) _ _ y
 refine wpAny_bind (wpAny_load hL5 (wpAny_pure (q y acc.toList (λb ob e=>?_) ?_ ?_ (Heap.lt_size hL5))))
 ·have lb:=Heap.lt_size e
  refine m.heap b ob (λhb=>?_) (oth b ob (Nat.ne_of_lt lb) (d.keep b ob (Heap.get?_push_of_some _ e)))
  rcases List.mem_cons.mp hb with h | h
  ·exact absurd lb (h▸Nat.lt_irrefl _)
  ·have:=d.new
   rw [<- List.mem_singleton.mp h,show ({ s with heap:=s.heap.push { cls:=.type "list",data:=.seq ([]:List Value).toArray } }:Shared).heap.objs.size=s.heap.objs.size+1 from hz] at this
   exact absurd (Nat.lt_of_lt_of_le lb (Nat.le_of_succ_le this)) (Nat.lt_irrefl _)
 ·have g1:y.gens=z.gens:=m.gens
  have g2:y.os=z.os:=m.os
  have r:=d.rest
  have r1:z.gens=s.gens:=by rw [r]
  have r2:z.os=s.os:=by rw [r]
  obtain ⟨yh,yg,yd,yt,yo⟩:=y
  dsimp only at g1 g2
  subst g1 g2
  rw [r1,r2]
 ·have:acc.toList=vs:=by
   have ln:vs.length=es.size:=by rw [p.length_eq,List.length_map,Array.length_toList]
   refine List.ext_getElem (by rw [Array.length_toList,hacc.1,ln]) λi h1 h2=>?_
   have:vs[i]?=some acc.toList[i]:=hacc.2 i acc.toList[i] (by rw [<- Array.getElem?_toList];exact List.getElem?_eq_getElem h1)
   rw [List.getElem?_eq_getElem h2,Option.some.injEq] at this
   exact this.symm
  rw [this];exact p
end
section
variable {prog:Program} {w:World} {A:Around} {E:Value->Shared->Prop} {s:Shared} {S:Int->Bool} {n:Nat} {a:Addr}
theorem M2 {l:List (Int×Value)} (h:ElemsOf (intKind prog w) l):∃ ks,IntsAre (l.map (·.2)) ks/\∀ k,k∈ks↔∃ e∈l,(intKind prog w).is k e.2=true:=by
 induction l with
 | nil=>exact ⟨[],.nil,λk=>by simp⟩
 | cons e l ih=>
  obtain ⟨ks,h1,h2⟩:=ih h.tail
  obtain ⟨⟨k,hk,_⟩,_⟩:=h.head
  obtain ⟨t,ht⟩:=Value.isInt_shape hk
  refine ⟨k :: ks,?_,λj=>?_⟩
  ·rw [List.map_cons,ht];exact .cons k t h1
  ·rw [List.mem_cons,h2]
   have:(intKind prog w).is j e.2=true↔j=k:=by
    rw [KeyKind.is_eq_decide hk j,decide_eq_true_eq]
   constructor
   ·rintro (u | ⟨e',u,v⟩)
    ·exact ⟨e,List.mem_cons_self,this.mpr u⟩
    ·exact ⟨e',List.mem_cons_of_mem _ u,v⟩
   ·rintro ⟨e',u,v⟩
    rcases List.mem_cons.mp u with rfl | u
    ·exact .inl (this.mp v)
    ·exact .inr ⟨e',u,v⟩
theorem a8v:∀ {us vs:List Value} {ks:List Int},us.Perm vs->IntsAre vs ks->∃ js,IntsAre us js/\js.Perm ks:=λ{us vs ks} p=>by
 induction p generalizing ks with
 | nil=>exact λh=>⟨ks,h,.refl _⟩
 | cons x _ ih=>
  intro h
  cases h with
  | cons n t h=>
   obtain ⟨js,a,b⟩:=ih h
   exact ⟨n :: js,.cons n t a,b.cons n⟩
 | swap x y l=>
  intro h
  cases h with
  | cons n t h=>
   cases h with
   | cons m u h=>exact ⟨_,.cons m u (.cons n t h),.swap _ _ _⟩
 | trans _ _ i1 i2=>
  intro h
  obtain ⟨js,a,b⟩:=i2 h
  obtain ⟨ms,c,d⟩:=i1 a
  exact ⟨ms,c,d.trans b⟩
theorem perm_sub:∀ {l m:List Int},l.Nodup->(∀ x∈l,x∈m)->l.length=m.length->l.Perm m
 | [],m,_,_,e=>by
  have:m=[]:=List.length_eq_zero_iff.mp e.symm
  subst this;exact .refl _
 | x :: l,m,nd,sb,e=>by
  have hx:=sb x List.mem_cons_self
  rw [List.nodup_cons] at nd
  have ih:=perm_sub (m:=m.erase x) nd.2 (λy hy=>(List.mem_erase_of_ne (λh:y=x=>nd.1 (h▸hy))).mpr (sb y (List.mem_cons_of_mem _ hy))) (by
   rw [List.length_erase_of_mem hx];simp at e;omega)
  exact (ih.cons x).trans (List.perm_cons_erase hx).symm
theorem sortLHt {ns:List Int} {Q:Value->Shared->Prop} (hh:A.handled=none) (hS:SetL (intKind prog w) s.heap a (J5 ns) ns.length) (nd:ns.Nodup) (few:ns.length<64)
  (q:∀ (z:Shared) (p:Addr) (out:Array Value) (ms:List Int) (c:Nat),(∀ b ob,s.heap.get? b=some ob->z.heap.get? b=some ob)->z={ s with heap:=z.heap,drawn:=z.drawn,toks:=z.toks }->s.heap.objs.size<=p->z.heap.get? p=some (seqObj "list" out c)->IntsAre out.toList ms->ms.Perm ns->ms.Pairwise (·<=·)->Q (.ref p) z) :
  wpAny (model prog w) A (call (.builtin "sorted") [.ref a]) Q E s:=by
 obtain ⟨o,es,ep,t,ho,x⟩:=hS
 obtain ⟨ks,k1,k2⟩:=M2 x.2.2.1
 have kl:ks.length=ns.length:=by
  rw [<- IntsAre.length k1,List.length_map,Array.length_toList];exact x.2.2.2.2.2.2.1
 have kp:ns.Perm ks:=perm_sub nd (λy hy=>(k2 y).mpr ((x.2.2.2.1 y).mp (by simpa [J5] using hy))) kl.symm
 refine Calls.call_function_entry PyProof.Rows.kind_sorted PyProof.Rows.plain_sorted PyProof.Rows.entry_sorted (PyProof.Rows.args_sorted1 _) ?_
 unfold Builtin.«sorted»
 refine wpAny_bind (m:=checkCount "sorted" 1 1 _) (wpAny_pure (wpAny_bind (a41 (by simp [hh]) ho x λz vs kp2 rs p lz=>wpAny_bind (wpAny_newList ?_ (by rw [p.length_eq,List.length_map,Array.length_toList,sizeLine_eq];have z:es.size<4096:=x.2.2.2.2.1;omega)))))
 obtain ⟨js,j1,j2⟩:=a8v p k1
 have vl:vs.length=ns.length:=by rw [IntsAre.length j1,j2.length_eq,kl]
 have at_:(z.heap.push (seqObj "list" vs.toArray 0)).get? z.heap.objs.size=some (seqObj "list" vs.toArray 0):=Heap.get?_push_size _ rfl
 show wpAny _ _ _ _ _ { z with heap:=z.heap.push (seqObj "list" vs.toArray 0) }
 refine wpAny_bind (wpAny_holding (wpAny_call_entry PyProof.Rows.slot_list_sort ⟨_,at_,rfl⟩ PyProof.Rows.entry_list_sort (PyProof.Rows.list_sort_tree at_ j1 (by omega) λout ms b1 b2 b3=>⟨_,rfl,wpAny_pure ⟨_,rfl,?_⟩⟩) (PyProof.Rows.args_list_sort _)))
 obtain ⟨c,hc⟩:=sortedHeap_at (out:=out) at_
 refine q _ _ out ms c (λb ob e=>?_) ?_ (Nat.le_of_lt lz) hc b1 (b2.trans (j2.trans kp.symm)) b3
 ·have lb:=Heap.lt_size (kp2 b ob e)
  rw [sortedHeap_old (Nat.ne_of_lt lb) (by rw [PyProof.Rows.size_push'];exact Nat.lt_succ_of_lt lb)]
  exact Heap.get?_push_of_some _ (kp2 b ob e)
 ·show ({ z with heap:=_ }:Shared)=_
  rw [rs]
end
end HT
namespace L3
open PySem PySem.Spec PyProof.Rows L2
def CXr (P:Program) (w:World) (K:PySem.W.Frag):List PySem.Env->Hp->Shared->XK->Value->Shared->Prop:=λouter H s E e s'=>
 ∃ a C d tb H',e=.ref a/\s'.os=s.os/\AllBare s'.gens/\Un (frs outer) [] H H' s.heap s'.heap/\HOk P w H' s'.heap/\Fx K H' a C d tb/\E e none H'
noncomputable abbrev CXd (P:Program) (w:World) (K:PySem.W.Frag):CXT:=⟨CXr P w K,false⟩
section
variable {K:PySem.W.Frag} {cl:Nat->Addr} {xe xe':Addr->Hp->Prop} {α β:Type} {μ:Mp} {H H':Hp} {S:Sto} {a C:Addr} {d tb:Option Addr} {P:Program} {w:World} {h:Heap}
theorem Post.ximp {r:R α} {G:α->Sto->Mp->Hp->Prop} (p:Post K cl xe μ H r G) (k:∀ n S μ' H' a,r=.exn n S->Lat μ H μ' H'->Rep K cl μ' S H'->μ'.pl[n]?=some a->xe a H'->xe' a H'):Post K cl xe' μ H r G:=by
 cases r with
 | ok a S=>exact p
 | exn n S=>exact λμ' H' a l r e=>k n S μ' H' a rfl l r e (p μ' H' a l r e)
 | bad=>exact p
noncomputable def nx (m:M α):M α:=λS=>match m S with
 | .exn _ _=>.bad
 | r=>r
theorem Post.nx {m:M α} {G:α->Sto->Mp->Hp->Prop} (p:Post K cl xe μ H (nx m S) G):Post K cl xe' μ H (m S) G:=by
 unfold L3.nx at p
 cases e:m S with
 | ok a S1=>rw [e] at p;exact p
 | exn n S1=>rw [e] at p;exact p.elim
 | bad=>rw [e] at p;exact p
theorem Rep.mv {n:Nat} (r:Rep K cl μ S H) (hk:HOk P w H h) (e:μ.pl[n]?=some a) (fx:H a=some (Q0 tb a C d)) (m:Mv H a C d H'):Lat μ H μ H'/\Rep K cl μ S H':=by
 have am:a∈μ.pl:=List.mem_of_getElem? e
 have l:Lat μ H μ H':=⟨λ_ _ h=>h,λb o q nb=>m.1 b o (λz=>nb (z▸am)) q,λ_ h=>.inl h,rfl⟩
 refine ⟨l,r.len,r.nd,λi o b e1 e2=>?_,λb mb=>let ⟨h1,u,h2⟩:=r.res b mb;⟨h1,u,l.oth _ _ h2 h1⟩⟩
 have ho:=r.ats i o b e1 e2
 by_cases hb:b=a
 ·subst hb
  cases o with
  | lst ds=>obtain ⟨xs,q,_⟩:=ho;rw [fx] at q;simp [Q0] at q
  | dct kvs=>obtain ⟨xs,q,_⟩:=ho;rw [fx] at q;simp [Q0] at q
  | exc c fs=>
   obtain ⟨xc,gs,q,fr,o⟩:=ho
   obtain ⟨tb',m2⟩:=m.2
   obtain ⟨vs,q1,_⟩:=(hk b _ fx).1
   rcases o with ⟨z,e2⟩ | ⟨d',h1,h2,e2,e3⟩
   ·obtain ⟨vs2,q2,_⟩:=(hk b _ e2).1
    rw [q1] at q2;cases q2
    exact ⟨xc,gs,Paired.mono (λ_ _ ⟨z,w⟩=>⟨z,w.later l⟩) q,tb',.inl ⟨z,m2⟩⟩
   ·obtain ⟨vs2,q2,_⟩:=(hk b _ e2).1
    rw [q1] at q2;cases q2
    exact ⟨xc,gs,Paired.mono (λ_ _ ⟨z,w⟩=>⟨z,w.later l⟩) q,tb',.inr ⟨d',h1,h2,m2,m.1 d' _ h1 e3⟩⟩
 ·obtain ⟨u,q⟩:=ho.some
  exact ho.later l (by rw [q];exact m.1 b u hb q)
end
def xOf (X:Cx) (a:Addr) (H:Hp):Prop:=∀ (pins:List (Addr×Obj)) (σ:L2.St) (s:Shared) (C:Addr) (d tb:Option Addr),L2.Inv X pins σ H s->Fx X.K H a C d tb->X.xe (.ref a) s
def spX (K:PySem.W.Frag) (cl:Nat->Addr) (n:Nat) (run:List D->M D):Sp:=λvs H Q E=>vs.length=n/\∃ μ S ds,RDs K μ H ds vs/\Rep K cl μ S H/\Post K cl (a9i E) μ H (run ds S) λd _ μ' H'=>∀ v,RD K μ' H' d v->Q v H'
section
variable {K:PySem.W.Frag} {cl:Nat->Addr} {xe xe':Addr->Hp->Prop} {α:Type} {μ:Mp} {H:Hp}
theorem Post.up {r:R α} {G:α->Sto->Mp->Hp->Prop} (p:Post K cl xe μ H r G) (k:∀ a H',xe a H'->xe' a H'):Post K cl xe' μ H r G:=p.ximp λ_ _ _ H' a _ _ _ _ h=>k a H' h
theorem Post.x0 {r:R α} {G:α->Sto->Mp->Hp->Prop} (p:Post K cl (a9i E0) μ H r G):Post K cl xe μ H r G:=p.up λ_ _ z=>False.elim z
end
noncomputable abbrev x0:Addr->Hp->Prop:=a9i E0
section
variable {X:Cx} {cl:Nat->Addr} {xe:Addr->Hp->Prop} {e tg:Expr} {es:List Expr}
theorem PE.x0 {f:Env->M D} (h:PE X e (tD X.K cl xe f)):PE X e (tD X.K cl x0 f):=PE.imp h λσ H Q ⟨μ,S,ρ,eo,rp,p⟩=>⟨μ,S,ρ,eo,rp,p.x0⟩
theorem PTL.x0 {f:Env->M Bool} (h:PTL X es (tBo X.K cl xe f)):PTL X es (tBo X.K cl x0 f):=λpins s σ H Q I ⟨μ,S,ρ,eo,rp,p⟩=>h pins s σ H Q I ⟨μ,S,ρ,eo,rp,p.x0⟩
theorem PI.x0 {f:Env->M (Src×Nat)} (h:PI X tg e (tIt X.K cl xe f)):PI X tg e (tIt X.K cl x0 f):=PI.imp h λσ H Q ⟨μ,S,ρ,eo,rp,p⟩=>⟨μ,S,ρ,eo,rp,p.x0⟩
theorem PSs.x0 {sts:List Stmt} {f:Env->M Fl} (h:PSs X sts (sD X.K cl xe f)):PSs X sts (sD X.K cl x0 f):=PSs.imp h λD σ H ⟨μ,S,ρ,eo,rp,p⟩=>⟨μ,S,ρ,eo,rp,p.x0⟩
theorem a66 {fs:Env->M (List D)} (h:PE X e (b6c X.K cl x0 fs)):PE X e (tD X.K cl xe λρ=>bind (nx (fs ρ)) λds=>ret (.lst ds)):=PE.imp h λσ H Q ⟨μ,S,ρ,eo,rp,p⟩=>
 ⟨μ,S,ρ,eo,rp,p.bind.nx.imp λds S1 μ1 H1 l1 r1 p1 acc ys hl rds=>p1.ret μ1 H1 (Lat.refl _ _) r1 _ (.lst hl rds)⟩
theorem b59:a13 (CXd X.prog X.w X.K) X (λev _ H=>∀ a,ev=.ref a->xOf X a H):=λpins σ H s e s' I ⟨a,C,d,tb,H',he,os,bare,un,hok,fx,q⟩=>by
 subst he
 exact q a rfl pins σ s' C d tb (I.call' (ch:=[]) os un hok bare λb z=>absurd z (by simp)) fx
theorem a9z {k n:Nat} {a:Addr} {fd:FuncData} {ps:List Str} {x:Str} {p pos:Pos} {fs:Env->M (List D)} {run:List D->M D} (F:FnOk X.prog X.w X.K X.mg X.base (CXd X.prog X.w X.K) k a fd ps (spX X.K cl n run)) (hr:Room false k X.A) (hg:Gl X x) (hm:X.mg x=some (.ref a)) (hk:PySem.W.keepIn X.K (.ref a)=true) (hb:Binds X.K fd ps [])
  (ha:PA X (e :: es) (tDs X.K cl (xOf X) fs)) (hdb:(x==("__debug__" : Str))=false) (hs:(e :: es).all b5=true) :
  PE X (.Call (.Name x p) (e :: es) [] pos) (tD X.K cl (xOf X) λρ=>bind (fs ρ) λds=>if ds.length=n then run ds else bad):=by
 rw [List.all_cons,Bool.and_eq_true] at hs
 exact PE.imp (b36 F hr hg hm hk hb .nil b59 ha hdb (d5 hs.1) (A2 hs.2)) λσ H Q ⟨μ,S,ρ,eo,rp,p⟩=>
  ⟨μ,S,ρ,eo,rp,p.bind.imp λds S1 μ1 H1 l1 r1 p1 vs rvs=>by
   by_cases hd:ds.length=n
   ·rw [if_pos hd] at p1
    exact ⟨by rw [List.append_nil,<- rvs.length];exact hd,μ1,S1,ds,by rw [List.append_nil];exact rvs,r1,p1.up λa H' h a' z=>by cases z;exact h⟩
   ·rw [if_neg hd] at p1;exact p1.elim⟩
theorem a8u {k:Nat} {a:Addr} {fd:FuncData} {ps:List Str} {x:Str} {p pos:Pos} {run:List D->M D} (F:FnOk X.prog X.w X.K X.mg X.base (CXd X.prog X.w X.K) k a fd ps (spX X.K cl 0 run)) (hr:Room false k X.A) (hg:Gl X x) (hm:X.mg x=some (.ref a)) (hk:PySem.W.keepIn X.K (.ref a)=true) (hb:Binds X.K fd ps [])
  (hdb:(x==("__debug__" : Str))=false):PE X (.Call (.Name x p) [] [] pos) (tD X.K cl (xOf X) λρ=>run []):=PE.imp (b1b F hr hg hm hk hb .nil b59 hdb) λσ H Q ⟨μ,S,ρ,eo,rp,p⟩=>⟨rfl,μ,S,[],.nil,rp,p.up λa H' h a' z=>by cases z;exact h⟩
end
inductive G where
 | val (d:D) | fn (i n:Nat) | err (c:Nat) (fs:List Str) | dct (kvs:List (Str×D))
structure Gm where
 gl:List (Str×G)
 sub:Nat->Nat->Bool
 flds:List Str
 qs:List Nat:=[]
structure Lc where
 N:List Str
 sc:Scope
 fr:Bool
 mu:List Str
noncomputable def quiet (lc:Lc):Bool:=lc.mu.contains ("~" : Str)
structure Ev where
 e:Lc->Expr->Env->M D
 t:Lc->Expr->Env->M Bool
 s:Lc->Stmt->Env->M Fl
 i:Lc->Expr->Expr->Env->M (Src×Nat)
structure EvK where
 e:Lc->Expr->Env->∀ {α:Type},(D->M α)->M α
 t:Lc->Expr->Env->∀ {α:Type},(Bool->M α)->M α
 s:Lc->Stmt->Env->∀ {α:Type},(Fl->M α)->M α
 i:Lc->Expr->Expr->Env->∀ {α:Type},(Src×Nat->M α)->M α
structure EqK (r:Ev) (q:EvK):Prop where
 e:∀ lc e ρ {α:Type} (k:D->M α),q.e lc e ρ k=bind (r.e lc e ρ) k
 t:∀ lc e ρ {α:Type} (k:Bool->M α),q.t lc e ρ k=bind (r.t lc e ρ) k
 s:∀ lc e ρ {α:Type} (k:Fl->M α),q.s lc e ρ k=bind (r.s lc e ρ) k
 i:∀ lc g e ρ {α:Type} (k:Src×Nat->M α),q.i lc g e ρ k=bind (r.i lc g e ρ) k
theorem a2n {α β:Type} (k:α->M β):bind bad k=bad:=rfl
theorem j8 {α β:Type} {c:Prop} [Decidable c] (a b:M α) (k:α->M β):bind (if c then a else b) k=if c then bind a k else bind b k:=by split <;> rfl
theorem T3 {α:Type} (m:M α):bind m ret=m:=by
 funext S;unfold bind ret;cases m S <;> rfl
noncomputable def j0:List Str->Str->Option Nat
 | [],_=>none
 | y :: ys,x=>if y=x then some 0 else (j0 ys x).map (· + 1)
theorem B7:∀ {N:List Str} {x:Str} {i:Nat},j0 N x=some i->N[i]?=some x
 | [],_,_,e=>by cases e
 | y :: ys,x,i,e=>by
  unfold j0 at e
  split at e
  ·rename_i h;cases e;simp [h]
  ·cases q:j0 ys x with
   | none=>rw [q] at e;cases e
   | some j=>rw [q] at e;cases e;simpa using B7 q
noncomputable def a92 (sc:Scope) (x:Str):Bool:=decide (sc.names.lookup x=some .local)||decide (sc.names.lookup x=some .cell)||decide (sc.names.lookup x=some .free)
noncomputable def a22 (sc:Scope) (x:Str):Bool:=decide (sc.names.lookup x=some .local)||decide (sc.names.lookup x=some .cell)
noncomputable def glB (sc:Scope) (x:Str):Bool:=decide (sc.names.lookup x=some .globalImplicit)
noncomputable def N9 (x:Str):Bool:=!(x==("__debug__" : Str))&&!(x==("__classdict__" : Str))&&!(x==("__name__" : Str))
theorem b4g {sc:Scope} {x:Str} (h:a92 sc x=true):Vis sc x:=by
 simpa [a92,Vis,or_assoc] using h
theorem T6 {sc:Scope} {x:Str} (h:a22 sc x=true):L2.Loc sc x:=by
 simpa [a22,L2.Loc] using h
theorem O3 {x:Str} (h:N9 x=true):(x==("__debug__" : Str))=false/\(x==("__classdict__" : Str))=false/\x ≠ "__name__":=by
 simpa [N9,and_assoc] using h
structure Tx where
 P:Program
 w:World
 K:PySem.W.Frag
 mg:Str->Option Value
 base:Heap
 cl:Nat->Addr
noncomputable def bnames:List Str:=["len","tuple","list","repr","isinstance","range","int","bool","str","dict","ValueError","all","any","sum","max","min","sorted","set","enumerate","abs","zip"]
noncomputable abbrev CXq (q:Bool):CXT:=⟨λ_ _ _ _ _ _=>False,q⟩
structure FnX (T:Tx) (k i n:Nat) (x:Str) (run:List D->M D):Prop where
 ex:∃ (a:Addr) (fd:FuncData) (ps:List Str),ps.length=n/\FnOk T.P T.w T.K T.mg T.base (CXd T.P T.w T.K) k a fd ps (spX T.K T.cl n run)/\T.mg x=some (.ref a)/\PySem.W.keepIn T.K (.ref a)=true/\Binds T.K fd ps []
structure FnAt (T:Tx) (k i n:Nat) (x:Str) (run:List D->M D):Prop where
 ex:∃ (a:Addr) (fd:FuncData) (ps:List Str),ps.length=n/\FnOk T.P T.w T.K T.mg T.base (CXq true) k a fd ps (spD T.K T.cl n run)/\T.mg x=some (.ref a)/\PySem.W.keepIn T.K (.ref a)=true/\Binds T.K fd ps []
structure ErrAt (T:Tx) (x:Str) (c:Nat) (fs:List Str):Prop where
 xc:XC T.K (T.cl c)
 mg_:T.mg x=some (.ref (T.cl c))
 ex:∃ (f:Addr) (fd:FuncData) (ps:List Str),PySem.W.findIn T.K (.ref (T.cl c)) "__init__" = some (some (.ref f))/\PySem.W.isFn T.K (.ref f)=true/\Binds T.K fd ps [] /\
  match fs with
  | []=>FnOk T.P T.w T.K T.mg T.base CX0 2 f fd ps (Hn.spHE T.K)
  | [g]=>FnOk T.P T.w T.K T.mg T.base CX0 2 f fd ps (Hn.sp1 T.K g)
  | [g,g2]=>FnOk T.P T.w T.K T.mg T.base CX0 2 f fd ps (Hn.sp2 T.K g g2)
  | _=>False
def b03 (T:Tx) (x:Str) (kvs:List (Str×D)):Prop:=∃ (a:Addr) (es:Array DictEntry) (n:Nat),T.mg x=some (.ref a)/\T.K.lookup a=some ⟨.type "dict",none,.dict es n,#[]⟩/\PySem.W.KeysLit T.w.params es.toList/\∀ k d,kvs.lookup k=some d->∃ u v,PySem.W.nsIn T.K a k=some (some u)/\RelV v u/\∀ μ H,RD T.K μ H d v
structure TxOk (T:Tx) (Γ:Gm) (k:Nat) (C:Nat->List D->M D):Prop where
 blt:∀ x∈bnames,Γ.gl.lookup x=none->T.mg x=none
 val:∀ x d,Γ.gl.lookup x=some (.val d)->∃ u v,T.mg x=some u/\RelV v u/\∀ μ H,RD T.K μ H d v
 fn:∀ x i n,Γ.gl.lookup x=some (.fn i n)->i∉Γ.qs->FnX T k i n x (C i)
 fnq:∀ x i n,Γ.gl.lookup x=some (.fn i n)->i∈Γ.qs->FnAt T k i n x (C i)
 err:∀ x c fs,Γ.gl.lookup x=some (.err c fs)->ErrAt T x c fs/\(∀ g∈fs,D4 T.K (T.cl c) g)
 sub:∀ x c c0 fs,Γ.gl.lookup x=some (.err c0 fs)->XC T.K (T.cl c)->PySem.W.kitOne T.K (.ref (T.cl c)) (.ref (T.cl c0))=some (Γ.sub c c0)
 subV:∀ c,XC T.K (T.cl c)->PySem.W.kitOne T.K (.ref (T.cl c)) (.type "ValueError")=some true
 subT:∀ c,XC T.K (T.cl c)->∀ t∈tys,PySem.W.kitOne T.K (.ref (T.cl c)) (.type t)=some false
 fld:∀ g∈Γ.flds,∀ c,XC T.K (T.cl c)->D4 T.K (T.cl c) g
 dct:∀ x kvs,Γ.gl.lookup x=some (.dct kvs)->b03 T x kvs
 k3:3<=k
structure CxOk (T:Tx) (k:Nat) (lc:Lc) (X:Cx):Prop where
 prog:X.prog=T.P
 w:X.w=T.w
 K:X.K=T.K
 mg:X.mg=T.mg
 base:X.base=T.base
 N:X.N=lc.N
 nd:lc.N.Nodup
 sc:X.env.scope=lc.sc
 calm:quiet lc=false->X.calm=true
 room:Room (quiet lc) k X.A
 po:PassesOwn (model X.prog X.w) X.A X.env X.xe
 fn:X.fn=λ_=>lc.fr
 kd:lc.sc.kind=.function
 own:lc.fr=true->quiet lc=false->X.stack=X.env :: X.outer/\X.env.frame=some X.env.locals
structure EvOk (T:Tx) (k:Nat) (r:Ev):Prop where
 e:∀ lc X,CxOk T k lc X->∀ e,PE X e (tD T.K T.cl (xOf X) (r.e lc e))
 t:∀ lc X,CxOk T k lc X->∀ e,PT X e (tBo T.K T.cl (xOf X) (r.t lc e))
 s:∀ lc X,CxOk T k lc X->lc.fr=true->∀ st,PS X st (sD T.K T.cl (xOf X) (r.s lc st))
 i:∀ lc X,CxOk T k lc X->∀ g e,PI X g e (tIt T.K T.cl (xOf X) (r.i lc g e))
section
variable {T:Tx} {k:Nat} {r:Ev} {Γ:Gm} {C:Nat->List D->M D} {lc:Lc} {X:Cx} {pos:Pos}
theorem EvOk.ex (R:EvOk T k r) (h:CxOk T k lc X) (e:Expr):PE X e (tD X.K T.cl (xOf X) (r.e lc e)):=by rw [h.K];exact R.e lc X h e
theorem EvOk.tx (R:EvOk T k r) (h:CxOk T k lc X) (e:Expr):PT X e (tBo X.K T.cl (xOf X) (r.t lc e)):=by rw [h.K];exact R.t lc X h e
theorem EvOk.ix (R:EvOk T k r) (h:CxOk T k lc X) (g e:Expr):PI X g e (tIt X.K T.cl (xOf X) (r.i lc g e)):=by rw [h.K];exact R.i lc X h g e
theorem EvOk.sx (R:EvOk T k r) (h:CxOk T k lc X) (hf:lc.fr=true) (st:Stmt):PS X st (sD X.K T.cl (xOf X) (r.s lc st)):=by rw [h.K];exact R.s lc X h hf st
theorem CxOk.u64 (h:CxOk T k lc X):X.A.units+64<cLine:=h.room.units
theorem CxOk.u80 (h:CxOk T k lc X):X.A.units+80<cLine:=by have:=h.room.un;omega
theorem CxOk.u1 (h:CxOk T k lc X):X.A.units+1<cLine:=c08 h.room
theorem CxOk.gl (h:CxOk T k lc X) {x:Str} (hg:glB lc.sc x=true):Gl X x:=by
 show X.env.kindOf x=_
 unfold PySem.Env.kindOf
 rw [h.sc]
 exact of_decide_eq_true hg
theorem TxOk.none (TX:TxOk T Γ k C) (h:CxOk T k lc X) {x:Str} (hx:x∈bnames) (e:Γ.gl.lookup x=none):X.mg x=none:=by rw [h.mg];exact TX.blt x hx e
theorem CxOk.nd' (h:CxOk T k lc X):X.N.Nodup:=by rw [h.N];exact h.nd
theorem CxOk.fn1 (h:CxOk T k lc X) (hf:lc.fr=true) {x:Str}:X.fn x=true:=by rw [h.fn];exact hf
theorem CxOk.room0 (h:CxOk T k lc X) (hq:quiet lc=false):Room false k X.A:=by have:=h.room;rw [hq] at this;exact this
end
noncomputable abbrev Cf:=Nat->List D->M D
structure RuE:Type 1 where
 is:Gm->Lc->Expr->Bool
 run:Ev->Gm->Cf->Lc->Expr->Env->M D
 ok:∀ {T:Tx} {k:Nat} {r:Ev} {Γ:Gm} {C:Cf} {lc:Lc} {X:Cx} (e:Expr),EvOk T k r->TxOk T Γ k C->CxOk T k lc X->is Γ lc e=true->PE X e (tD X.K T.cl (xOf X) (run r Γ C lc e))
 runK:EvK->Gm->Cf->Lc->Expr->Env->∀ {α:Type},(D->M α)->M α
 eq:∀ {r:Ev} {q:EvK} {Γ:Gm} {C:Cf} {lc:Lc} (e:Expr) (ρ:Env) {α:Type} (k:D->M α),EqK r q->runK q Γ C lc e ρ k=bind (run r Γ C lc e ρ) k
structure RuT:Type 1 where
 is:Gm->Lc->Expr->Bool
 run:Ev->Gm->Cf->Lc->Expr->Env->M Bool
 ok:∀ {T:Tx} {k:Nat} {r:Ev} {Γ:Gm} {C:Cf} {lc:Lc} {X:Cx} (e:Expr),EvOk T k r->TxOk T Γ k C->CxOk T k lc X->is Γ lc e=true->PT X e (tBo X.K T.cl (xOf X) (run r Γ C lc e))
 runK:EvK->Gm->Cf->Lc->Expr->Env->∀ {α:Type},(Bool->M α)->M α
 eq:∀ {r:Ev} {q:EvK} {Γ:Gm} {C:Cf} {lc:Lc} (e:Expr) (ρ:Env) {α:Type} (k:Bool->M α),EqK r q->runK q Γ C lc e ρ k=bind (run r Γ C lc e ρ) k
structure RuS:Type 1 where
 is:Gm->Lc->Stmt->Bool
 run:Ev->Gm->Cf->Lc->Stmt->Env->M Fl
 ok:∀ {T:Tx} {k:Nat} {r:Ev} {Γ:Gm} {C:Cf} {lc:Lc} {X:Cx} (e:Stmt),EvOk T k r->TxOk T Γ k C->CxOk T k lc X->lc.fr=true->is Γ lc e=true->PS X e (sD X.K T.cl (xOf X) (run r Γ C lc e))
 runK:EvK->Gm->Cf->Lc->Stmt->Env->∀ {α:Type},(Fl->M α)->M α
 eq:∀ {r:Ev} {q:EvK} {Γ:Gm} {C:Cf} {lc:Lc} (e:Stmt) (ρ:Env) {α:Type} (k:Fl->M α),EqK r q->runK q Γ C lc e ρ k=bind (run r Γ C lc e ρ) k
structure RuI:Type 1 where
 is:Gm->Lc->Expr->Expr->Bool
 run:Ev->Gm->Cf->Lc->Expr->Env->M (Src×Nat)
 ok:∀ {T:Tx} {k:Nat} {r:Ev} {Γ:Gm} {C:Cf} {lc:Lc} {X:Cx} (g e:Expr),EvOk T k r->TxOk T Γ k C->CxOk T k lc X->is Γ lc g e=true->PI X g e (tIt X.K T.cl (xOf X) (run r Γ C lc e))
 runK:EvK->Gm->Cf->Lc->Expr->Env->∀ {α:Type},(Src×Nat->M α)->M α
 eq:∀ {r:Ev} {q:EvK} {Γ:Gm} {C:Cf} {lc:Lc} (e:Expr) (ρ:Env) {α:Type} (k:Src×Nat->M α),EqK r q->runK q Γ C lc e ρ k=bind (run r Γ C lc e ρ) k
structure Rules:Type 1 where
 es:List RuE
 ts:List RuT
 ss:List RuS
 is:List RuI
section
variable (Rs:Rules) (Γ:Gm) (C:Cf)
noncomputable def step (r:Ev):Ev:=
 ⟨λlc e=>match Rs.es.find? (λR=>R.is Γ lc e) with
  | some R=>R.run r Γ C lc e
  | none=>λ_=>bad,
 λlc e=>match Rs.ts.find? (λR=>R.is Γ lc e) with
  | some R=>R.run r Γ C lc e
  | none=>λ_=>bad,
 λlc e=>match Rs.ss.find? (λR=>R.is Γ lc e) with
  | some R=>R.run r Γ C lc e
  | none=>λ_=>bad,
 λlc g e=>match Rs.is.find? (λR=>R.is Γ lc g e) with
  | some R=>R.run r Γ C lc e
  | none=>λ_=>bad⟩
noncomputable def badEv:Ev:=⟨λ_ _ _=>bad,λ_ _ _=>bad,λ_ _ _=>bad,λ_ _ _ _=>bad⟩
noncomputable def ev:Nat->Ev
 | 0=>badEv
 | n+1=>step Rs Γ C (ev n)
noncomputable def b56 (q:EvK):EvK:=
 ⟨λlc e ρ _ k=>match Rs.es.find? (λR=>R.is Γ lc e) with
  | some R=>R.runK q Γ C lc e ρ k
  | none=>bad,
 λlc e ρ _ k=>match Rs.ts.find? (λR=>R.is Γ lc e) with
  | some R=>R.runK q Γ C lc e ρ k
  | none=>bad,
 λlc e ρ _ k=>match Rs.ss.find? (λR=>R.is Γ lc e) with
  | some R=>R.runK q Γ C lc e ρ k
  | none=>bad,
 λlc g e ρ _ k=>match Rs.is.find? (λR=>R.is Γ lc g e) with
  | some R=>R.runK q Γ C lc e ρ k
  | none=>bad⟩
noncomputable def c3f:EvK:=⟨λ_ _ _ _ _=>bad,λ_ _ _ _ _=>bad,λ_ _ _ _ _=>bad,λ_ _ _ _ _ _=>bad⟩
noncomputable def evK:Nat->EvK
 | 0=>c3f
 | n+1=>b56 Rs Γ C (evK n)
end
section
variable {Rs:Rules} {T:Tx} {k:Nat} {r:Ev} {q:EvK} {Γ:Gm} {C:Cf} {lc:Lc} {X:Cx}
theorem b3m (TX:TxOk T Γ k C) (R:EvOk T k r):EvOk T k (step Rs Γ C r):=by
 refine ⟨λlc X h e=>?_,λlc X h e=>?_,λlc X h hf e=>?_,λlc X h g e=>?_⟩
 ·rw [<- h.K]
  show PE X e (tD X.K T.cl (xOf X) (match Rs.es.find? (λR=>R.is Γ lc e) with
   | some R=>R.run r Γ C lc e
   | none=>λ_=>bad))
  cases hf:Rs.es.find? (λR=>R.is Γ lc e) with
  | none=>exact f6
  | some R0=>exact R0.ok e R TX h (by have:=List.find?_some hf;exact this)
 ·rw [<- h.K]
  show PT X e (tBo X.K T.cl (xOf X) (match Rs.ts.find? (λR=>R.is Γ lc e) with
   | some R=>R.run r Γ C lc e
   | none=>λ_=>bad))
  cases hf:Rs.ts.find? (λR=>R.is Γ lc e) with
  | none=>exact a36
  | some R0=>exact R0.ok e R TX h (by have:=List.find?_some hf;exact this)
 ·rw [<- h.K]
  show PS X e (sD X.K T.cl (xOf X) (match Rs.ss.find? (λR=>R.is Γ lc e) with
   | some R=>R.run r Γ C lc e
   | none=>λ_=>bad))
  cases hq:Rs.ss.find? (λR=>R.is Γ lc e) with
  | none=>exact K0
  | some R0=>exact R0.ok e R TX h hf (by have:=List.find?_some hq;exact this)
 ·rw [<- h.K]
  show PI X g e (tIt X.K T.cl (xOf X) (match Rs.is.find? (λR=>R.is Γ lc g e) with
   | some R=>R.run r Γ C lc e
   | none=>λ_=>bad))
  cases hf:Rs.is.find? (λR=>R.is Γ lc g e) with
  | none=>exact a53
  | some R0=>exact R0.ok g e R TX h (by have:=List.find?_some hf;exact this)
theorem b0s:EvOk T k badEv:=⟨λlc X h e=>by rw [<- h.K];exact f6,λlc X h e=>by rw [<- h.K];exact a36,λlc X h _ st=>by rw [<- h.K];exact K0,λlc X h g e=>by rw [<- h.K];exact a53⟩
theorem a93 (TX:TxOk T Γ k C):∀ n,EvOk T k (ev Rs Γ C n)
 | 0=>b0s
 | n+1=>b3m TX (a93 TX n)
theorem b4s (h:EqK r q):EqK (step Rs Γ C r) (b56 Rs Γ C q):=by
 refine ⟨λlc e ρ _ k=>?_,λlc e ρ _ k=>?_,λlc e ρ _ k=>?_,λlc g e ρ _ k=>?_⟩
 ·show (match Rs.es.find? (λ(R:RuE)=>R.is Γ lc e) with
   | some R=>R.runK q Γ C lc e ρ k
   | none=>bad)=bind ((match Rs.es.find? (λ(R:RuE)=>R.is Γ lc e) with
   | some R=>R.run r Γ C lc e
   | none=>λ_=>bad) ρ) k
  cases Rs.es.find? (λ(R:RuE)=>R.is Γ lc e) with
  | none=>rfl
  | some R0=>exact R0.eq e ρ k h
 ·show (match Rs.ts.find? (λ(R:RuT)=>R.is Γ lc e) with
   | some R=>R.runK q Γ C lc e ρ k
   | none=>bad)=bind ((match Rs.ts.find? (λ(R:RuT)=>R.is Γ lc e) with
   | some R=>R.run r Γ C lc e
   | none=>λ_=>bad) ρ) k
  cases Rs.ts.find? (λ(R:RuT)=>R.is Γ lc e) with
  | none=>rfl
  | some R0=>exact R0.eq e ρ k h
 ·show (match Rs.ss.find? (λ(R:RuS)=>R.is Γ lc e) with
   | some R=>R.runK q Γ C lc e ρ k
   | none=>bad)=bind ((match Rs.ss.find? (λ(R:RuS)=>R.is Γ lc e) with
   | some R=>R.run r Γ C lc e
   | none=>λ_=>bad) ρ) k
  cases Rs.ss.find? (λ(R:RuS)=>R.is Γ lc e) with
  | none=>rfl
  | some R0=>exact R0.eq e ρ k h
 ·show (match Rs.is.find? (λ(R:RuI)=>R.is Γ lc g e) with
   | some R=>R.runK q Γ C lc e ρ k
   | none=>bad)=bind ((match Rs.is.find? (λ(R:RuI)=>R.is Γ lc g e) with
   | some R=>R.run r Γ C lc e
   | none=>λ_=>bad) ρ) k
  cases Rs.is.find? (λ(R:RuI)=>R.is Γ lc g e) with
  | none=>rfl
  | some R0=>exact R0.eq e ρ k h
theorem b58:∀ n,EqK (ev Rs Γ C n) (evK Rs Γ C n)
 | 0=>⟨λ_ _ _ _ _=>rfl,λ_ _ _ _ _=>rfl,λ_ _ _ _ _=>rfl,λ_ _ _ _ _ _=>rfl⟩
 | n+1=>b4s (b58 n)
end
section
variable (r:Ev) (q:EvK) (lc:Lc)
noncomputable def A5:List Expr->Env->M (List D)
 | [],_=>ret []
 | e :: es,ρ=>bind (r.e lc e ρ) λd=>bind (A5 es ρ) λds=>ret (d :: ds)
noncomputable def C5 {α:Type}:List Expr->Env->(List D->M α)->M α
 | [],_,k=>k []
 | e :: es,ρ,k=>q.e lc e ρ λd=>C5 es ρ λds=>k (d :: ds)
noncomputable def Y5:List Stmt->Env->M Fl
 | [],ρ=>ret (.nx ρ)
 | st :: sts,ρ=>c23 (r.s lc st) (Y5 sts) ρ
noncomputable def u4 {α:Type}:List Stmt->Env->(Fl->M α)->M α
 | [],ρ,k=>k (.nx ρ)
 | st :: sts,ρ,k=>q.s lc st ρ λfl=>match fl with
  | .nx ρ'=>u4 sts ρ' k
  | fl=>k fl
end
section
variable {T:Tx} {k:Nat} {r:Ev} {q:EvK} {Γ:Gm} {C:Cf} {lc:Lc} {X:Cx} {pos:Pos}
theorem v2 (h:EqK r q):∀ (es:List Expr) (ρ:Env) {α:Type} (k:List D->M α),C5 q lc es ρ k=bind (A5 r lc es ρ) k
 | [],_,_,_=>rfl
 | e :: es,ρ,_,k=>by
  show q.e lc e ρ (λd=>C5 q lc es ρ λds=>k (d :: ds))=bind (bind (r.e lc e ρ) λd=>bind (A5 r lc es ρ) λds=>ret (d :: ds)) k
  rw [h.e,bind_assoc]
  congr;funext d
  rw [v2 h,bind_assoc];rfl
theorem a0v (h:EqK r q):∀ (sts:List Stmt) (ρ:Env) {α:Type} (k:Fl->M α),u4 q lc sts ρ k=bind (Y5 r lc sts ρ) k
 | [],_,_,_=>rfl
 | st :: sts,ρ,_,k=>by
  show (q.s lc st ρ λfl=>match fl with
   | .nx ρ'=>u4 q lc sts ρ' k
   | fl=>k fl)=bind (bind (r.s lc st ρ) λfl=>match fl with
   | .nx ρ'=>Y5 r lc sts ρ'
   | fl=>ret fl) k
  rw [h.s,bind_assoc]
  congr;funext fl
  cases fl with
  | nx ρ'=>exact a0v h sts ρ' k
  | bk ρ'=>rfl
  | ct ρ'=>rfl
  | rt d=>rfl
theorem o0 (R:EvOk T k r) (h:CxOk T k lc X):∀ {es:List Expr},es.all b5=true->PA X es (tDs X.K T.cl (xOf X) (A5 r lc es))
 | [],_=>a1r
 | e :: es,hs=>by
  rw [List.all_cons,Bool.and_eq_true] at hs
  exact X3 (R.ex h e) (o0 R h hs.2) hs.1
theorem O4 (R:EvOk T k r) (h:CxOk T k lc X) (hf:lc.fr=true):∀ {sts:List Stmt},PSs X sts (sD X.K T.cl (xOf X) (Y5 r lc sts))
 | []=>a9x
 | st :: sts=>b3u (R.sx h hf st) (O4 R h hf)
end
noncomputable def b0l (c:Const):M D:=match c with
 | .int i=>ret (.int i)
 | .bool b=>ret (.bl b)
 | .none=>ret .non
 | .str x=>ret (.str x)
 | _=>bad
noncomputable def b7v {α:Type} (c:Const) (k:D->M α):M α:=match c with
 | .int i=>k (.int i)
 | .bool b=>k (.bl b)
 | .none=>k .non
 | .str x=>k (.str x)
 | _=>bad
noncomputable def b9f:RuE where
 is _ _ e:=match e with
  | .Constant _ _ _=>true
  | _=>false
 run _ _ _ _ e _:=match e with
  | .Constant c _ _=>b0l c
  | _=>bad
 ok e R TX h hi:=by
  cases e with
  | Constant c n p=>
   show PE _ _ (tD _ _ _ λ_=>b0l c)
   cases c <;> first
    | exact E4 b9g λ_ _=>.int _
    | exact E4 c00 λ_ _=>.bl _
    | exact E4 b9k λ_ _=>.non
    | exact E4 b8c λ_ _=>.str _
    | exact f6
  | _=>exact f6
 runK _ _ _ _ e _ _ k:=match e with
  | .Constant c _ _=>b7v c k
  | _=>bad
 eq e ρ _ k h:=by
  cases e with
  | Constant c n p=>cases c <;> rfl
  | _=>rfl
noncomputable def a2z (Γ:Gm) (lc:Lc) (x:Str) (ρ:Env):M D:=match j0 lc.N x with
 | some i=>if a92 lc.sc x=true then getD i ρ else bad
 | none=>if glB lc.sc x=true then (match Γ.gl.lookup x with
  | some (.val d)=>ret d
  | _=>bad) else bad
noncomputable def c2k {α:Type} (i:Nat) (ρ:Env) (k:D->M α):M α:=match ρ[i]? with
 | some (some d)=>k d
 | _=>bad
noncomputable def a9w {α:Type} (Γ:Gm) (lc:Lc) (x:Str) (ρ:Env) (k:D->M α):M α:=match j0 lc.N x with
 | some i=>if a92 lc.sc x=true then c2k i ρ k else bad
 | none=>if glB lc.sc x=true then (match Γ.gl.lookup x with
  | some (.val d)=>k d
  | _=>bad) else bad
theorem b3t {T:Tx} {k:Nat} {Γ:Gm} {C:Cf} {lc:Lc} {X:Cx} {pos:Pos} (TX:TxOk T Γ k C) (h:CxOk T k lc X) {x:Str} (hn:N9 x=true):PE X (.Name x pos) (tD X.K T.cl (xOf X) (a2z Γ lc x)):=by
 unfold a2z
 obtain ⟨n1,n2,n3⟩:=O3 hn
 cases e:j0 lc.N x with
 | some i=>
  by_cases hv:a92 lc.sc x=true
  ·simp only [if_pos hv]
   exact b8p (b88 (by rw [h.N];exact B7 e) (by rw [h.sc];exact b4g hv) n1 n2)
  ·simp only [if_neg hv];exact f6
 | none=>
  by_cases hv:glB lc.sc x=true
  ·simp only [if_pos hv]
   cases e2:Γ.gl.lookup x with
   | none=>exact f6
   | some g=>
    cases g with
    | val d=>
     obtain ⟨u,v,e3,rv,rd⟩:=TX.val x d e2
     exact E4 (b24 (u:=u) (h.gl hv) (by rw [h.mg];exact e3) rv n1) λμ H=>by rw [h.K];exact rd μ H
    | fn i n=>exact f6
    | err c fs=>exact f6
    | dct kvs=>exact f6
  ·simp only [if_neg hv];exact f6
theorem b33 (Γ:Gm) (lc:Lc) (x:Str) (ρ:Env) {α:Type} (k:D->M α):a9w Γ lc x ρ k=bind (a2z Γ lc x ρ) k:=by
 unfold a9w a2z
 cases j0 lc.N x with
 | some i=>
  simp only []
  split
  ·unfold c2k getD
   cases ρ[i]? with
   | none=>rfl
   | some o=>cases o <;> rfl
  ·rfl
 | none=>
  simp only []
  split
  ·cases Γ.gl.lookup x with
   | none=>rfl
   | some g=>cases g <;> rfl
  ·rfl
noncomputable def c2i:RuE where
 is _ _ e:=match e with
  | .Name x _=>N9 x
  | _=>false
 run _ Γ _ lc e ρ:=match e with
  | .Name x _=>a2z Γ lc x ρ
  | _=>bad
 ok e R TX h hi:=by
  cases e with
  | Name x p=>exact b3t TX h hi
  | _=>exact f6
 runK _ Γ _ lc e ρ _ k:=match e with
  | .Name x _=>a9w Γ lc x ρ k
  | _=>bad
 eq e ρ _ k h:=by
  cases e with
  | Name x p=>exact b33 _ _ x ρ k
  | _=>rfl
noncomputable def b76 (op:Operator):D->D->M D:=match op with
 | .Add=>C8
 | .Sub=>M5
 | .Mult=>R4
 | .Mod=>U3
 | .FloorDiv=>Q3
 | .Pow=>b48
 | _=>λ_ _=>bad
noncomputable def b6 (op:CmpOp):D->D->M D:=match op with
 | .Eq=>eqD false
 | .NotEq=>eqD true
 | .Lt=>a9n λi j=>decide (i<j)
 | .LtE=>a9n λi j=>decide (i<=j)
 | .Gt=>a9n λi j=>decide (j<i)
 | .GtE=>a9n λi j=>decide (j<=i)
 | .In=>inD false
 | .NotIn=>inD true
 | .Is=>isD false
 | .IsNot=>isD true
theorem b81 {X:Cx} {cl:Nat->Addr} {xe:Addr->Hp->Prop} (op:Operator):OpR X (binaryOp op) (rP2 X.K cl xe (b76 op)):=by
 cases op <;> first
  | exact b0i
  | exact a9y
  | exact c2j
  | exact c1o
  | exact b7n
  | exact c03
  | exact λpins s σ H x y v u Q I rx ry ⟨μ,S,d,e,rd,re,rp,p⟩=>p.elim
theorem O1 {T:Tx} {k:Nat} {lc:Lc} {X:Cx} {cl:Nat->Addr} {xe:Addr->Hp->Prop} (h:CxOk T k lc X) (op:CmpOp):OpR X (compareOp op) (rP2 X.K cl xe (b6 op)):=by
 cases op
 case Eq=>exact c3z h.u64
 case NotEq=>exact c3g h.u64
 case Lt=>exact a5o c1y
 case LtE=>exact a5o c2x
 case Gt=>exact a5o c0e
 case GtE=>exact a5o b99
 case In=>exact c19 false h.u80
 case NotIn=>exact c19 true h.u80
 case Is=>exact c21 false
 case IsNot=>exact c21 true
noncomputable def c4d:RuE where
 is _ _ e:=match e with
  | .BinOp _ _ _ _=>true
  | _=>false
 run r _ _ lc e ρ:=match e with
  | .BinOp a op b _=>bind (r.e lc a ρ) λx=>bind (r.e lc b ρ) λy=>b76 op x y
  | _=>bad
 ok e R TX h hi:=by
  cases e with
  | BinOp a op b p=>exact a45 (R.ex h _) (R.ex h _) (b81 _)
  | _=>exact f6
 runK q _ _ lc e ρ _ k:=match e with
  | .BinOp a op b _=>q.e lc a ρ λx=>q.e lc b ρ λy=>bind (b76 op x y) k
  | _=>bad
 eq e ρ _ k h:=by
  cases e with
  | BinOp a op b p=>simp only [h.e,bind_assoc]
  | _=>rfl
noncomputable def c4t:RuE where
 is _ _ e:=match e with
  | .UnaryOp .Not _ _=>true
  | _=>false
 run r _ _ lc e ρ:=match e with
  | .UnaryOp .Not a _=>bind (r.e lc a ρ) λd=>bind (i8 d) λk=>ret (.bl (!k))
  | _=>bad
 ok e R TX h hi:=by
  split at hi
  ·exact b7u (R.ex h _)
  ·cases hi
 runK q _ _ lc e ρ _ k:=match e with
  | .UnaryOp .Not a _=>q.e lc a ρ λd=>bind (i8 d) λc=>k (.bl (!c))
  | _=>bad
 eq e ρ _ k h:=by
  split
  ·simp only [h.e,bind_assoc,e9]
  ·first
   | rfl
   | (rename_i hn;split;exact (hn _ _ rfl).elim;rfl)
noncomputable def c4h:RuE where
 is _ _ e:=match e with
  | .UnaryOp .USub _ _=>true
  | _=>false
 run r _ _ lc e ρ:=match e with
  | .UnaryOp .USub a _=>bind (r.e lc a ρ) Y3
  | _=>bad
 ok e R TX h hi:=by
  split at hi
  ·exact b7k (R.ex h _)
  ·cases hi
 runK q _ _ lc e ρ _ k:=match e with
  | .UnaryOp .USub a _=>q.e lc a ρ λd=>bind (Y3 d) k
  | _=>bad
 eq e ρ _ k h:=by
  split
  ·simp only [h.e,bind_assoc]
  ·first
   | rfl
   | (rename_i hn;split;exact (hn _ _ rfl).elim;rfl)
section
variable (r:Ev) (q:EvK) (lc:Lc)
noncomputable def b2c:List Expr->Env->M D
 | [],_=>bad
 | [a],ρ=>r.e lc a ρ
 | a :: b :: es,ρ=>bind (r.e lc a ρ) λd=>bind (i8 d) λq=>if q=true then b2c (b :: es) ρ else ret d
noncomputable def orE:List Expr->Env->M D
 | [],_=>bad
 | [a],ρ=>r.e lc a ρ
 | a :: b :: es,ρ=>bind (r.e lc a ρ) λd=>bind (i8 d) λq=>if q=true then ret d else orE (b :: es) ρ
noncomputable def b4n {α:Type}:List Expr->Env->(D->M α)->M α
 | [],_,_=>bad
 | [a],ρ,k=>q.e lc a ρ k
 | a :: b :: es,ρ,k=>q.e lc a ρ λd=>bind (i8 d) λc=>if c=true then b4n (b :: es) ρ k else k d
noncomputable def orK {α:Type}:List Expr->Env->(D->M α)->M α
 | [],_,_=>bad
 | [a],ρ,k=>q.e lc a ρ k
 | a :: b :: es,ρ,k=>q.e lc a ρ λd=>bind (i8 d) λc=>if c=true then k d else orK (b :: es) ρ k
noncomputable def a81:List Expr->Env->M Bool
 | [],_=>bad
 | [a],ρ=>r.t lc a ρ
 | a :: b :: es,ρ=>bind (r.t lc a ρ) λq=>if q=true then a81 (b :: es) ρ else ret false
noncomputable def orB:List Expr->Env->M Bool
 | [],_=>bad
 | [a],ρ=>r.t lc a ρ
 | a :: b :: es,ρ=>bind (r.t lc a ρ) λq=>if q=true then ret true else orB (b :: es) ρ
noncomputable def a5s {α:Type}:List Expr->Env->(Bool->M α)->M α
 | [],_,_=>bad
 | [a],ρ,k=>q.t lc a ρ k
 | a :: b :: es,ρ,k=>q.t lc a ρ λc=>if c=true then a5s (b :: es) ρ k else k false
noncomputable def b27 {α:Type}:List Expr->Env->(Bool->M α)->M α
 | [],_,_=>bad
 | [a],ρ,k=>q.t lc a ρ k
 | a :: b :: es,ρ,k=>q.t lc a ρ λc=>if c=true then k true else b27 (b :: es) ρ k
end
section
variable {T:Tx} {k:Nat} {r:Ev} {q:EvK} {Γ:Gm} {C:Cf} {lc:Lc} {X:Cx} {pos:Pos}
theorem b2k (R:EvOk T k r) (h:CxOk T k lc X):∀ {es:List Expr},PE X (.BoolOp .And es pos) (tD X.K T.cl (xOf X) (b2c r lc es))
 | []=>f6
 | [a]=>b1k (R.ex h a)
 | a :: b :: es=>b7p (R.ex h a) (b2k R h)
theorem b6a (R:EvOk T k r) (h:CxOk T k lc X):∀ {es:List Expr},PE X (.BoolOp .Or es pos) (tD X.K T.cl (xOf X) (orE r lc es))
 | []=>f6
 | [a]=>b1k (R.ex h a)
 | a :: b :: es=>c0g (R.ex h a) (b6a R h)
theorem a5w (R:EvOk T k r) (h:CxOk T k lc X):∀ {es:List Expr},PW X (.BoolOp .And es pos) (tBo X.K T.cl (xOf X) (a81 r lc es))
 | []=>pw_bad
 | [a]=>b2s (R.tx h a)
 | a :: b :: es=>b72 (R.tx h a) (a5w R h)
theorem b13 (R:EvOk T k r) (h:CxOk T k lc X):∀ {es:List Expr},PW X (.BoolOp .Or es pos) (tBo X.K T.cl (xOf X) (orB r lc es))
 | []=>pw_bad
 | [a]=>b8t (R.tx h a)
 | a :: b :: es=>c0p (R.tx h a) (b13 R h)
theorem b14 (h:EqK r q):∀ (es:List Expr) (ρ:Env) {α:Type} (k:D->M α),b4n q lc es ρ k=bind (b2c r lc es ρ) k
 | [],_,_,_=>rfl
 | [a],ρ,_,k=>h.e lc a ρ k
 | a :: b :: es,ρ,_,k=>by simp only [b4n,b2c,h.e,bind_assoc,j8,b14 h (b :: es),e9]
theorem b6d (h:EqK r q):∀ (es:List Expr) (ρ:Env) {α:Type} (k:D->M α),orK q lc es ρ k=bind (orE r lc es ρ) k
 | [],_,_,_=>rfl
 | [a],ρ,_,k=>h.e lc a ρ k
 | a :: b :: es,ρ,_,k=>by simp only [orK,orE,h.e,bind_assoc,j8,b6d h (b :: es),e9]
theorem a67 (h:EqK r q):∀ (es:List Expr) (ρ:Env) {α:Type} (k:Bool->M α),a5s q lc es ρ k=bind (a81 r lc es ρ) k
 | [],_,_,_=>rfl
 | [a],ρ,_,k=>h.t lc a ρ k
 | a :: b :: es,ρ,_,k=>by simp only [a5s,a81,h.t,bind_assoc,j8,a67 h (b :: es),e9]
theorem b1s (h:EqK r q):∀ (es:List Expr) (ρ:Env) {α:Type} (k:Bool->M α),b27 q lc es ρ k=bind (orB r lc es ρ) k
 | [],_,_,_=>rfl
 | [a],ρ,_,k=>h.t lc a ρ k
 | a :: b :: es,ρ,_,k=>by simp only [b27,orB,h.t,bind_assoc,j8,b1s h (b :: es),e9]
end
noncomputable def c2p:RuE where
 is _ _ e:=match e with
  | .BoolOp _ _ _=>true
  | _=>false
 run r _ _ lc e ρ:=match e with
  | .BoolOp .And es _=>b2c r lc es ρ
  | .BoolOp .Or es _=>orE r lc es ρ
  | _=>bad
 ok e R TX h hi:=by
  cases e with
  | BoolOp op es p=>cases op;exact b2k R h;exact b6a R h
  | _=>exact f6
 runK q _ _ lc e ρ _ k:=match e with
  | .BoolOp .And es _=>b4n q lc es ρ k
  | .BoolOp .Or es _=>orK q lc es ρ k
  | _=>bad
 eq e ρ _ k h:=by
  cases e with
  | BoolOp op es p=>cases op;exact b14 h es ρ k;exact b6d h es ρ k
  | _=>rfl
noncomputable def c4f:RuE where
 is _ _ e:=match e with
  | .Compare _ [_] [b] _=>u0 b
  | _=>false
 run r _ _ lc e ρ:=match e with
  | .Compare a [op] [b] _=>bind (r.e lc a ρ) λx=>bind (r.e lc b ρ) λy=>b6 op x y
  | _=>bad
 ok e R TX h hi:=by
  split at hi
  ·exact b8m (R.ex h _) (R.ex h _) (O1 h _) (E7 hi)
  ·cases hi
 runK q _ _ lc e ρ _ k:=match e with
  | .Compare a [op] [b] _=>q.e lc a ρ λx=>q.e lc b ρ λy=>bind (b6 op x y) k
  | _=>bad
 eq e ρ _ k h:=by
  split
  ·simp only [h.e,bind_assoc]
  ·first
   | rfl
   | (rename_i hn;split;exact (hn _ _ _ _ rfl).elim;rfl)
noncomputable def rIf:RuE where
 is _ _ e:=match e with
  | .IfExp _ _ _ _=>true
  | _=>false
 run r _ _ lc e ρ:=match e with
  | .IfExp c a b _=>bind (r.t lc c ρ) λq=>if q=true then r.e lc a ρ else r.e lc b ρ
  | _=>bad
 ok e R TX h hi:=by
  cases e with
  | IfExp c a b p=>exact c0t (R.tx h _) (R.ex h _) (R.ex h _)
  | _=>exact f6
 runK q _ _ lc e ρ _ k:=match e with
  | .IfExp c a b _=>q.t lc c ρ λz=>if z=true then q.e lc a ρ k else q.e lc b ρ k
  | _=>bad
 eq e ρ _ k h:=by
  cases e with
  | IfExp c a b p=>simp only [h.e,h.t,bind_assoc,j8]
  | _=>rfl
noncomputable def c34:RuE where
 is _ _ e:=match e with
  | .Tuple es _ _=>es.all b5
  | _=>false
 run r _ _ lc e ρ:=match e with
  | .Tuple es _ _=>bind (A5 r lc es ρ) b97
  | _=>bad
 ok e R TX h hi:=by
  cases e with
  | Tuple es n p=>exact b71 (o0 R h hi)
  | _=>exact f6
 runK q _ _ lc e ρ _ k:=match e with
  | .Tuple es _ _=>C5 q lc es ρ λds=>bind (b97 ds) k
  | _=>bad
 eq e ρ _ k h:=by
  cases e with
  | Tuple es n p=>simp only [v2 h,bind_assoc]
  | _=>rfl
noncomputable def c4c:RuE where
 is _ _ e:=match e with
  | .List es _=>es.all b5
  | _=>false
 run r _ _ lc e ρ:=match e with
  | .List es _=>bind (A5 r lc es ρ) b6w
  | _=>bad
 ok e R TX h hi:=by
  cases e with
  | List es p=>exact b64 (o0 R h hi)
  | _=>exact f6
 runK q _ _ lc e ρ _ k:=match e with
  | .List es _=>C5 q lc es ρ λds=>bind (b6w ds) k
  | _=>bad
 eq e ρ _ k h:=by
  cases e with
  | List es p=>simp only [v2 h,bind_assoc]
  | _=>rfl
noncomputable def rIx:RuE where
 is _ _ e:=match e with
  | .Subscript _ i _=>C2 i
  | _=>false
 run r _ _ lc e ρ:=match e with
  | .Subscript a i _=>bind (r.e lc a ρ) λx=>bind (r.e lc i ρ) λy=>ixD x y
  | _=>bad
 ok e R TX h hi:=by
  cases e with
  | Subscript a i p=>exact c0a (R.ex h _) (R.ex h _) (c4b h.u1) (a33 hi)
  | _=>exact f6
 runK q _ _ lc e ρ _ k:=match e with
  | .Subscript a i _=>q.e lc a ρ λx=>q.e lc i ρ λy=>bind (ixD x y) k
  | _=>bad
 eq e ρ _ k h:=by
  cases e with
  | Subscript a i p=>simp only [h.e,bind_assoc]
  | _=>rfl
noncomputable def a3t (r:Ev) (lc:Lc) (o:Option Expr) (ρ:Env):M (Option Int):=match o with
 | none=>ret none
 | some e=>bind (r.e lc e ρ) C7
noncomputable def a5p (q:EvK) (lc:Lc) {α:Type} (o:Option Expr) (ρ:Env) (k:Option Int->M α):M α:=match o with
 | none=>k none
 | some e=>q.e lc e ρ λd=>bind (C7 d) k
theorem b46 {r:Ev} {q:EvK} {lc:Lc} (h:EqK r q) (o:Option Expr) (ρ:Env) {α:Type} (k:Option Int->M α):a5p q lc o ρ k=bind (a3t r lc o ρ) k:=by
 cases o with
 | none=>rfl
 | some e=>simp only [a5p,a3t,h.e,bind_assoc]
theorem a6o {T:Tx} {k:Nat} {r:Ev} {lc:Lc} {X:Cx} (R:EvOk T k r) (h:CxOk T k lc X) {o:Option Expr}:PO X o (tPt X.K T.cl (xOf X) (a3t r lc o)):=by
 cases o with
 | none=>exact b5p
 | some e=>exact b5v (R.ex h e)
noncomputable def rSl:RuE where
 is _ _ e:=match e with
  | .Subscript _ (.Slice _ _ none _) _=>true
  | _=>false
 run r _ _ lc e ρ:=match e with
  | .Subscript a (.Slice lo hi none _) _=>bind (r.e lc a ρ) λd=>bind (a3t r lc lo ρ) λl=>bind (a3t r lc hi ρ) λu=>slD d l u
  | _=>bad
 ok e R TX h hi:=by
  split at hi
  ·exact c2r (R.ex h _) (a6o R h) (a6o R h)
  ·cases hi
 runK q _ _ lc e ρ _ k:=match e with
  | .Subscript a (.Slice lo hi none _) _=>q.e lc a ρ λd=>a5p q lc lo ρ λl=>a5p q lc hi ρ λu=>bind (slD d l u) k
  | _=>bad
 eq e ρ _ k h:=by
  split
  ·simp only [h.e,b46 h,bind_assoc]
  ·first
   | rfl
   | (rename_i hn;split;exact (hn _ _ _ _ _ rfl).elim;rfl)
noncomputable def c3v:RuE where
 is _ _ e:=match e with
  | .Subscript _ (.Slice none none (some _) _) _=>true
  | _=>false
 run r _ _ lc e ρ:=match e with
  | .Subscript a (.Slice none none (some st) _) _=>bind (r.e lc a ρ) λx=>bind (r.e lc st ρ) λy=>a2k x y
  | _=>bad
 ok e R TX h hi:=by
  split at hi
  ·exact b8j (R.ex h _) (R.ex h _)
  ·cases hi
 runK q _ _ lc e ρ _ k:=match e with
  | .Subscript a (.Slice none none (some st) _) _=>q.e lc a ρ λx=>q.e lc st ρ λy=>bind (a2k x y) k
  | _=>bad
 eq e ρ _ k h:=by
  split
  ·simp only [h.e,bind_assoc]
  ·first
   | rfl
   | (rename_i hn;split;exact (hn _ _ _ _ rfl).elim;rfl)
noncomputable def b7d:RuE where
 is _ _ e:=match e with
  | .Compare _ [_,_] [_,c] _=>u0 c
  | _=>false
 run r _ _ lc e ρ:=match e with
  | .Compare a [op,op'] [b,c] _=>bind (r.e lc a ρ) λx=>bind (r.e lc b ρ) λy=>L5 (b6 op) (b6 op') x y (r.e lc c ρ)
  | _=>bad
 ok e R TX h hi:=by
  split at hi
  ·exact a9q (R.ex h _) (R.ex h _) (R.ex h _) (O1 h _) (O1 h _) (E7 hi)
  ·cases hi
 runK q _ _ lc e ρ _ k:=match e with
  | .Compare a [op,op'] [b,c] _=>q.e lc a ρ λx=>q.e lc b ρ λy=>bind (b6 op x y) λd=>bind (asB d) λz=>if z=true then q.e lc c ρ λw=>bind (b6 op' y w) k else k (.bl false)
  | _=>bad
 eq e ρ _ k h:=by
  split
  ·simp only [h.e,L5,bind_assoc,j8,e9]
  ·first
   | rfl
   | (rename_i hn;split;exact (hn _ _ _ _ _ _ rfl).elim;rfl)
noncomputable def b8v:RuT where
 is _ _ e:=match e with
  | .UnaryOp .Not _ _=>true
  | _=>false
 run r _ _ lc e ρ:=match e with
  | .UnaryOp .Not a _=>bind (r.t lc a ρ) λq=>ret (!q)
  | _=>bad
 ok e R TX h hi:=by
  split at hi
  ·exact b8o (R.tx h _)
  ·cases hi
 runK q _ _ lc e ρ _ k:=match e with
  | .UnaryOp .Not a _=>q.t lc a ρ λc=>k (!c)
  | _=>bad
 eq e ρ _ k h:=by
  split
  ·simp only [h.t,bind_assoc,e9]
  ·first
   | rfl
   | (rename_i hn;split;exact (hn _ _ rfl).elim;rfl)
noncomputable def c2v:RuT where
 is _ _ e:=match e with
  | .BoolOp _ _ _=>true
  | _=>false
 run r _ _ lc e ρ:=match e with
  | .BoolOp .And es _=>a81 r lc es ρ
  | .BoolOp .Or es _=>orB r lc es ρ
  | _=>bad
 ok e R TX h hi:=by
  cases e with
  | BoolOp op es p=>cases op;exact (a5w R h).pt;exact (b13 R h).pt
  | _=>exact a36
 runK q _ _ lc e ρ _ k:=match e with
  | .BoolOp .And es _=>a5s q lc es ρ k
  | .BoolOp .Or es _=>b27 q lc es ρ k
  | _=>bad
 eq e ρ _ k h:=by
  cases e with
  | BoolOp op es p=>cases op;exact a67 h es ρ k;exact b1s h es ρ k
  | _=>rfl
noncomputable def c32:RuT where
 is _ _ e:=match e with
  | .Compare _ [_] [b] _=>u0 b
  | _=>false
 run r _ _ lc e ρ:=match e with
  | .Compare a [op] [b] _=>bind (r.e lc a ρ) λx=>bind (r.e lc b ρ) λy=>bind (b6 op x y) asB
  | _=>bad
 ok e R TX h hi:=by
  split at hi
  ·exact b90 (R.ex h _) (R.ex h _) (O1 h _) (E7 hi)
  ·cases hi
 runK q _ _ lc e ρ _ k:=match e with
  | .Compare a [op] [b] _=>q.e lc a ρ λx=>q.e lc b ρ λy=>bind (b6 op x y) λd=>bind (asB d) k
  | _=>bad
 eq e ρ _ k h:=by
  split
  ·simp only [h.e,bind_assoc]
  ·first
   | rfl
   | (rename_i hn;split;exact (hn _ _ _ _ rfl).elim;rfl)
noncomputable def a1a:RuT where
 is _ _ e:=match e with
  | .Compare _ [_,_] [_,c] _=>u0 c
  | _=>false
 run r _ _ lc e ρ:=match e with
  | .Compare a [op,op'] [b,c] _=>bind (r.e lc a ρ) λx=>bind (r.e lc b ρ) λy=>bind (L5 (b6 op) (b6 op') x y (r.e lc c ρ)) asB
  | _=>bad
 ok e R TX h hi:=by
  split at hi
  ·exact b0w (R.ex h _) (R.ex h _) (R.ex h _) (O1 h _) (O1 h _) (E7 hi)
  ·cases hi
 runK q _ _ lc e ρ _ k:=match e with
  | .Compare a [op,op'] [b,c] _=>q.e lc a ρ λx=>q.e lc b ρ λy=>bind (b6 op x y) λd=>bind (asB d) λz=>if z=true then q.e lc c ρ λw=>bind (b6 op' y w) λd=>bind (asB d) k else k false
  | _=>bad
 eq e ρ _ k h:=by
  split
  ·simp only [h.e,L5,bind_assoc,j8,e9]
   rfl
  ·first
   | rfl
   | (rename_i hn;split;exact (hn _ _ _ _ _ _ rfl).elim;rfl)
noncomputable def b62:RuT where
 is _ _ e:=B5 e
 run r _ _ lc e ρ:=bind (r.e lc e ρ) i8
 ok e R TX h hi:=a84 (R.ex h _) hi
 runK q _ _ lc e ρ _ k:=q.e lc e ρ λd=>bind (i8 d) k
 eq e ρ _ k h:=by simp only [h.e,bind_assoc]
noncomputable def b77 (Γ:Gm) (x:Str) (p:Nat->Nat->Bool):Bool:=match Γ.gl.lookup x with
 | some (.fn i n)=>p i n
 | _=>false
theorem b5w {Γ:Gm} {x:Str} {p:Nat->Nat->Bool} (h:b77 Γ x p=true):∃ i n,Γ.gl.lookup x=some (.fn i n)/\p i n=true:=by
 unfold b77 at h
 split at h
 ·rename_i i n e;exact ⟨i,n,e,h⟩
 ·cases h
noncomputable def rFn:RuE where
 is Γ lc e:=match e with
  | .Call (.Name x _) es [] _=>N9 x&&glB lc.sc x&&es.all b5&&!quiet lc&&b77 Γ x λi n=>decide (es.length=n)&&decide (i∉Γ.qs)
  | _=>false
 run r Γ C lc e ρ:=match e with
  | .Call (.Name x _) es [] _=>(match Γ.gl.lookup x with
   | some (.fn i n)=>bind (A5 r lc es ρ) λds=>if ds.length=n then C i ds else bad
   | _=>bad)
  | _=>bad
 ok {T k r Γ C lc X} e R TX h hi:=by
  split at hi
  ·rename_i x p es pos
   simp only [Bool.and_eq_true,Bool.not_eq_true'] at hi
   obtain ⟨⟨⟨⟨c1,c2⟩,c3⟩,c4⟩,c5⟩:=hi
   obtain ⟨n1,n2,n3⟩:=O3 c1
   obtain ⟨i,n,e1,c6⟩:=b5w c5
   simp only [Bool.and_eq_true,decide_eq_true_eq] at c6
   obtain ⟨a,fd,ps,f1,f2,f3,f4,f5⟩:=(TX.fn x i n e1 c6.2).ex
   have F:FnOk X.prog X.w X.K X.mg X.base (CXd X.prog X.w X.K) k a fd ps (spX X.K T.cl n (C i)):=by rw [h.prog,h.w,h.K,h.mg,h.base];exact f2
   have hk:PySem.W.keepIn X.K (.ref a)=true:=by rw [h.K];exact f4
   have hb:Binds X.K fd ps []:=by rw [h.K];exact f5
   have hm:X.mg x=some (.ref a):=by rw [h.mg];exact f3
   show PE X _ (tD X.K T.cl (xOf X) λρ=>(match Γ.gl.lookup x with
    | some (.fn i n)=>bind (A5 r lc es ρ) λds=>if ds.length=n then C i ds else bad
    | _=>bad))
   rw [e1]
   match es,c3,c6 with
   | [],_,c6=>
    have:n=0:=c6.1.symm
    subst this
    exact a8u F (h.room0 c4) (h.gl c2) hm hk hb n1
   | e :: es,c3,_=>exact a9z F (h.room0 c4) (h.gl c2) hm hk hb (o0 R h c3) n1 c3
  ·cases hi
 runK q Γ C lc e ρ _ k:=match e with
  | .Call (.Name x _) es [] _=>(match Γ.gl.lookup x with
   | some (.fn i n)=>C5 q lc es ρ λds=>if ds.length=n then bind (C i ds) k else bad
   | _=>bad)
  | _=>bad
 eq {r q Γ C lc} e ρ _ k h:=by
  split
  ·rename_i x p es pos
   cases Γ.gl.lookup x with
   | none=>rfl
   | some g=>cases g <;> first | rfl | simp only [v2 h,bind_assoc,j8,a2n]
  ·first
   | rfl
   | (rename_i hn;split;exact (hn _ _ _ _ rfl).elim;rfl)
noncomputable def a0u (Γ:Gm) (lc:Lc) (x:Str) (a:Expr):Bool:=decide (x = "isinstance")&&(Γ.gl.lookup ("isinstance" : Str)).isNone&&glB lc.sc "isinstance" && b5 a
theorem a4c {Γ:Gm} {lc:Lc} {x:Str} {a:Expr} (h:a0u Γ lc x a=true):x = "isinstance"/\Γ.gl.lookup ("isinstance" : Str)=none/\glB lc.sc "isinstance" = true/\b5 a=true:=by
 simp only [a0u,Bool.and_eq_true,decide_eq_true_eq,Option.isNone_iff_eq_none] at h
 exact ⟨h.1.1.1,h.1.1.2,h.1.2,h.2⟩
noncomputable def btys:List (Str×String):=[("int","int"),("bool","bool"),("str","str"),("tuple","tuple"),("list","list"),("dict","dict"),("ValueError","ValueError")]
theorem b3w:∀ {x:Str} {t:String},btys.lookup x=some t->bootBuiltins x=some (.type t)/\x∈bnames/\(t∈tys\/t = "ValueError"):=by
 intro x t e
 have:∀ y∈btys,bootBuiltins y.1=some (.type y.2)/\y.1∈bnames/\(y.2∈tys\/y.2 = "ValueError"):=by
  intro y hy
  simp only [btys,List.mem_cons,List.not_mem_nil,or_false] at hy
  rcases hy with rfl | rfl | rfl | rfl | rfl | rfl | rfl <;> exact ⟨rfl,by decide,by decide⟩
 exact this _ (L2.mem_of_lookup e)
noncomputable def c26:RuE where
 is Γ lc e:=match e with
  | .Call (.Name x _) [a,.Name y _] [] _=>a0u Γ lc x a&&N9 y&&glB lc.sc y&&(Γ.gl.lookup y).isNone
  | _=>false
 run r Γ C lc e ρ:=match e with
  | .Call (.Name _ _) [a,.Name y _] [] _=>(match btys.lookup y with
   | some T=>bind (r.e lc a ρ) λd=>if T∈tys then v7 T (λ_=>false) d else a8a (λ_=>true) d
   | none=>bad)
  | _=>bad
 ok {T k r Γ C lc X} e R TX h hi:=by
  split at hi
  ·rename_i x p a y q pos
   simp only [Bool.and_eq_true,Option.isNone_iff_eq_none] at hi
   obtain ⟨⟨⟨c0,c1⟩,c2⟩,c3⟩:=hi
   obtain ⟨rfl,i1,i2,i3⟩:=a4c c0
   obtain ⟨n1,n2,n3⟩:=O3 c1
   have hm:=TX.none h (x:="isinstance") (by decide) i1
   show PE X _ (tD X.K T.cl (xOf X) λρ=>(match btys.lookup y with
    | some T=>bind (r.e lc a ρ) λd=>if T∈tys then v7 T (λ_=>false) d else a8a (λ_=>true) d
    | none=>bad))
   cases e2:btys.lookup y with
   | none=>exact f6
   | some t=>
    obtain ⟨b1,b2,b3⟩:=b3w e2
    by_cases ht:t∈tys
    ·have:=a6s (pos:=pos) (p:=p) (q:=q) (sx:=λ_=>false) (.inl ht) (λc xc=>by rw [h.K] at xc ⊢;exact TX.subT c xc t ht) (R.ex h a) (h.gl i2) hm (h.gl c2) (TX.none h b2 c3) b1 n3 n1 i3
     simp only [if_pos ht] at this ⊢
     exact this
    ·rcases b3 with b3 | b3
     ·exact absurd b3 ht
     ·subst b3
      have:=a6s (pos:=pos) (p:=p) (q:=q) (sx:=λ_=>true) (.inr rfl) (λc xc=>by rw [h.K] at xc ⊢;exact TX.subV c xc) (R.ex h a) (h.gl i2) hm (h.gl c2) (TX.none h b2 c3) b1 n3 n1 i3
      simp only [if_neg ht] at this ⊢
      exact this
  ·cases hi
 runK q Γ C lc e ρ _ k:=match e with
  | .Call (.Name _ _) [a,.Name y _] [] _=>(match btys.lookup y with
   | some T=>q.e lc a ρ λd=>if T∈tys then bind (v7 T (λ_=>false) d) k else bind (a8a (λ_=>true) d) k
   | none=>bad)
  | _=>bad
 eq {r q Γ C lc} e ρ _ k h:=by
  split
  ·rename_i x p a y q pos
   cases btys.lookup y with
   | none=>rfl
   | some T=>simp only [h.e,bind_assoc,j8]
  ·first
   | rfl
   | (rename_i hn;split;exact (hn _ _ _ _ _ _ rfl).elim;rfl)
noncomputable def a6u (x:Str) (ld:Bool) (Γ:Gm) (lc:Lc) (e:Expr):Bool:=match e with
 | .Call (.Name f _) (a :: es) [] _=>decide (f=x)&&(a :: es).all b5&&(Γ.gl.lookup x).isNone&&glB lc.sc x&&!(ld&&quiet lc)
 | _=>false
noncomputable def b3o (g:List D->M D) (r:Ev) (lc:Lc) (e:Expr) (ρ:Env):M D:=match e with
 | .Call (.Name _ _) (a :: es) [] _=>bind (A5 r lc (a :: es) ρ) g
 | _=>bad
noncomputable def b2x (g:List D->M D) (q:EvK) (lc:Lc) (e:Expr) (ρ:Env) {α:Type} (k:D->M α):M α:=match e with
 | .Call (.Name _ _) (a :: es) [] _=>C5 q lc (a :: es) ρ λds=>bind (g ds) k
 | _=>bad
theorem b2r (g:List D->M D) {r:Ev} {q:EvK} {lc:Lc} (e:Expr) (ρ:Env) {α:Type} (k:D->M α) (h:EqK r q):b2x g q lc e ρ k=bind (b3o g r lc e ρ) k:=by
 unfold b2x b3o
 split
 ·simp only [v2 h,bind_assoc]
 ·first
  | rfl
  | (rename_i hn;split;exact (hn _ _ _ _ _ rfl).elim;rfl)
theorem a23 {x:Str} {ld:Bool} {Γ:Gm} {lc:Lc} {e:Expr} (h:a6u x ld Γ lc e=true):∃ p a es pos,e=.Call (.Name x p) (a :: es) [] pos/\(a :: es).all b5=true/\Γ.gl.lookup x=none/\glB lc.sc x=true/\(ld=true->quiet lc=false):=by
 unfold a6u at h
 split at h
 ·simp only [Bool.and_eq_true,decide_eq_true_eq,Option.isNone_iff_eq_none,Bool.not_eq_true'] at h
  obtain ⟨⟨⟨⟨rfl,h2⟩,h3⟩,h4⟩,h5⟩:=h
  refine ⟨_,_,_,_,rfl,h2,h3,h4,λz=>?_⟩
  rw [z] at h5
  simpa using h5
 ·cases h
noncomputable def rBf (x:Str) (id:String) (ld:Bool) (g:List D->M D) (hx:x∈bnames/\x ≠ "__name__"/\(x==("__debug__" : Str))=false) (hv:bootBuiltins x=some (.builtin id))
  (hc:∀ {T:Tx} {k:Nat} {lc:Lc} {X:Cx} {cl:Nat->Addr} {xe:Addr->Hp->Prop},CxOk T k lc X->(ld=true->X.calm=true)->i5 X (.builtin id) (rPs X.K cl xe g)):RuE where
 is:=a6u x ld
 run r _ _ lc e ρ:=b3o g r lc e ρ
 ok {T k r Γ C lc X} e R TX h hi:=by
  obtain ⟨p,a,es,pos,rfl,h1,h2,h3,h4⟩:=a23 hi
  exact b16 (hc h λz=>h.calm (h4 z)) (h.gl h3) (TX.none h hx.1 h2) hv (o0 R h h1) hx.2.1 hx.2.2 h1
 runK q _ _ lc e ρ _ k:=b2x g q lc e ρ k
 eq e ρ _ k h:=b2r g e ρ k h
noncomputable def rBt (x:Str) (id:String) (ld:Bool) (g:List D->M D) (hx:x∈bnames/\x ≠ "__name__"/\(x==("__debug__" : Str))=false) (hv:bootBuiltins x=some (.type id))
  (hc:∀ {T:Tx} {k:Nat} {lc:Lc} {X:Cx} {cl:Nat->Addr} {xe:Addr->Hp->Prop},CxOk T k lc X->(ld=true->X.calm=true)->i5 X (.type id) (rPs X.K cl xe g)):RuE where
 is:=a6u x ld
 run r _ _ lc e ρ:=b3o g r lc e ρ
 ok {T k r Γ C lc X} e R TX h hi:=by
  obtain ⟨p,a,es,pos,rfl,h1,h2,h3,h4⟩:=a23 hi
  exact a3g (hc h λz=>h.calm (h4 z)) (h.gl h3) (TX.none h hx.1 h2) hv (o0 R h h1) hx.2.1 hx.2.2 h1
 runK q _ _ lc e ρ _ k:=b2x g q lc e ρ k
 eq e ρ _ k h:=b2r g e ρ k h
noncomputable def c3m:RuE:=rBf "len" "len" false (one y0) (by decide) PySem.boot_len λ_ _=>c28
noncomputable def b9t:RuE:=rBt "tuple" "tuple" false (one K3) (by decide) rfl λ_ _=>b5d
noncomputable def c0k:RuE:=rBt "list" "list" false (one a0j) (by decide) rfl λ_ _=>b7a
noncomputable def c3a:RuE:=rBf "repr" "repr" false (one D7) (by decide) rfl λh _=>b6x h.room.gd h.u64
noncomputable def b5c:RuE:=rBf "sorted" "sorted" false (one v3) (by decide) rfl λ_ _=>b0x
noncomputable def c4e:RuE:=rBf "all" "all" true (one a7g) (by decide) rfl λ_ hc=>c25 (hc rfl)
noncomputable def c4p:RuE:=rBf "max" "max" true b1z (by decide) rfl λ_ hc=>c06 (hc rfl)
noncomputable def b3r:RuE where
 is Γ lc e:=match e with
  | .Call (.Name x _) [.Call (.Name y _) [a] [] _] [] _=>decide (x = "len")&&decide (y = "set")&&(Γ.gl.lookup ("len" : Str)).isNone&&(Γ.gl.lookup ("set" : Str)).isNone&&glB lc.sc "len" && glB lc.sc "set" && !quiet lc&&b5 a
  | _=>false
 run r _ _ lc e ρ:=match e with
  | .Call (.Name _ _) [.Call (.Name _ _) [a] [] _] [] _=>bind (r.e lc a ρ) M4
  | _=>bad
 ok {T k r Γ C lc X} e R TX h hi:=by
  split at hi
  ·simp only [Bool.and_eq_true,decide_eq_true_eq,Option.isNone_iff_eq_none,Bool.not_eq_true'] at hi
   obtain ⟨⟨⟨⟨⟨⟨⟨rfl,rfl⟩,h1⟩,h2⟩,h3⟩,h4⟩,h5⟩,h6⟩:=hi
   exact a5g (h.calm h5) (h.gl h3) (TX.none h (by decide) h1) (h.gl h4) (TX.none h (by decide) h2) (R.ex h _) h6
  ·cases hi
 runK q _ _ lc e ρ _ k:=match e with
  | .Call (.Name _ _) [.Call (.Name _ _) [a] [] _] [] _=>q.e lc a ρ λd=>bind (M4 d) k
  | _=>bad
 eq e ρ _ k h:=by
  split
  ·simp only [h.e,bind_assoc]
  ·first
   | rfl
   | (rename_i hn;split;exact (hn _ _ _ _ _ _ _ rfl).elim;rfl)
noncomputable def b2u:RuE where
 is Γ lc e:=match e with
  | .Call (.Name x _) [.Call (.Name y _) [a] [] _] [] _=>decide (x = "list")&&decide (y = "range")&&(Γ.gl.lookup ("list" : Str)).isNone&&(Γ.gl.lookup ("range" : Str)).isNone&&glB lc.sc "list" && glB lc.sc "range" && !quiet lc&&b5 a
  | _=>false
 run r _ _ lc e ρ:=match e with
  | .Call (.Name _ _) [.Call (.Name _ _) [a] [] _] [] _=>bind (r.e lc a ρ) C1
  | _=>bad
 ok {T k r Γ C lc X} e R TX h hi:=by
  split at hi
  ·simp only [Bool.and_eq_true,decide_eq_true_eq,Option.isNone_iff_eq_none,Bool.not_eq_true'] at hi
   obtain ⟨⟨⟨⟨⟨⟨⟨rfl,rfl⟩,h1⟩,h2⟩,h3⟩,h4⟩,h5⟩,h6⟩:=hi
   exact a8l (h.calm h5) (h.gl h3) (TX.none h (by decide) h1) (h.gl h4) (TX.none h (by decide) h2) (R.ex h _) h6
  ·cases hi
 runK q _ _ lc e ρ _ k:=match e with
  | .Call (.Name _ _) [.Call (.Name _ _) [a] [] _] [] _=>q.e lc a ρ λd=>bind (C1 d) k
  | _=>bad
 eq e ρ _ k h:=by
  split
  ·simp only [h.e,bind_assoc]
  ·first
   | rfl
   | (rename_i hn;split;exact (hn _ _ _ _ _ _ _ rfl).elim;rfl)
noncomputable def b3c (n:Nat) (Γ:Gm) (lc:Lc) (e:Expr):Bool:=match e with
 | .Call (.Name f _) es [] _=>decide (f = "range")&&decide (es.length=n)&&es.all b5&&(Γ.gl.lookup ("range" : Str)).isNone&&glB lc.sc "range"
 | _=>false
noncomputable def rgE (n:Nat) (r:Ev) (lc:Lc) (e:Expr) (ρ:Env):M (Src×Nat):=match e with
 | .Call (.Name _ _) es [] _=>bind (A5 r lc es ρ) λds=>if ds.length=n then B1 ds else bad
 | _=>bad
noncomputable def rgK (n:Nat) (q:EvK) (lc:Lc) (e:Expr) (ρ:Env) {α:Type} (k:Src×Nat->M α):M α:=match e with
 | .Call (.Name _ _) es [] _=>C5 q lc es ρ λds=>if ds.length=n then bind (B1 ds) k else bad
 | _=>bad
theorem b52 (n:Nat) {r:Ev} {q:EvK} {lc:Lc} (e:Expr) (ρ:Env) {α:Type} (k:Src×Nat->M α) (h:EqK r q):rgK n q lc e ρ k=bind (rgE n r lc e ρ) k:=by
 unfold rgK rgE
 split
 ·simp only [v2 h,bind_assoc,j8,a2n]
 ·first
  | rfl
  | (rename_i hn;split;exact (hn _ _ _ _ rfl).elim;rfl)
noncomputable def b42:RuI where
 is Γ lc _ e:=b3c 1 Γ lc e
 run r _ _ lc e ρ:=rgE 1 r lc e ρ
 ok {T k r Γ C lc X} g e R TX h hi:=by
  unfold b3c at hi
  split at hi
  ·rename_i f p es pos
   simp only [Bool.and_eq_true,decide_eq_true_eq,Option.isNone_iff_eq_none] at hi
   obtain ⟨⟨⟨⟨rfl,h1⟩,h2⟩,h3⟩,h4⟩:=hi
   match es,h1,h2 with
   | [a],_,h2=>exact a34 (h.gl h4) (TX.none h (by decide) h3) (o0 R h h2) (by simpa using h2)
  ·cases hi
 runK q _ _ lc e ρ _ k:=rgK 1 q lc e ρ k
 eq e ρ _ k h:=b52 1 e ρ k h
noncomputable def b2w:RuI where
 is Γ lc _ e:=b3c 2 Γ lc e
 run r _ _ lc e ρ:=rgE 2 r lc e ρ
 ok {T k r Γ C lc X} g e R TX h hi:=by
  unfold b3c at hi
  split at hi
  ·rename_i f p es pos
   simp only [Bool.and_eq_true,decide_eq_true_eq,Option.isNone_iff_eq_none] at hi
   obtain ⟨⟨⟨⟨rfl,h1⟩,h2⟩,h3⟩,h4⟩:=hi
   match es,h1,h2 with
   | [a,b],_,h2=>
    have h2':b5 a=true/\b5 b=true:=by simpa using h2
    exact a4r (h.gl h4) (TX.none h (by decide) h3) (o0 R h h2) h2'.1 h2'.2
  ·cases hi
 runK q _ _ lc e ρ _ k:=rgK 2 q lc e ρ k
 eq e ρ _ k h:=b52 2 e ρ k h
noncomputable def c4x:RuI where
 is _ _ _ _:=true
 run r _ _ lc e ρ:=bind (r.e lc e ρ) k5
 ok g e R TX h hi:=b3l (R.ex h e)
 runK q _ _ lc e ρ _ k:=q.e lc e ρ λd=>bind (k5 d) k
 eq e ρ _ k h:=by simp only [h.e,bind_assoc]
noncomputable def a4t (scope sc:Scope):Scope:={ scope with names:=scope.names.map λ(n,k)=>if (k==.free&&sc.kind==.function&&sc.names.lookup n==some .cell) then (n,NameKind.cell) else (n,k) }
theorem a7x (scope:Scope) (env:PySem.Env):relabel scope env=a4t scope env.scope:=rfl
noncomputable def v9 (scope:Scope):List Str:=(scope.names.filter λy=>y.2==.free).map (·.1)
noncomputable def E8 (lc:Lc) (scope:Scope) (xs:List Str):Bool:=
 decide (scope.kind=.function)&&scope.names.all (λy=>decide (y.2≠.cell))&&scope.names.all (λy=>decide (y.2=.local->scope.names.lookup y.1=some .local))
  && scope.names.all (λy=>decide (y.2=.free->scope.names.lookup y.1=some .free/\(lc.sc.names.lookup y.1=some .cell\/lc.sc.names.lookup y.1=some .free)))
  && (v9 scope).all (λz=>decide (scope.names.lookup z=some .free))&&decide ((xs++v9 scope).Nodup)&&xs.all (λx=>decide (scope.names.lookup x=some .local))&&!quiet lc
theorem a3k {α β:Type} {f:α->Option β}:∀ {xs:List α} {ys:List β},f9 f xs=some ys->ys.length=xs.length
 | [],_,e=>by cases e;rfl
 | x :: xs,ys,e=>by
  simp only [f9] at e
  cases e1:f x with
  | none=>rw [e1] at e;cases e
  | some y=>
   cases e2:f9 f xs with
   | none=>rw [e1,e2] at e;cases e
   | some ys'=>rw [e1,e2] at e;cases e;simp [a3k e2]
theorem a2t {α β:Type} {f:α->Option β}:∀ {xs:List α} {ys:List β} {j:Nat} {y:β},f9 f xs=some ys->ys[j]?=some y->∃ x,xs[j]?=some x/\f x=some y
 | [],_,_,_,e,h=>by cases e;simp at h
 | x :: xs,ys,j,y,e,h=>by
  simp only [f9] at e
  cases e1:f x with
  | none=>rw [e1] at e;cases e
  | some z=>
   cases e2:f9 f xs with
   | none=>rw [e1,e2] at e;cases e
   | some ys'=>
    rw [e1,e2] at e;cases e
    cases j with
    | zero=>simp at h;subst h;exact ⟨x,rfl,e1⟩
    | succ j=>simpa using a2t (j:=j) (y:=y) e2 (by simpa using h)
noncomputable def k6 (lc:Lc) (scope:Scope) (xs:List Str):Lc:=⟨xs++v9 scope,a4t scope lc.sc,false,[]⟩
noncomputable def testsE (r:Ev) (lc:Lc) (ifs:List Expr) (ρ:Env):M Bool:=match ifs with
 | []=>ret true
 | [c]=>r.t lc c ρ
 | _=>bad
noncomputable def testsK (q:EvK) (lc:Lc) (ifs:List Expr) (ρ:Env):M Bool:=match ifs with
 | []=>ret true
 | [c]=>q.t lc c ρ ret
 | _=>bad
theorem tests_eq {r:Ev} {q:EvK} {lc:Lc} (h:EqK r q) (ifs:List Expr) (ρ:Env):testsK q lc ifs ρ=testsE r lc ifs ρ:=by
 match ifs with
 | []=>rfl
 | [c]=>simp only [testsK,testsE,h.t,T3]
 | _ :: _ :: _=>rfl
section
variable {T:Tx} {k:Nat} {r:Ev} {q:EvK} {Γ:Gm} {C:Cf} {lc:Lc} {X:Cx}
theorem tests_ok (R:EvOk T k r) (h:CxOk T k lc X) {ifs:List Expr}:PTL X ifs (tBo X.K T.cl (xOf X) (testsE r lc ifs)):=by
 match ifs with
 | []=>exact a73
 | [c]=>exact b4h (R.tx h c)
 | _ :: _ :: _=>exact λ_ _ _ _ _ _ ⟨_,_,_,_,_,p⟩=>p.elim
theorem a0g (h:CxOk T k lc X) {scope:Scope} {xs:List Str} {caps:List Nat} (hc:E8 lc scope xs=true) (hm:f9 (j0 lc.N) (v9 scope)=some caps):CompText X.N X.env (xs++v9 scope) xs.length caps scope/\(xs++v9 scope).Nodup/\(∀ x∈xs,scope.names.lookup x=some .local)/\quiet lc=false/\scope.kind=.function:=by
 simp only [E8,Bool.and_eq_true,decide_eq_true_eq,List.all_eq_true,Bool.not_eq_true'] at hc
 obtain ⟨⟨⟨⟨⟨⟨⟨h1,h2⟩,h3⟩,h4⟩,h5⟩,h6⟩,h7⟩,h8⟩:=hc
 refine ⟨⟨h1,h2,h3,λy hy hk=>?_,λj i e=>?_,?_⟩,h6,h7,h8,h1⟩
 ·rw [h.sc];exact h4 y hy hk
 ·obtain ⟨z,e1,e2⟩:=a2t hm e
  refine ⟨z,by rw [h.N];exact B7 e2,?_,h5 z (List.mem_of_getElem? e1)⟩
  rw [List.getElem?_append_right (by omega)]
  simpa using e1
 ·simp [a3k hm,Nat.add_comm]
theorem G5 (h:CxOk T k lc X) (hq:quiet lc=false) {scope:Scope} {xs:List Str} (hk:scope.kind=.function) (hn:(xs++v9 scope).Nodup) (pins:List (Addr×Obj)) (C:Addr) (fp:List Addr) (s:Shared) (H:Hp):CxOk T k (k6 lc scope xs) (a8 X pins (xs++v9 scope) scope C fp s H):=
 ⟨h.prog,h.w,h.K,h.mg,h.base,rfl,hn,by show relabel scope X.env=a4t scope lc.sc;rw [a7x,h.sc],λ_=>h.calm hq,(by have:=h.room;rw [hq] at this;exact this),PassesOwn.never,rfl,hk,λz=>Bool.noConfusion z⟩
end
noncomputable def f7 (src:Src) (t:D->M Bool) (f:D->M D):Nat->Nat->List D->M (List D)
 | 0,_,_=>bad
 | m+1,i,es=>λS=>match src i S with
  | none=>.bad
  | some none=>.ok es S
  | some (some d)=>bind (t d) (λb=>if b=true then bind (f d) (λy=>if es.length<sizeLine then f7 src t f m (i+1) (es++[y]) else bad) else f7 src t f m (i+1) es) S
theorem V4 (src:Src) (t:Env->M Bool) (f:Env->M D) (mk:D->Env):∀ m i es,v6 src t f mk m i es=f7 src (λd=>t (mk d)) (λd=>f (mk d)) m i es
 | 0,_,_=>rfl
 | m+1,i,es=>by
  funext S
  simp only [v6,f7,V4 src t f mk m]
  all_goals (cases src i S with
  | none=>rfl
  | some o=>cases o <;> rfl)
noncomputable def U1 (r:Ev) (lc:Lc) (elt:Expr) (x:Str) (px:Pos) (iter:Expr) (ifs:List Expr) (scope:Scope) (ρ:Env):M (List D):=match f9 (j0 lc.N) (v9 scope) with
 | some caps=>nx (a57 caps (r.i lc (.Name x px) iter) (testsE r (k6 lc scope [x]) ifs) (r.e (k6 lc scope [x]) elt) ρ)
 | none=>bad
noncomputable def a37 (q:EvK) (lc:Lc) (elt:Expr) (x:Str) (px:Pos) (iter:Expr) (ifs:List Expr) (scope:Scope) (ρ:Env) {α:Type} (k:List D->M α):M α:=match f9 (j0 lc.N) (v9 scope) with
 | some caps=>bind (nx (q.i lc (.Name x px) iter ρ λsm=>f7 sm.1 (λd=>testsK q (k6 lc scope [x]) ifs (some d :: q9 caps ρ)) (λd=>q.e (k6 lc scope [x]) elt (some d :: q9 caps ρ) ret) sm.2 0 [])) k
 | none=>bad
theorem a9b {r:Ev} {q:EvK} {lc:Lc} (h:EqK r q) (elt:Expr) (x:Str) (px:Pos) (iter:Expr) (ifs:List Expr) (scope:Scope) (ρ:Env) {α:Type} (k:List D->M α):a37 q lc elt x px iter ifs scope ρ k=bind (U1 r lc elt x px iter ifs scope ρ) k:=by
 unfold a37 U1
 cases f9 (j0 lc.N) (v9 scope) with
 | none=>rfl
 | some caps=>simp only [h.i,h.e,T3,tests_eq h,a57,V4]
theorem b2n {T:Tx} {k:Nat} {r:Ev} {lc:Lc} {X:Cx} (R:EvOk T k r) (h:CxOk T k lc X) {elt:Expr} {x:Str} {px pos:Pos} {iter:Expr} {ifs:List Expr} {scope:Scope} (hc:E8 lc scope [x]=true) (hn:u0 iter=true) :
  PE X (.ListComp elt [⟨.Name x px,iter,ifs,0⟩] scope pos) (tD X.K T.cl (xOf X) λρ=>bind (U1 r lc elt x px iter ifs scope ρ) λds=>ret (.lst ds)):=by
 unfold U1
 cases hm:f9 (j0 lc.N) (v9 scope) with
 | none=>exact f6
 | some caps=>
  obtain ⟨t1,t2,t3,t4,t5⟩:=a0g h hc hm
  refine a66 (a91 t1 (h.calm t4) t2 rfl (t3 x (by simp)) (PI.x0 (R.ix h _ _)) (λpins C fp s H=>?_) (λpins C fp s H=>?_) hn)
  ·exact PTL.x0 (tests_ok R (G5 h t4 t5 t2 pins C fp s H))
  ·exact PE.x0 (R.ex (G5 h t4 t5 t2 pins C fp s H) elt)
noncomputable def b65:RuE where
 is _ lc e:=match e with
  | .ListComp _ [⟨.Name x _,iter,_,0⟩] scope _=>E8 lc scope [x]&&u0 iter
  | _=>false
 run r _ _ lc e ρ:=match e with
  | .ListComp elt [⟨.Name x px,iter,ifs,0⟩] scope _=>bind (U1 r lc elt x px iter ifs scope ρ) λds=>ret (.lst ds)
  | _=>bad
 ok e R TX h hi:=by
  split at hi
  ·rw [Bool.and_eq_true] at hi
   exact b2n R h hi.1 hi.2
  ·cases hi
 runK q _ _ lc e ρ _ k:=match e with
  | .ListComp elt [⟨.Name x px,iter,ifs,0⟩] scope _=>a37 q lc elt x px iter ifs scope ρ λds=>k (.lst ds)
  | _=>bad
 eq e ρ _ k h:=by
  split
  ·simp only [a9b h,bind_assoc,e9]
  ·first
   | rfl
   | (rename_i hn;split;exact (hn _ _ _ _ _ _ _ rfl).elim;rfl)
noncomputable def C3 (src:Src) (t:D->M Bool) (fi1:D->M (Src×Nat)) (t1:D->D->M Bool) (f:D->D->M D):Nat->Nat->List D->M (List D)
 | 0,_,_=>bad
 | m+1,i,es=>λS=>match src i S with
  | none=>.bad
  | some none=>.ok es S
  | some (some d)=>bind (t d) (λb=>if b=true then bind (fi1 d) (λsm=>bind (f7 sm.1 (t1 d) (f d) sm.2 0 es) (λes'=>C3 src t fi1 t1 f m (i+1) es')) else C3 src t fi1 t1 f m (i+1) es) S
theorem Z4 (src:Src) (t:Env->M Bool) (fi1:Env->M (Src×Nat)) (t1:Env->M Bool) (f:Env->M D) (cap:Env):∀ m i es,u8 src t fi1 t1 f cap m i es=C3 src (λd=>t (some d :: none :: cap)) (λd=>fi1 (some d :: none :: cap)) (λd d2=>t1 (some d :: some d2 :: cap)) (λd d2=>f (some d :: some d2 :: cap)) m i es
 | 0,_,_=>rfl
 | m+1,i,es=>by
  funext S
  simp only [u8,C3,Z4 src t fi1 t1 f cap m,V4]
  all_goals (cases src i S with
  | none=>rfl
  | some o=>cases o <;> rfl)
noncomputable def V0 (r:Ev) (lc:Lc) (elt:Expr) (x y:Str) (px py:Pos) (iter iter2:Expr) (ifs ifs2:List Expr) (scope:Scope) (ρ:Env):M (List D):=match f9 (j0 lc.N) (v9 scope) with
 | some caps=>nx (a1f caps (r.i lc (.Name x px) iter) (testsE r (k6 lc scope [x,y]) ifs) (r.i (k6 lc scope [x,y]) (.Name y py) iter2) (testsE r (k6 lc scope [x,y]) ifs2) (r.e (k6 lc scope [x,y]) elt) ρ)
 | none=>bad
noncomputable def a39 (q:EvK) (lc:Lc) (elt:Expr) (x y:Str) (px py:Pos) (iter iter2:Expr) (ifs ifs2:List Expr) (scope:Scope) (ρ:Env) {α:Type} (k:List D->M α):M α:=match f9 (j0 lc.N) (v9 scope) with
 | some caps=>bind (nx (q.i lc (.Name x px) iter ρ λsm=>C3 sm.1 (λd=>testsK q (k6 lc scope [x,y]) ifs (some d :: none :: q9 caps ρ)) (λd=>q.i (k6 lc scope [x,y]) (.Name y py) iter2 (some d :: none :: q9 caps ρ) ret) (λd d2=>testsK q (k6 lc scope [x,y]) ifs2 (some d :: some d2 :: q9 caps ρ)) (λd d2=>q.e (k6 lc scope [x,y]) elt (some d :: some d2 :: q9 caps ρ) ret) sm.2 0 [])) k
 | none=>bad
theorem b1f {r:Ev} {q:EvK} {lc:Lc} (h:EqK r q) (elt:Expr) (x y:Str) (px py:Pos) (iter iter2:Expr) (ifs ifs2:List Expr) (scope:Scope) (ρ:Env) {α:Type} (k:List D->M α):a39 q lc elt x y px py iter iter2 ifs ifs2 scope ρ k=bind (V0 r lc elt x y px py iter iter2 ifs ifs2 scope ρ) k:=by
 unfold a39 V0
 cases f9 (j0 lc.N) (v9 scope) with
 | none=>rfl
 | some caps=>simp only [h.i,h.e,T3,tests_eq h,a1f,Z4]
theorem a9o {T:Tx} {k:Nat} {r:Ev} {lc:Lc} {X:Cx} (R:EvOk T k r) (h:CxOk T k lc X) {elt:Expr} {x y:Str} {px py pos:Pos} {iter iter2:Expr} {ifs ifs2:List Expr} {scope:Scope} (hc:E8 lc scope [x,y]=true) (hn:u0 iter=true) (hn2:u0 iter2=true) :
  PE X (.ListComp elt [⟨.Name x px,iter,ifs,0⟩,⟨.Name y py,iter2,ifs2,0⟩] scope pos) (tD X.K T.cl (xOf X) λρ=>bind (V0 r lc elt x y px py iter iter2 ifs ifs2 scope ρ) λds=>ret (.lst ds)):=by
 unfold V0
 cases hm:f9 (j0 lc.N) (v9 scope) with
 | none=>exact f6
 | some caps=>
  obtain ⟨t1,t2,t3,t4,t5⟩:=a0g h hc hm
  refine a66 (a7z t1 (h.calm t4) t2 rfl rfl (t3 x (by simp)) (t3 y (by simp)) (PI.x0 (R.ix h _ _)) (λpins C fp s H=>?_) (λpins C fp s H=>?_) (λpins C fp s H=>?_) (λpins C fp s H=>?_) hn hn2)
  ·exact PTL.x0 (tests_ok R (G5 h t4 t5 t2 pins C fp s H))
  ·exact PI.x0 (R.ix (G5 h t4 t5 t2 pins C fp s H) _ _)
  ·exact PTL.x0 (tests_ok R (G5 h t4 t5 t2 pins C fp s H))
  ·exact PE.x0 (R.ex (G5 h t4 t5 t2 pins C fp s H) elt)
noncomputable def b6z:RuE where
 is _ lc e:=match e with
  | .ListComp _ [⟨.Name x _,iter,_,0⟩,⟨.Name y _,iter2,_,0⟩] scope _=>E8 lc scope [x,y]&&u0 iter&&u0 iter2
  | _=>false
 run r _ _ lc e ρ:=match e with
  | .ListComp elt [⟨.Name x px,iter,ifs,0⟩,⟨.Name y py,iter2,ifs2,0⟩] scope _=>bind (V0 r lc elt x y px py iter iter2 ifs ifs2 scope ρ) λds=>ret (.lst ds)
  | _=>bad
 ok e R TX h hi:=by
  split at hi
  ·rw [Bool.and_eq_true,Bool.and_eq_true] at hi
   exact a9o R h hi.1.1 hi.1.2 hi.2
  ·cases hi
 runK q _ _ lc e ρ _ k:=match e with
  | .ListComp elt [⟨.Name x px,iter,ifs,0⟩,⟨.Name y py,iter2,ifs2,0⟩] scope _=>a39 q lc elt x y px py iter iter2 ifs ifs2 scope ρ λds=>k (.lst ds)
  | _=>bad
 eq e ρ _ k h:=by
  split
  ·simp only [b1f h,bind_assoc,e9]
  ·first
   | rfl
   | (rename_i hn;split;exact (hn _ _ _ _ _ _ _ _ _ _ _ rfl).elim;rfl)
noncomputable def b9d (m:Str) (e:Expr):Bool:=match e with
 | .Call (.Attribute o n apos) (a :: es) [] cpos=>decide (n=m)&&A6 o&&(a :: es).all b5&&B8 (a :: es)&&(apos.endLine==cpos.line)
 | _=>false
theorem b5m {m:Str} {e:Expr} (h:b9d m e=true):∃ o apos a es cpos,e=.Call (.Attribute o m apos) (a :: es) [] cpos/\A6 o=true/\(a :: es).all b5=true/\B8 (a :: es)=true/\(apos.endLine==cpos.line)=true:=by
 unfold b9d at h
 split at h
 ·simp only [Bool.and_eq_true,decide_eq_true_eq] at h
  obtain ⟨⟨⟨⟨rfl,h1⟩,h2⟩,h3⟩,h4⟩:=h
  exact ⟨_,_,_,_,_,rfl,h1,h2,h3,h4⟩
 ·cases h
noncomputable def mtE {α:Type} (g:D->M α) (op:D->List D->M D) (r:Ev) (lc:Lc) (e:Expr) (ρ:Env):M D:=match e with
 | .Call (.Attribute o _ _) (a :: es) [] _=>bind (r.e lc o ρ) λx=>bind (g x) λ_=>bind (A5 r lc (a :: es) ρ) λds=>op x ds
 | _=>bad
noncomputable def mtK {α:Type} (g:D->M α) (op:D->List D->M D) (q:EvK) (lc:Lc) (e:Expr) (ρ:Env) {β:Type} (k:D->M β):M β:=match e with
 | .Call (.Attribute o _ _) (a :: es) [] _=>q.e lc o ρ λx=>bind (g x) λ_=>C5 q lc (a :: es) ρ λds=>bind (op x ds) k
 | _=>bad
theorem c2q {α:Type} (g:D->M α) (op:D->List D->M D) {r:Ev} {q:EvK} {lc:Lc} (e:Expr) (ρ:Env) {β:Type} (k:D->M β) (h:EqK r q):mtK g op q lc e ρ k=bind (mtE g op r lc e ρ) k:=by
 unfold mtK mtE
 split
 ·simp only [h.e,v2 h,bind_assoc]
 ·first
  | rfl
  | (rename_i hn;split;exact (hn _ _ _ _ _ _ rfl).elim;rfl)
noncomputable def rMt {α:Type} (m:Str) (g:D->M α) (op:D->List D->M D)
  (ok:∀ {T:Tx} {k:Nat} {lc:Lc} {X:Cx} {xe:Addr->Hp->Prop} {o a:Expr} {es:List Expr} {apos cpos:Pos} {f:Env->M D} {fs:Env->M (List D)},CxOk T k lc X->PE X o (tD X.K T.cl xe f)->PA X (a :: es) (tDs X.K T.cl xe fs)->A6 o=true->(a :: es).all b5=true->B8 (a :: es)=true->(apos.endLine==cpos.line)=true->PE X (.Call (.Attribute o m apos) (a :: es) [] cpos) (tD X.K T.cl xe λρ=>bind (f ρ) λx=>bind (g x) λ_=>bind (fs ρ) λds=>op x ds)):RuE where
 is _ _ e:=b9d m e
 run r _ _ lc e ρ:=mtE g op r lc e ρ
 ok {T k r Γ C lc X} e R TX h hi:=by
  obtain ⟨o,apos,a,es,cpos,rfl,c1,c2,c3,c4⟩:=b5m hi
  exact ok h (R.ex h o) (o0 R h c2) c1 c2 c3 c4
 runK q _ _ lc e ρ _ k:=mtK g op q lc e ρ k
 eq e ρ _ k h:=c2q g op e ρ k h
noncomputable def b4x:RuE:=rMt "extend" lstOf extD λ_ ho ha c1 c2 c3 c4=>a5u PySem.F.plainAttrs_list PySem.F.slot_list_extend PySem.F.type_list_extend a44 V8 b2p ho ha c1 c2 c3 c4
noncomputable def c38:RuE:=rMt "pop" lstOf popD λ_ ho ha c1 c2 c3 c4=>a5u PySem.F.plainAttrs_list PySem.F.slot_list_pop PySem.F.type_list_pop a9a V8 b2e ho ha c1 c2 c3 c4
noncomputable def rAppend:RuE:=rMt "append" lstOf J9 λ_ ho ha c1 c2 c3 c4=>Y9 ho ha c1 c2 c3 c4
noncomputable def b02:RuE where
 is _ lc e:=match e with
  | .Call (.Attribute o n apos) [.List as p] [] cpos=>decide (n = "append")&&A6 o&&decide (("[]" : Str)∈lc.mu)&&as.all b5&&(apos.endLine==cpos.line)
  | _=>false
 run r _ _ lc e ρ:=match e with
  | .Call (.Attribute o _ _) [.List as _] [] _=>bind (r.e lc o ρ) λx=>bind (lstOf x) λ_=>bind (bind (bind (A5 r lc as ρ) w9) λd=>ret [d]) λds=>J9 x ds
  | _=>bad
 ok {T k r Γ C lc X} e R TX h hi:=by
  split at hi
  ·simp only [Bool.and_eq_true,decide_eq_true_eq] at hi
   obtain ⟨⟨⟨⟨rfl,h1⟩,h2⟩,h3⟩,h4⟩:=hi
   refine Y9 (R.ex h _) ?_ h1 rfl rfl h4
   exact PA.imp (X3 (a0t (o0 R h h3)) a1r rfl) λσ H Q ⟨μ,S,ρ,eo,rp,p⟩=>⟨μ,S,ρ,eo,rp,p⟩
  ·cases hi
 runK q _ _ lc e ρ _ k:=match e with
  | .Call (.Attribute o _ _) [.List as _] [] _=>q.e lc o ρ λx=>bind (lstOf x) λ_=>C5 q lc as ρ λds=>bind (w9 ds) λd=>bind (J9 x [d]) k
  | _=>bad
 eq e ρ _ k h:=by
  split
  ·simp only [h.e,v2 h,bind_assoc,e9]
  ·first
   | rfl
   | (rename_i hn;split;exact (hn _ _ _ _ _ _ rfl).elim;rfl)
noncomputable def c2e:RuS where
 is _ _ e:=match e with
  | .Expr e _=>y9 e
  | _=>false
 run r _ _ lc e ρ:=match e with
  | .Expr e _=>bind (r.e lc e ρ) λ_=>ret (.nx ρ)
  | _=>bad
 ok e R TX h hf hi:=by
  cases e with
  | Expr e p=>exact a87 (R.ex h _) hi
  | _=>exact K0
 runK q _ _ lc e ρ _ k:=match e with
  | .Expr e _=>q.e lc e ρ λ_=>k (.nx ρ)
  | _=>bad
 eq e ρ _ k h:=by
  cases e with
  | Expr e p=>simp only [h.e,bind_assoc,e9]
  | _=>rfl
noncomputable def c4u:RuS where
 is _ _ e:=match e with
  | .Return (some _) _=>true
  | _=>false
 run r _ _ lc e ρ:=match e with
  | .Return (some e) _=>bind (r.e lc e ρ) λd=>ret (.rt d)
  | _=>bad
 ok e R TX h hf hi:=by
  split at hi
  ·exact a5n (R.ex h _)
  ·cases hi
 runK q _ _ lc e ρ _ k:=match e with
  | .Return (some e) _=>q.e lc e ρ λd=>k (.rt d)
  | _=>bad
 eq e ρ _ k h:=by
  split
  ·simp only [h.e,bind_assoc,e9]
  ·first
   | rfl
   | (rename_i hn;split;exact (hn _ _ rfl).elim;rfl)
noncomputable def c0h:RuS where
 is _ lc e:=match e with
  | .Return (some (.List es _)) _=>decide (("return" : Str)∈lc.mu)&&es.all b5
  | _=>false
 run r _ _ lc e ρ:=match e with
  | .Return (some (.List es _)) _=>bind (bind (A5 r lc es ρ) w9) λd=>ret (.rt d)
  | _=>bad
 ok e R TX h hf hi:=by
  split at hi
  ·rw [Bool.and_eq_true] at hi
   exact a5n (a0t (o0 R h hi.2))
  ·cases hi
 runK q _ _ lc e ρ _ k:=match e with
  | .Return (some (.List es _)) _=>C5 q lc es ρ λds=>bind (w9 ds) λd=>k (.rt d)
  | _=>bad
 eq e ρ _ k h:=by
  split
  ·simp only [v2 h,bind_assoc,e9]
  ·first
   | rfl
   | (rename_i hn;split;exact (hn _ _ _ rfl).elim;rfl)
noncomputable def sIf:RuS where
 is _ _ e:=match e with
  | .If _ _ _ _=>true
  | _=>false
 run r _ _ lc e ρ:=match e with
  | .If c a b _=>bind (r.t lc c ρ) λq=>if q=true then Y5 r lc a ρ else Y5 r lc b ρ
  | _=>bad
 ok e R TX h hf hi:=by
  cases e with
  | If c a b p=>exact b79 (R.tx h _) (O4 R h hf) (O4 R h hf)
  | _=>exact K0
 runK q _ _ lc e ρ _ k:=match e with
  | .If c a b _=>q.t lc c ρ λz=>if z=true then u4 q lc a ρ k else u4 q lc b ρ k
  | _=>bad
 eq e ρ _ k h:=by
  cases e with
  | If c a b p=>simp only [h.t,a0v h,bind_assoc,j8]
  | _=>rfl
noncomputable def b1g (lc:Lc) (x:Str):Bool:=(j0 lc.N x).isSome&&a22 lc.sc x
noncomputable def a25 (lc:Lc) (x:Str) (ρ:Env) (d:D):M Fl:=match j0 lc.N x with
 | some i=>ret (.nx (ρ.set i (some d)))
 | none=>bad
noncomputable def C0 (lc:Lc) (x:Str) (ρ:Env) (d:D) {α:Type} (k:Fl->M α):M α:=match j0 lc.N x with
 | some i=>k (.nx (ρ.set i (some d)))
 | none=>bad
theorem a4p (lc:Lc) (x:Str) (ρ:Env) (d:D) {α:Type} (k:Fl->M α):bind (a25 lc x ρ d) k=C0 lc x ρ d k:=by
 unfold a25 C0
 cases j0 lc.N x <;> rfl
theorem a5i {T:Tx} {k:Nat} {lc:Lc} {X:Cx} {xe:Addr->Hp->Prop} {x:Str} {p pos:Pos} {e:Expr} {f:Env->M D} (h:CxOk T k lc X) (hf:lc.fr=true) (hn:b1g lc x=true) (he:PE X e (tD X.K T.cl xe f)) (hc:y9 e=true):PS X (.Assign [.Name x p] e pos) (sD X.K T.cl xe λρ=>bind (f ρ) (a25 lc x ρ)):=by
 rw [b1g,Bool.and_eq_true,Option.isSome_iff_exists] at hn
 obtain ⟨⟨i,hi⟩,hl⟩:=hn
 have:=b5t (pos:=pos) (pos':=p) h.nd' (by rw [h.N];exact B7 hi) (by rw [h.sc];exact T6 hl) he hc (.inl (h.fn1 hf))
 have e:a25 lc x=λρ d=>ret (.nx (ρ.set i (some d))):=by funext ρ d;simp only [a25,hi]
 rw [e];exact this
noncomputable def c3h:RuS where
 is _ lc e:=match e with
  | .Assign [.Name x _] e _=>b1g lc x&&y9 e
  | _=>false
 run r _ _ lc e ρ:=match e with
  | .Assign [.Name x _] e _=>bind (r.e lc e ρ) (a25 lc x ρ)
  | _=>bad
 ok e R TX h hf hi:=by
  split at hi
  ·rw [Bool.and_eq_true] at hi
   exact a5i h hf hi.1 (R.ex h _) hi.2
  ·cases hi
 runK q _ _ lc e ρ _ k:=match e with
  | .Assign [.Name x _] e _=>q.e lc e ρ λd=>C0 lc x ρ d k
  | _=>bad
 eq e ρ _ k h:=by
  split
  ·simp only [h.e,bind_assoc,a4p]
  ·first
   | rfl
   | (rename_i hn;split;exact (hn _ _ _ _ rfl).elim;rfl)
noncomputable def c1t:RuS where
 is _ lc e:=match e with
  | .Assign [.Name x _] (.List es _) _=>b1g lc x&&decide (x∈lc.mu)&&es.all b5
  | _=>false
 run r _ _ lc e ρ:=match e with
  | .Assign [.Name x _] (.List es _) _=>bind (bind (A5 r lc es ρ) w9) (a25 lc x ρ)
  | _=>bad
 ok e R TX h hf hi:=by
  split at hi
  ·rw [Bool.and_eq_true,Bool.and_eq_true] at hi
   exact a5i h hf hi.1.1 (a0t (o0 R h hi.2)) rfl
  ·cases hi
 runK q _ _ lc e ρ _ k:=match e with
  | .Assign [.Name x _] (.List es _) _=>C5 q lc es ρ λds=>bind (w9 ds) λd=>C0 lc x ρ d k
  | _=>bad
 eq e ρ _ k h:=by
  split
  ·simp only [v2 h,bind_assoc,a4p]
  ·first
   | rfl
   | (rename_i hn;split;exact (hn _ _ _ _ _ rfl).elim;rfl)
noncomputable def a89:RuS where
 is Γ lc e:=match e with
  | .Assign [.Name x _] (.Call (.Name y _) [a] [] _) _=>b1g lc x&&decide (x∈lc.mu)&&decide (y = "list")&&(Γ.gl.lookup ("list" : Str)).isNone&&glB lc.sc "list" && b5 a
  | _=>false
 run r _ _ lc e ρ:=match e with
  | .Assign [.Name x _] (.Call (.Name _ _) [a] [] _) _=>bind (bind (r.e lc a ρ) listP) (a25 lc x ρ)
  | _=>bad
 ok {T k r Γ C lc X} e R TX h hf hi:=by
  split at hi
  ·rename_i x p y p2 a pos2 pos
   simp only [Bool.and_eq_true,decide_eq_true_eq,Option.isNone_iff_eq_none] at hi
   obtain ⟨⟨⟨⟨⟨h1,h2⟩,rfl⟩,c1⟩,c2⟩,c3⟩:=hi
   refine a5i h hf h1 ?_ rfl
   exact PE.imp (a3g b5z (h.gl c2) (TX.none h (by decide) c1) (by rfl) (X3 (R.ex h a) a1r c3) (by decide) (by decide) (by simp [c3])) λσ H Q ⟨μ,S,ρ,eo,rp,p⟩=>⟨μ,S,ρ,eo,rp,by
    have e:(bind (bind (r.e lc a ρ) λd=>bind (ret []) λds=>ret (d :: ds)) (one listP))=bind (r.e lc a ρ) listP:=by rw [bind_assoc];rfl
    show Post X.K T.cl (xOf X) μ H ((bind (bind (r.e lc a ρ) λd=>bind (ret []) λds=>ret (d :: ds)) (one listP)) S) _
    rw [e];exact p⟩
  ·cases hi
 runK q _ _ lc e ρ _ k:=match e with
  | .Assign [.Name x _] (.Call (.Name _ _) [a] [] _) _=>q.e lc a ρ λz=>bind (listP z) λd=>C0 lc x ρ d k
  | _=>bad
 eq e ρ _ k h:=by
  split
  ·simp only [h.e,bind_assoc,a4p]
  ·first
   | rfl
   | (rename_i hn;split;exact (hn _ _ _ _ _ _ _ rfl).elim;rfl)
noncomputable def i9 (lc:Lc):List Expr->Option (List Nat)
 | []=>some []
 | .Name x _ :: ts=>if a22 lc.sc x=true then (match j0 lc.N x,i9 lc ts with
   | some i,some is=>some (i :: is)
   | _,_=>none) else none
 | _=>none
theorem M7 {T:Tx} {k:Nat} {lc:Lc} {X:Cx} (h:CxOk T k lc X) (hf:lc.fr=true):∀ {ts:List Expr} {is:List Nat},i9 lc ts=some is->F9 X ts is
 | [],is,e=>by cases e;exact True.intro
 | t :: ts,is,e=>by
  cases t with
  | Name x p=>
   simp only [i9] at e
   by_cases hl:a22 lc.sc x=true
   ·simp only [if_pos hl] at e
    cases e1:j0 lc.N x with
    | none=>rw [e1] at e;cases e
    | some i=>
     cases e2:i9 lc ts with
     | none=>rw [e1,e2] at e;cases e
     | some is'=>
      rw [e1,e2] at e;cases e
      exact ⟨by rw [h.N];exact B7 e1,by rw [h.sc];exact T6 hl,.inl (h.fn1 hf),M7 h hf e2⟩
   ·simp only [if_neg hl] at e;cases e
  | _=>simp only [i9] at e;cases e
noncomputable def c31:RuS where
 is _ lc e:=match e with
  | .Assign [.Tuple ts _ _] e _=>(i9 lc ts).isSome&&y9 e&&a8z e&&!quiet lc
  | _=>false
 run r _ _ lc e ρ:=match e with
  | .Assign [.Tuple ts _ _] e _=>(match i9 lc ts with
   | some is=>bind (r.e lc e ρ) λd=>Q8 (C6 is) d ρ
   | none=>bad)
  | _=>bad
 ok {T k r Γ C lc X} e R TX h hf hi:=by
  split at hi
  ·rename_i ts n p e pos
   simp only [Bool.and_eq_true,Bool.not_eq_true'] at hi
   obtain ⟨⟨⟨h1,h2⟩,h3⟩,h4⟩:=hi
   show PS X _ (sD X.K T.cl (xOf X) λρ=>(match i9 lc ts with
    | some is=>bind (r.e lc e ρ) λd=>Q8 (C6 is) d ρ
    | none=>bad))
   cases e1:i9 lc ts with
   | none=>exact K0
   | some is=>exact b4v (h.calm h4) h.nd' (M7 h hf e1) (R.ex h _) h2 h3
  ·cases hi
 runK q _ _ lc e ρ _ k:=match e with
  | .Assign [.Tuple ts _ _] e _=>(match i9 lc ts with
   | some is=>q.e lc e ρ λd=>bind (Q8 (C6 is) d ρ) k
   | none=>bad)
  | _=>bad
 eq {r q Γ C lc} e ρ _ k h:=by
  split
  ·rename_i ts n p e pos
   cases i9 lc ts with
   | none=>rfl
   | some is=>simp only [h.e,bind_assoc]
  ·first
   | rfl
   | (rename_i hn;split;exact (hn _ _ _ _ _ rfl).elim;rfl)
noncomputable def c0c:RuS where
 is _ _ e:=match e with
  | .Assign [.Subscript _ b _] e _=>y9 e&&C2 b
  | _=>false
 run r _ _ lc e ρ:=match e with
  | .Assign [.Subscript a b _] e _=>bind (r.e lc e ρ) λv=>bind (r.e lc a ρ) λx=>bind (r.e lc b ρ) λy=>bind (K1 x y v) λ_=>ret (.nx ρ)
  | _=>bad
 ok e R TX h hf hi:=by
  split at hi
  ·rw [Bool.and_eq_true] at hi
   exact a9r h.u1 (R.ex h _) (R.ex h _) (R.ex h _) hi.1 hi.2
  ·cases hi
 runK q _ _ lc e ρ _ k:=match e with
  | .Assign [.Subscript a b _] e _=>q.e lc e ρ λv=>q.e lc a ρ λx=>q.e lc b ρ λy=>bind (K1 x y v) λ_=>k (.nx ρ)
  | _=>bad
 eq e ρ _ k h:=by
  split
  ·simp only [h.e,bind_assoc,e9]
  ·first
   | rfl
   | (rename_i hn;split;exact (hn _ _ _ _ _ rfl).elim;rfl)
noncomputable def tgE (lc:Lc) (tgt:Expr):Option (D->Env->Option Env):=match tgt with
 | .Name x _=>if a22 lc.sc x=true then (j0 lc.N x).map λi=>λd ρ=>some (ρ.set i (some d)) else none
 | .Tuple ts _ _=>(i9 lc ts).map C6
 | _=>none
theorem c1f {T:Tx} {k:Nat} {lc:Lc} {X:Cx} (h:CxOk T k lc X) (hf:lc.fr=true) (hq:quiet lc=false) {tgt:Expr} {tg:D->Env->Option Env} (e:tgE lc tgt=some tg):PG X tgt (b5e X.K T.cl tg):=by
 unfold tgE at e
 split at e
 ·rename_i x p
  by_cases hl:a22 lc.sc x=true
  ·simp only [if_pos hl] at e
   cases e1:j0 lc.N x with
   | none=>rw [e1] at e;cases e
   | some i=>rw [e1] at e;cases e;exact b0v h.nd' (by rw [h.N];exact B7 e1) (by rw [h.sc];exact T6 hl) (.inl (h.fn1 hf))
  ·simp only [if_neg hl] at e;cases e
 ·rename_i ts n p
  cases e1:i9 lc ts with
  | none=>rw [e1] at e;cases e
  | some is=>rw [e1] at e;cases e;exact a1p (h.calm hq) h.nd' (M7 h hf e1)
 ·cases e
noncomputable def c35:RuS where
 is _ lc e:=match e with
  | .For _ iter _ [] _=>u0 iter&&!quiet lc
  | _=>false
 run r _ _ lc e ρ:=match e with
  | .For tgt iter body [] _=>(match tgE lc tgt with
   | some tg=>bind (r.i lc tgt iter ρ) λp=>v8 p.1 tg (Y5 r lc body) p.2 0 ρ
   | none=>bad)
  | _=>bad
 ok {T k r Γ C lc X} e R TX h hf hi:=by
  split at hi
  ·rename_i tgt iter body pos
   simp only [Bool.and_eq_true,Bool.not_eq_true'] at hi
   show PS X _ (sD X.K T.cl (xOf X) λρ=>(match tgE lc tgt with
    | some tg=>bind (r.i lc tgt iter ρ) λp=>v8 p.1 tg (Y5 r lc body) p.2 0 ρ
    | none=>bad))
   cases e:tgE lc tgt with
   | none=>exact K0
   | some tg=>exact b5y h.po (h.calm hi.2) (R.ix h _ _) (c1f h hf hi.2 e) (O4 R h hf) hi.1
  ·cases hi
 runK q _ _ lc e ρ _ k:=match e with
  | .For tgt iter body [] _=>(match tgE lc tgt with
   | some tg=>q.i lc tgt iter ρ λp=>bind (v8 p.1 tg (λρ'=>u4 q lc body ρ' ret) p.2 0 ρ) k
   | none=>bad)
  | _=>bad
 eq {r q Γ C lc} e ρ _ k h:=by
  split
  ·rename_i tgt iter body pos
   cases tgE lc tgt with
   | none=>rfl
   | some tg=>
    have:(λρ'=>u4 q lc body ρ' ret)=Y5 r lc body:=funext λρ'=>by rw [a0v h,T3]
    simp only [h.i,bind_assoc,this]
  ·first
   | rfl
   | (rename_i hn;split;exact (hn _ _ _ _ rfl).elim;rfl)
structure Fd where
 ps:List Str
 N:List Str
 sc:Scope
 body:List Stmt
 mu:List Str
noncomputable def O2 (N:List Str) (ds:List D):Env:=ds.map some++List.replicate (N.length-ds.length) none
noncomputable def endD (fl:Fl):M D:=match fl with
 | .rt d=>ret d
 | .nx _=>ret .non
 | _=>bad
noncomputable abbrev J4 (fd:Fd):Lc:=⟨fd.N,fd.sc,true,fd.mu⟩
noncomputable def J3 (Rs:Rules) (Γ:Gm) (Tb:List Fd):Nat->Nat->List D->M D
 | 0,_,_=>bad
 | k+1,i,ds=>match Tb[i]? with
  | none=>bad
  | some fd=>if ds.length=fd.ps.length then bind (Y5 (ev Rs Γ (J3 Rs Γ Tb k) 40) (J4 fd) fd.body (O2 fd.N ds)) endD else bad
structure FnTx (T:Tx) (x:Str) (fd:Fd):Prop where
 ex:∃ (f:Addr) (da:FuncData) (qual:Str) (st:Stmt),Fun T.K x qual st f da/\k7 st=fd.body/\b8 st=fd.sc/\FnScope fd.N fd.ps fd.sc/\Binds T.K da fd.ps []/\T.mg x=some (.ref f)
theorem a2p {K:PySem.W.Frag} {μ:Mp} {H:Hp} {N:List Str} {ds:List D} {vs:List V} (r:RDs K μ H ds vs):EnvOk K μ H (O2 N ds) (L2.start N vs):=by
 unfold O2 L2.start
 refine ⟨by simp [r.length],λi d e=>?_⟩
 by_cases hi:i<ds.length
 ·rw [List.getElem?_append_left (by simpa using hi),List.getElem?_map] at e
  cases q:ds[i]? with
  | none=>rw [q] at e;cases e
  | some d'=>
   rw [q] at e;cases e
   obtain ⟨v,e1,r1⟩:=r.get q
   refine ⟨v,?_,r1⟩
   rw [List.getElem?_append_left (by rw [List.length_map,<- r.length];exact hi),List.getElem?_map,e1];rfl
 ·rw [List.getElem?_append_right (by simpa using Nat.le_of_not_lt hi),List.getElem?_replicate] at e
  split at e <;> cases e
section
variable {P:Program} {w:World} {K:PySem.W.Frag} {mg:Str->Option Value} {base:Heap}
theorem b06 {CX:CXT} {x qual:Str} {st:Stmt} {f:Addr} {fd:FuncData} {N ps:List Str} {k:Nat} {sp:Sp} (F:Fun K x qual st f fd) (S:FnScope N ps (b8 st)) (len:∀ vs H Q E,sp vs H Q E->vs.length=ps.length)
  (hbody:∀ (cdv:Value) (A:Around) (outer:List PySem.Env) (s:Shared) (H:Hp) (vs:List V) (Q:VK) (E:XK),Room CX.q k (A.deeper (envOfC qual (b8 st) s.heap.objs.size f cdv))->sp vs H Q E ->
   ∃ t,PSs (Y2 CX P w K mg base N qual (b8 st) f cdv A outer s H E) (k7 st) t/\t { nx:=λ_ H'=>Q .non H',rt:=Q } (start N vs) H):FnOk P w K mg base CX (k+1) f fd ps sp:=by
 obtain ⟨oc,od,kV,doc,pm,an,cdv,ct,osl,rfl,lk,hcd⟩:=F.ex
 exact c2c lk hcd S len λA outer s H vs Q E hr hsp=>hbody cdv A outer s H vs Q E hr hsp
theorem Post.fly {α:Type} {cl:Nat->Addr} {N:List Str} {qual:Str} {scope:Scope} {f:Addr} {cd:Value} {A:Around} {outer:List PySem.Env} {s:Shared} {H0 H:Hp} {E:XK} {μ:Mp} {r:R α} {G:α->Sto->Mp->Hp->Prop} (p:Post K cl (a9i E) μ H r G) :
  Post K cl (xOf (Y2 (CXd P w K) P w K mg base N qual scope f cd A outer s H0 E)) μ H r G:=by
 cases r with
 | ok a S=>exact p
 | bad=>exact p
 | exn n S=>
  intro μ' H' a l rp e pins σ s' C d tb I fx
  refine a5a (X:=Y2 (CXd P w K) P w K mg base N qual scope f cd A outer s H0 E) I I.ok.frames rfl rfl fx λH2 s2 T I2 fx2 m2=>?_
  obtain ⟨l2,r2⟩:=rp.mv I.hok e fx.at_ m2
  exact ⟨a,C,d,some T,H2,rfl,I2.os,I2.bare,I2.base,I2.hok,fx2,p μ' H2 a (l.trans l2) r2 e⟩
end
theorem FnOk.unX {P:Program} {w:World} {K:PySem.W.Frag} {mg:Str->Option Value} {base:Heap} {k n:Nat} {f:Addr} {fd:FuncData} {ps:List Str} {cl:Nat->Addr} {run:List D->M D} (F:FnOk P w K mg base (CXd P w K) k f fd ps (spX K cl n run)):FnOk P w K mg base (CXq false) k f fd ps (spD K cl n run):=
 ⟨λvs H Q E h=>F.len vs H Q E0 h,λA outer s H args us vs Q E hr e0 hb r h=>codeAny_mono (F.run A outer s H args us vs Q E0 hr e0 hb r h) λres s' hq=>by
  cases res with
  | ok fl=>cases fl <;> exact hq
  | error e=>obtain ⟨_,_,_,_,_,_,_,_,_,_,_,z⟩:=hq;exact z⟩
section
variable {Rs:Rules} {T:Tx} {Γ:Gm} {Tb:List Fd} {k i:Nat} {x qual:Str} {st:Stmt} {f:Addr} {da:FuncData} {fd:Fd}
theorem a3f (TX:TxOk T Γ (k+3) (J3 Rs Γ Tb k)) (hi:Tb[i]?=some fd) (F:Fun T.K x qual st f da) (h1:k7 st=fd.body) (h2:b8 st=fd.sc) (S:FnScope fd.N fd.ps fd.sc) (hq:quiet (J4 fd)=false) :
  FnOk T.P T.w T.K T.mg T.base (CXd T.P T.w T.K) (k+4) f da fd.ps (spX T.K T.cl fd.ps.length (J3 Rs Γ Tb (k+1) i)):=by
 have S':FnScope fd.N fd.ps (b8 st):=by rw [h2];exact S
 refine b06 (k:=k+3) F S' (λvs H Q E h=>h.1) λcdv A outer s H vs Q E hr hsp=>?_
 obtain ⟨hl,μ,S0,ds,rds,rp,p⟩:=hsp
 have cx:CxOk T (k+3) (J4 fd) (Y2 (CXd T.P T.w T.K) T.P T.w T.K T.mg T.base fd.N qual (b8 st) f cdv A outer s H E):=⟨rfl,rfl,rfl,rfl,rfl,rfl,S.nd,h2,λ_=>rfl,by rw [hq];exact hr,λe s' z=>wpAny_leaving_again (SameStack.refl _) z,rfl,S.kind,λ_ _=>⟨rfl,rfl⟩⟩
 have R:=a93 (Rs:=Rs) TX 40
 refine ⟨_,by rw [h1];exact O4 R cx rfl,?_⟩
 refine ⟨μ,S0,O2 fd.N ds,a2p rds,rp,?_⟩
 have hd:ds.length=fd.ps.length:=by rw [rds.length];exact hl
 simp only [J3,hi,if_pos hd] at p
 refine Post.fly (p.bind.imp λfl S1 μ1 H1 l1 r1 p1=>?_)
 cases fl with
 | nx ρ=>exact λσ _=>p1 μ1 H1 (Lat.refl _ _) r1 _ .non
 | rt d=>exact λv rv=>p1 μ1 H1 (Lat.refl _ _) r1 v rv
 | bk ρ=>exact False.elim p1
 | ct ρ=>exact False.elim p1
theorem a9t (TX:TxOk T Γ (k+3) (J3 Rs Γ Tb k)) (hi:Tb[i]?=some fd) (F:Fun T.K x qual st f da) (h1:k7 st=fd.body) (h2:b8 st=fd.sc) (S:FnScope fd.N fd.ps fd.sc) (hq:quiet (J4 fd)=true) :
  FnOk T.P T.w T.K T.mg T.base (CXq true) (k+4) f da fd.ps (spD T.K T.cl fd.ps.length (J3 Rs Γ Tb (k+1) i)):=by
 have S':FnScope fd.N fd.ps (b8 st):=by rw [h2];exact S
 refine b06 (k:=k+3) F S' (λvs H Q E h=>h.1) λcdv A outer s H vs Q E hr hsp=>?_
 obtain ⟨hl,μ,S0,ds,rds,rp,p⟩:=hsp
 have cx:CxOk T (k+3) (J4 fd) (Y2 (CXq true) T.P T.w T.K T.mg T.base fd.N qual (b8 st) f cdv A outer s H E).nox:=⟨rfl,rfl,rfl,rfl,rfl,rfl,S.nd,h2,λz=>(by rw [hq] at z;exact absurd z (by decide)),by rw [hq];exact hr,PassesOwn.never,rfl,S.kind,λ_ z=>(by rw [hq] at z;exact absurd z (by decide))⟩
 have R:=a93 (Rs:=Rs) TX 40
 refine ⟨_,by rw [h1];exact PSs.nox (PSs.x0 (O4 R cx rfl)),?_⟩
 refine ⟨μ,S0,O2 fd.N ds,a2p rds,rp,?_⟩
 have hd:ds.length=fd.ps.length:=by rw [rds.length];exact hl
 simp only [J3,hi,if_pos hd] at p
 refine p.bind.imp λfl S1 μ1 H1 l1 r1 p1=>?_
 cases fl with
 | nx ρ=>exact λσ _=>p1 μ1 H1 (Lat.refl _ _) r1 _ .non
 | rt d=>exact λv rv=>p1 μ1 H1 (Lat.refl _ _) r1 v rv
 | bk ρ=>exact False.elim p1
 | ct ρ=>exact False.elim p1
theorem b47 (TX:TxOk T Γ (k+3) (J3 Rs Γ Tb k)) (hi:Tb[i]?=some fd) (F:Fun T.K x qual st f da) (h1:k7 st=fd.body) (h2:b8 st=fd.sc) (S:FnScope fd.N fd.ps fd.sc) (hq:quiet (J4 fd)=false:=by rfl) :
  FnOk T.P T.w T.K T.mg T.base (CXq false) (k+4) f da fd.ps (spD T.K T.cl fd.ps.length (J3 Rs Γ Tb (k+1) i)):=FnOk.unX (a3f TX hi F h1 h2 S hq)
noncomputable def b6t (Γ:Gm) (Tb:List Fd):Bool:=(List.range Tb.length).all λi=>match Tb[i]? with
 | some fd=>quiet (J4 fd)==Γ.qs.contains i
 | none=>false
theorem a54 (h:b6t Γ Tb=true) (hi:Tb[i]?=some fd):quiet (J4 fd)=Γ.qs.contains i:=by
 unfold b6t at h
 have:=(List.all_eq_true.mp h) i (List.mem_range.mpr (List.getElem?_eq_some_iff.mp hi).1)
 rw [hi] at this
 simpa using this
end
structure TxSt (T:Tx) (Γ:Gm):Prop where
 blt:∀ x∈bnames,Γ.gl.lookup x=none->T.mg x=none
 val:∀ x d,Γ.gl.lookup x=some (.val d)->∃ u v,T.mg x=some u/\RelV v u/\∀ μ H,RD T.K μ H d v
 err:∀ x c fs,Γ.gl.lookup x=some (.err c fs)->ErrAt T x c fs/\(∀ g∈fs,D4 T.K (T.cl c) g)
 sub:∀ x c c0 fs,Γ.gl.lookup x=some (.err c0 fs)->XC T.K (T.cl c)->PySem.W.kitOne T.K (.ref (T.cl c)) (.ref (T.cl c0))=some (Γ.sub c c0)
 subV:∀ c,XC T.K (T.cl c)->PySem.W.kitOne T.K (.ref (T.cl c)) (.type "ValueError")=some true
 subT:∀ c,XC T.K (T.cl c)->∀ t∈tys,PySem.W.kitOne T.K (.ref (T.cl c)) (.type t)=some false
 fld:∀ g∈Γ.flds,∀ c,XC T.K (T.cl c)->D4 T.K (T.cl c) g
 dct:∀ x kvs,Γ.gl.lookup x=some (.dct kvs)->b03 T x kvs
def b1l (T:Tx) (Γ:Gm) (Tb:List Fd):Prop:=∀ x i n,Γ.gl.lookup x=some (.fn i n)->∃ fd,Tb[i]?=some fd/\fd.ps.length=n/\FnTx T x fd
theorem TxSt.ok {T:Tx} {Γ:Gm} (h:TxSt T Γ) {k:Nat} {C:Cf} (f:∀ x i n,Γ.gl.lookup x=some (.fn i n)->i∉Γ.qs->FnX T (k+3) i n x (C i)) (fq:∀ x i n,Γ.gl.lookup x=some (.fn i n)->i∈Γ.qs->FnAt T (k+3) i n x (C i)):TxOk T Γ (k+3) C:=⟨h.blt,h.val,f,fq,h.err,h.sub,h.subV,h.subT,h.fld,h.dct,by omega⟩
theorem b34 {Rs:Rules} {T:Tx} {Γ:Gm} {Tb:List Fd} (h:TxSt T Γ) (fs:b1l T Γ Tb) (k:Nat) (hq:b6t Γ Tb=true:=by rfl):TxOk T Γ (k+3) (J3 Rs Γ Tb k):=by
 induction k with
 | zero=>
  have bad:∀ x i n,Γ.gl.lookup x=some (.fn i n)->∃ (a:Addr) (fd:FuncData) (ps:List Str),ps.length=n/\(∀ CX,FnOk T.P T.w T.K T.mg T.base CX 3 a fd ps (spX T.K T.cl n (J3 Rs Γ Tb 0 i)))/\T.mg x=some (.ref a)/\PySem.W.keepIn T.K (.ref a)=true/\Binds T.K fd ps []:=λx i n e=>by
   obtain ⟨fd,h1,h2,h3⟩:=fs x i n e
   obtain ⟨f,da,qual,st,F,_,_,_,b,m⟩:=h3.ex
   refine ⟨f,da,fd.ps,h2,λCX=>⟨λvs H Q E h=>by rw [h2];exact h.1,λA outer s H args us vs Q E _ _ _ _ hsp=>?_⟩,m,F.kp,b⟩
   obtain ⟨_,μ,S,ds,_,_,p⟩:=hsp
   exact p.elim
  refine h.ok (λx i n e _=>?_) λx i n e _=>?_
  ·obtain ⟨a,fd,ps,h1,h2,h3⟩:=bad x i n e
   exact ⟨a,fd,ps,h1,h2 _,h3⟩
  ·obtain ⟨a,fd,ps,h1,h2,h3⟩:=bad x i n e
   exact ⟨a,fd,ps,h1,FnOk.imp (h2 _) (sp':=spD T.K T.cl n (J3 Rs Γ Tb 0 i)) λvs H Q E ⟨_,μ,S,ds,_,_,p⟩=>p.elim,h3⟩
 | succ k TX=>
  refine h.ok (k:=k+1) (λx i n e hn=>?_) λx i n e m=>?_
  ·obtain ⟨fd,h1,h2,h3⟩:=fs x i n e
   subst h2
   obtain ⟨f,da,qual,st,F,g1,g2,S,b,m2⟩:=h3.ex
   exact ⟨f,da,fd.ps,rfl,a3f TX h1 F g1 g2 S (by rw [a54 hq h1];simpa using hn),m2,F.kp,b⟩
  ·obtain ⟨fd,h1,h2,h3⟩:=fs x i n e
   subst h2
   obtain ⟨f,da,qual,st,F,g1,g2,S,b,m2⟩:=h3.ex
   exact ⟨f,da,fd.ps,rfl,a9t TX h1 F g1 g2 S (by rw [a54 hq h1];simpa using m),m2,F.kp,b⟩
noncomputable def runK (Rs:Rules) (Γ:Gm) (C:Cf) (fd:Fd) (ds:List D):M D:=if ds.length=fd.ps.length then u4 (evK Rs Γ C 40) ⟨fd.N,fd.sc,true,fd.mu⟩ fd.body (O2 fd.N ds) endD else bad
theorem c8 {Rs:Rules} {Γ:Gm} {Tb:List Fd} {k i:Nat} {fd:Fd} (h:Tb[i]?=some fd) (ds:List D):J3 Rs Γ Tb (k+1) i ds=runK Rs Γ (J3 Rs Γ Tb k) fd ds:=by
 simp only [J3,h,runK]
 split
 ·rw [a0v (b58 40)]
 ·rfl
noncomputable def a8y (a:Arguments):List Str:=a.args.map (·.arg)
noncomputable def b4p (ps:List Str) (sc:Scope):List Str:=ps++(sc.names.filter λy=>(y.2==.local||y.2==.cell)&&!ps.contains y.1).map (·.1)
noncomputable def u6 (st:Stmt) (mu:List Str):Fd:=⟨a8y (w8 st),b4p (a8y (w8 st)) (b8 st),b8 st,k7 st,mu⟩
noncomputable def a05 (fd:Fd):Bool:=decide (fd.sc.kind=.function)&&!fd.sc.isCoroutine&&!fd.sc.isGenerator&&decide fd.N.Nodup&&decide (fd.N.take fd.ps.length=fd.ps)&&fd.ps.all (λx=>a22 fd.sc x)&&fd.sc.names.all (λy=>decide (y.2≠.free))
theorem W2 {fd:Fd} (h:a05 fd=true):FnScope fd.N fd.ps fd.sc:=by
 simp only [a05,Bool.and_eq_true,decide_eq_true_eq,List.all_eq_true,Bool.not_eq_true'] at h
 obtain ⟨⟨⟨⟨⟨⟨h1,h2⟩,h3⟩,h4⟩,h5⟩,h6⟩,h7⟩:=h
 exact ⟨h1,h2,h3,h4,h5,λx hx=>T6 (h6 x hx),h7⟩
theorem _root_.L2.Inv.dr {X:Cx} {pins:List (Addr×Obj)} {σ:List (Option V)} {H:Hp} {s:Shared} (I:Inv X pins σ H s) (d:Drawn):Inv X pins σ H { s with drawn:=d }:=
 ⟨I.ok,I.os,I.bare,I.base,I.loc,I.cell,I.free,I.freeC,I.pin,I.hok,I.len⟩
noncomputable def A0 (ns:List Int):List Int:=HT.metKHt (λi=>ns.getD i 0) ns.length
theorem a14 (ns:List Int):(A0 ns).Nodup:=HT.metK_nd _ _
theorem uniq_mem {ns:List Int} {k:Int}:k∈A0 ns↔k∈ns:=by
 unfold A0
 rw [HT.metK_mem]
 constructor
 ·rintro ⟨j,h,e⟩
  rw [<- e]
  have:ns.getD j 0=ns[j]:=by simp [List.getD,h]
  rw [this];exact List.getElem_mem h
 ·intro h
  obtain ⟨j,hj,e⟩:=List.mem_iff_getElem.mp h
  exact ⟨j,hj,by simp [List.getD,hj,e]⟩
section
variable {X:Cx} {e:Expr} {te:TE} {p p2 pos pos2:Pos} {cl:Nat->Addr} {xe:Addr->Hp->Prop}
def b3i (K:PySem.W.Frag) (te:TE):TE:=λσ H Q=>te σ H λx H1=>∃ a ns,x=.ref a/\(SqL K H1 a (ns.map V.int)\/SqT K H1 a (ns.map V.int))/\(ns.length<4000/\(A0 ns).length<64)/\∀ p,H1 p=none->Q (.ref p) (upd H1 p (.lst ((srt (A0 ns)).map V.int)))
theorem a8k (hc:X.calm=true) (hl:Gl X "sorted") (ml:X.mg "sorted" = none) (hs:Gl X "set") (ms:X.mg "set" = none) (he:PE X e te) (hn:b5 e=true):PE X (.Call (.Name "sorted" p) [.Call (.Name "set" p2) [e] [] pos2] [] pos) (b3i X.K te):=by
 intro pins s σ H Q I h
 have hh:X.A.handled=none:=I.ok.hd hc
 refine wpAny_Call_Name_kw (y4 I hl ml (by rfl) ?_ (by decide) (by decide))
 refine PyProof.Rows.callWith_builtin1 ?_ rfl rfl
 show wpAny _ _ (spliced ((false,eval (.Call (.Name "set" p2) [e] [] pos2) X.env) :: backTo pos (starEach [] X.env))) _ _ s
 refine Calls.spliced_cons ?_
 refine wpAny_Call_Name_kw (y4 I hs ms (by rfl) ?_ (by decide) (by decide))
 refine PyProof.Rows.callWith_type1 ?_ (d5 hn) rfl
 rw [d5 hn]
 show wpAny _ _ (spliced ((false,eval e X.env) :: backTo pos2 (starEach [] X.env))) _ _ s
 refine Calls.spliced_cons (thn (he pins s σ H _ I h) λu s1 ⟨x,H1,I1,r1,a,ns,e1,hq,hz,q⟩=>?_)
 subst e1
 cases r1
 refine Calls.spliced_nil ?_
 have fin:∀ (its:List Value),its.length=ns.length->PyProof.Rows.IntsAre its ns->(s1.heap.IsTuple a its.toArray\/s1.heap.IsList a its.toArray) ->
   wpAny (model X.prog X.w) X.A (call (.type "set") [.ref a]) (λv z=>wpAny (model X.prog X.w) X.A (spliced (backTo pos (starEach [] X.env))) (λvs s2=>wpAny (model X.prog X.w) X.A (call (.builtin "sorted") (v :: vs)) (EP X pins σ Q) X.xe s2) X.xe z) X.xe s1:=λits hlen hi hsq=>by
  refine HT.callLHt (knd:=intKind X.prog X.w) (λi=>ns.getD i 0) hh hsq (λi v hv=>?_) (by rw [List.size_toArray,hlen];show ns.length+1<4096;have:=hz.1;omega) λg tk ⟨hS,hk⟩=>?_
  ·obtain ⟨t,rfl⟩:=PyProof.Rows.IntsAre.int_at hi i v (by rw [<- List.getElem?_toArray];exact hv)
   exact ⟨intKind_is _ _ _ _,rfl⟩
  ·refine Calls.spliced_nil ?_
   have sz:its.toArray.size=ns.length:=by rw [List.size_toArray,hlen]
   rw [sz] at hS
   refine HT.sortLHt (s:={ s1 with heap:=g,toks:=tk }) hh hS (HT.metK_nd _ _) hz.2 λz pp out ms c kp rs le hp b1 b2 b3=>?_
   have em:ms=srt (A0 ns):=a1e (b2.trans (b4 (A0 ns)).symm) b3 (P9 _)
   subst em
   have old:∀ b u,s1.heap.get? b=some u->z.heap.get? b=some u:=λb u eb=>kp b u (hk b u (Heap.lt_size eb) eb)
   have fresh:s1.heap.objs.size<=pp:=by
    refine Nat.le_trans ?_ le
    obtain ⟨_,_,_,_,ho,_⟩:=hS
    exact Nat.le_of_lt (Heap.lt_size ho)
   have hf:H1 pp=none:=I1.hok.fresh fresh
   have I2:=(I1.laid (t':=z.toks) (h':=z.heap) (o:=.lst ((srt (A0 ns)).map V.int)) old fresh ⟨by rw [List.length_map,(b4 _).length_eq,sizeLine_eq];have:=hz.2;omega,out.toList,c,O0 b1,by rw [Array.toArray_toList];exact hp⟩).dr z.drawn
   refine ⟨.ref pp,upd H1 pp (.lst ((srt (A0 ns)).map V.int)),?_,rfl,q pp hf⟩
   rw [rs]
   exact I2
 rcases hq with hq | hq
 ·obtain ⟨its,r',pl,hsz⟩:=I1.list hq
  have hlen:its.length=ns.length:=by rw [<- r'.length,List.length_map]
  exact fin its hlen (B6 r') (.inr pl.isList)
 ·obtain ⟨its,r',⟨ob,o1,o2,n,o3⟩,hsz⟩:=I1.tuple hq
  have hlen:its.length=ns.length:=by rw [<- r'.length,List.length_map]
  exact fin its hlen (B6 r') (.inl ⟨ob,o1,o2,n,o3⟩)
noncomputable def G0 (d:D):M D:=bind (u3 d) λds=>match j7 ds with
 | some ns=>if ns.length<4000/\(A0 ns).length<64 then ret (.lst ((srt (A0 ns)).map D.int)) else bad
 | none=>bad
theorem a8e {f:Env->M D} (hc:X.calm=true) (hl:Gl X "sorted") (ml:X.mg "sorted" = none) (hs:Gl X "set") (ms:X.mg "set" = none) (he:PE X e (tD X.K cl xe f)) (hn:b5 e=true):PE X (.Call (.Name "sorted" p) [.Call (.Name "set" p2) [e] [] pos2] [] pos) (tD X.K cl xe λρ=>bind (f ρ) G0):=
 PE.imp (a8k hc hl ml hs ms he hn) λσ H Q ⟨μ,S,ρ,eo,rp,p⟩=>⟨μ,S,ρ,eo,rp,p.bind.imp λd S1 μ1 H1 l1 r1 p1 v rv=>by
  obtain ⟨a,xs,ds,rfl,h1,h2,e2⟩:=E5 rv r1 p1.bind
  have p1:=p1.ok_bind e2
  cases e3:j7 ds with
  | none=>rw [e3] at p1;exact p1.elim
  | some ns=>
   rw [e3] at p1
   obtain ⟨hz,p1⟩:=Post.guard p1
   have:=A4 e3 h2
   subst this
   refine ⟨a,ns,rfl,h1,hz,λz hz=>?_⟩
   obtain ⟨l,rp2,rd2⟩:=w5 r1 (RDs.ints (srt (A0 ns))) hz
   exact p1 μ1 _ l rp2 _ rd2⟩
end
noncomputable def b3j:RuE where
 is Γ lc e:=match e with
  | .Call (.Name x _) [.Call (.Name y _) [a] [] _] [] _=>decide (x = "sorted")&&decide (y = "set")&&(Γ.gl.lookup ("sorted" : Str)).isNone&&(Γ.gl.lookup ("set" : Str)).isNone&&glB lc.sc "sorted" && glB lc.sc "set" && !quiet lc&&b5 a
  | _=>false
 run r _ _ lc e ρ:=match e with
  | .Call (.Name _ _) [.Call (.Name _ _) [a] [] _] [] _=>bind (r.e lc a ρ) G0
  | _=>bad
 ok {T k r Γ C lc X} e R TX h hi:=by
  split at hi
  ·simp only [Bool.and_eq_true,decide_eq_true_eq,Option.isNone_iff_eq_none,Bool.not_eq_true'] at hi
   obtain ⟨⟨⟨⟨⟨⟨⟨rfl,rfl⟩,h1⟩,h2⟩,h3⟩,h4⟩,h5⟩,h6⟩:=hi
   exact a8e (h.calm h5) (h.gl h3) (TX.none h (by decide) h1) (h.gl h4) (TX.none h (by decide) h2) (R.ex h _) h6
  ·cases hi
 runK q _ _ lc e ρ _ k:=match e with
  | .Call (.Name _ _) [.Call (.Name _ _) [a] [] _] [] _=>q.e lc a ρ λd=>bind (G0 d) k
  | _=>bad
 eq e ρ _ k h:=by
  split
  ·simp only [h.e,bind_assoc]
  ·first
   | rfl
   | (rename_i hn;split;exact (hn _ _ _ _ _ _ _ rfl).elim;rfl)
noncomputable def b7h (sc:Scope) (ts:List Expr):Bool:=match ts with
 | [.Name x _,.Name y _]=>!(sc.names.lookup x==some .local)||!(sc.names.lookup y==some .local)
 | _=>false
theorem b26 {env:PySem.Env} {ts es:List Expr} {k k2:Nat} {p p2:Pos} (h:b7h env.scope ts=true):swappedStores [.Tuple ts k p] (.Tuple es k2 p2) env=pure none:=by
 unfold b7h at h
 split at h
 ·rename_i x px y py
  have hx:∀ z,env.kindOf z=env.scope.names.lookup z:=λz=>rfl
  unfold swappedStores
  simp only
  repeat' (first | rfl | split)
  all_goals
   rename_i _ _ c _ _
   refine absurd ?_ c
   simp only [List.filterMap_cons,List.filterMap_nil,hx]
   cases h1:(env.scope.names.lookup x==some NameKind.local) <;> cases h2:(env.scope.names.lookup y==some NameKind.local) <;> rw [h1,h2] at h
   ·rfl
   ·simp only [Bool.false_and,Bool.true_and,Bool.false_eq_true,if_false]
    split <;> rfl
   ·simp only [Bool.false_and,Bool.true_and,Bool.false_eq_true,if_false]
    split <;> rfl
   ·cases h
 ·cases h
noncomputable def c0b:RuS where
 is _ lc e:=match e with
  | .Assign [.Tuple ts _ _] (.Tuple es _ _) _=>(i9 lc ts).isSome&&b7h lc.sc ts&&!quiet lc
  | _=>false
 run r _ _ lc e ρ:=match e with
  | .Assign [.Tuple ts _ _] (.Tuple es k p) _=>(match i9 lc ts with
   | some is=>bind (r.e lc (.Tuple es k p) ρ) λd=>Q8 (C6 is) d ρ
   | none=>bad)
  | _=>bad
 ok {T k r Γ C lc X} e R TX h hf hi:=by
  split at hi
  ·rename_i ts n p es k2 p2 pos
   simp only [Bool.and_eq_true,Bool.not_eq_true'] at hi
   obtain ⟨⟨h1,h2⟩,h4⟩:=hi
   rw [<- h.sc] at h2
   show PS X _ (sD X.K T.cl (xOf X) λρ=>(match i9 lc ts with
    | some is=>bind (r.e lc (.Tuple es k2 p2) ρ) λd=>Q8 (C6 is) d ρ
    | none=>bad))
   cases e1:i9 lc ts with
   | none=>exact K0
   | some is=>
    exact PS.imp (a4i (R.ex h _) (a1p (cl:=T.cl) (h.calm h4) h.nd' (M7 h hf e1)) (by unfold swapsWithSole;exact D2 rfl) (b26 h2) rfl) λD σ H ⟨μ,S,ρ,eo,rp,p⟩=>
     ⟨μ,S,ρ,eo,rp,p.bind.imp λd S1 μ1 H1 l1 r1 p1 v rv=>by
      cases e1:C6 is d ρ with
      | none=>simp only [Q8,e1] at p1;exact p1.elim
      | some ρ'=>simp only [Q8,e1] at p1;exact ⟨μ1,S1,ρ,d,ρ',eo.later l1,r1,rv,e1,p1.ret μ1 H1 (Lat.refl _ _) r1⟩⟩
  ·cases hi
 runK q _ _ lc e ρ _ k:=match e with
  | .Assign [.Tuple ts _ _] (.Tuple es k2 p) _=>(match i9 lc ts with
   | some is=>q.e lc (.Tuple es k2 p) ρ λd=>bind (Q8 (C6 is) d ρ) k
   | none=>bad)
  | _=>bad
 eq {r q Γ C lc} e ρ _ k h:=by
  split
  ·rename_i ts n p es k2 p2 pos
   cases i9 lc ts with
   | none=>rfl
   | some is=>simp only [h.e,bind_assoc]
  ·first
   | rfl
   | (rename_i hn;split;exact (hn _ _ _ _ _ _ _ rfl).elim;rfl)
noncomputable def a0a (b:Bool):Int:=if b=true then 1 else 0
noncomputable def a19 (b:Bool):Str:=if b=true then "True" else "False"
noncomputable def y8 (x y:D):M D:=match x,y with
 | .bl b,.int j=>ret (.int (a0a b+j))
 | x,y=>C8 x y
noncomputable def a1k (x y:D):M D:=match x,y with
 | .bl b,.int j=>ret (.int (a0a b-j))
 | x,y=>M5 x y
noncomputable def b5l (d:D):M D:=match d with
 | .bl b=>ret (.str (a19 b))
 | d=>c4s d
section
variable {X:Cx} {cl:Nat->Addr} {xe:Addr->Hp->Prop}
theorem b9w:OpR X (binaryOp .Add) (rP2 X.K cl xe y8):=by
 intro pins s σ H x y v u Q I rx ry ⟨μ,S,d,e,rd,re,rp,p⟩
 cases d
 case bl b=>
  cases e
  case int j=>
   cases rd;cases re
   cases rx
   obtain ⟨t',rfl⟩:=ry
   exact IntBool.add_bool_int ⟨.int (a0a b+j),H,I.tok _,⟨_,rfl⟩,p μ H (Lat.refl _ _) rp _ (.int _)⟩
  all_goals exact b0i pins s σ H x y v u Q I rx ry ⟨μ,S,_,_,rd,re,rp,p⟩
 all_goals exact b0i pins s σ H x y v u Q I rx ry ⟨μ,S,_,_,rd,re,rp,p⟩
theorem b8g:OpR X (binaryOp .Sub) (rP2 X.K cl xe a1k):=by
 intro pins s σ H x y v u Q I rx ry ⟨μ,S,d,e,rd,re,rp,p⟩
 cases d
 case bl b=>
  cases e
  case int j=>
   cases rd;cases re
   cases rx
   obtain ⟨t',rfl⟩:=ry
   exact IntBool.sub_bool_int ⟨.int (a0a b-j),H,I.tok _,⟨_,rfl⟩,p μ H (Lat.refl _ _) rp _ (.int _)⟩
  all_goals exact a9y pins s σ H x y v u Q I rx ry ⟨μ,S,_,_,rd,re,rp,p⟩
 all_goals exact a9y pins s σ H x y v u Q I rx ry ⟨μ,S,_,_,rd,re,rp,p⟩
theorem b7y:i5 X (.type "str") (rPs X.K cl xe (one b5l)):=D1 λpins s σ H μ S d v us Q I r rd rp p=>by
 cases rd with
 | int i=>
  obtain ⟨h,p⟩:=Post.guard p
  exact a1u pins s σ H _ us Q I r ⟨i,rfl,h,p μ H (Lat.refl _ _) rp _ (.str _)⟩
 | bl b=>
  obtain ⟨u,rfl,h⟩:=E1 r
  cases h
  exact PySem.P.str_of_bool ⟨.str (a19 b),H,I.tok _,⟨_,rfl⟩,p μ H (Lat.refl _ _) rp _ (.str _)⟩
 | _=>exact False.elim p
end
noncomputable def c1p:RuE where
 is _ lc e:=match e with
  | .BinOp _ .Add _ _=>decide (("b+" : Str)∈lc.mu)
  | _=>false
 run r _ _ lc e ρ:=match e with
  | .BinOp a .Add b _=>bind (r.e lc a ρ) λx=>bind (r.e lc b ρ) λy=>y8 x y
  | _=>bad
 ok e R TX h hi:=by
  split at hi
  ·exact a45 (R.ex h _) (R.ex h _) b9w
  ·cases hi
 runK q _ _ lc e ρ _ k:=match e with
  | .BinOp a .Add b _=>q.e lc a ρ λx=>q.e lc b ρ λy=>bind (y8 x y) k
  | _=>bad
 eq e ρ _ k h:=by
  split
  ·simp only [h.e,bind_assoc]
  ·first
   | rfl
   | (rename_i hn;split;exact (hn _ _ _ rfl).elim;rfl)
noncomputable def c0x:RuE where
 is _ lc e:=match e with
  | .BinOp _ .Sub _ _=>decide (("b+" : Str)∈lc.mu)
  | _=>false
 run r _ _ lc e ρ:=match e with
  | .BinOp a .Sub b _=>bind (r.e lc a ρ) λx=>bind (r.e lc b ρ) λy=>a1k x y
  | _=>bad
 ok e R TX h hi:=by
  split at hi
  ·exact a45 (R.ex h _) (R.ex h _) b8g
  ·cases hi
 runK q _ _ lc e ρ _ k:=match e with
  | .BinOp a .Sub b _=>q.e lc a ρ λx=>q.e lc b ρ λy=>bind (a1k x y) k
  | _=>bad
 eq e ρ _ k h:=by
  split
  ·simp only [h.e,bind_assoc]
  ·first
   | rfl
   | (rename_i hn;split;exact (hn _ _ _ rfl).elim;rfl)
noncomputable def c12:RuE:=rBt "str" "str" false (one b5l) (by decide) rfl λ_ _=>b7y
theorem a3 {α β:Type} {m:M α} {k:α->M β} {S S':Sto} {a:α} (e:m S=.ok a S'):bind m k S=k a S':=by unfold bind;rw [e]
theorem b1t {S:Sto} {p:Nat} {o o':O} (h:S[p]?=some o):(S.set p o')[p]?=some o':=List.getElem?_set_self (List.getElem?_eq_some_iff.mp h).1
theorem a6l (i j:Int) (S:Sto):C8 (.int i) (.int j) S=.ok (.int (i+j)) S:=rfl
theorem U5 {i j:Int} (h:0<j) (S:Sto):U3 (.int i) (.int j) S=.ok (.int (i % j)) S:=by simp only [U3,if_pos h,ret]
theorem a1z {i j:Int} (h:0<j) (h2:j<1073741824) (S:Sto):Q3 (.int i) (.int j) S=.ok (.int (i / j)) S:=by
 have hc:b11 i j:=⟨h,h2⟩
 simp only [Q3,if_pos hc,ret]
theorem a2h {i j:Int} (h:CMul i j) (S:Sto):R4 (.int i) (.int j) S=.ok (.int (i * j)) S:=by simp only [R4,if_pos h,ret]
theorem B3 (ns:List Int) (S:Sto):y0 (.lst (ns.map D.int)) S=.ok (.int ns.length) S:=by
 show R.ok (D.int ((ns.map D.int).length:Nat)) S=_
 rw [List.length_map]
theorem b5j {ns:List Int} {a:Int} (ha:0<=a) (hn:0<ns.length) (S:Sto):∃ z:Int,ixD (.lst (ns.map D.int)) (.int (a % (ns.length:Int))) S=.ok (.int z) S:=by
 have hb:(0:Int)<(ns.length:Int):=by omega
 have h0:=Int.emod_nonneg a (Int.ne_of_gt hb)
 have h1:=Int.emod_lt_of_pos a hb
 obtain ⟨j,hj⟩:=Int.eq_ofNat_of_zero_le h0
 have hj':j<ns.length:=by omega
 refine ⟨ns[j],?_⟩
 rw [hj]
 show V9 (atI (ns.map D.int) (j:Int)) S=_
 rw [a1c (v:=D.int ns[j]) (by rw [List.getElem?_map,List.getElem?_eq_getElem hj'];rfl)]
 rfl
theorem set_set {S:Sto} {p:Nat} {o o':O}:(S.set p o).set p o'=S.set p o':=List.set_set ..
theorem a6q (x:Str) (S:Sto):b6 .Eq (.str x) (.str x) S=.ok (.bl true) S:=by
 show R.ok (D.bl (decide (x=x))) S=_
 rw [decide_eq_true rfl]
theorem k8 (b:Bool) (S:Sto):asB (.bl b) S=.ok b S:=rfl
noncomputable def a6v (o:Option (Option Value)) (x:String):Bool:=match o with
 | some (some (.builtin y))=>decide (y=x)
 | _=>false
noncomputable def isNo (o:Option (Option Value)):Bool:=match o with
 | some none=>true
 | _=>false
theorem a60 {o:Option (Option Value)} (h:isNo o=true):o=some none:=by
 unfold isNo at h
 split at h
 ·rfl
 ·cases h
noncomputable def isB (o:Option Bool) (b:Bool):Bool:=match o with
 | some c=>c==b
 | none=>false
theorem a4d {o:Option Bool} {b:Bool} (h:isB o b=true):o=some b:=by
 unfold isB at h
 split at h
 ·rw [eq_of_beq h]
 ·cases h
noncomputable def xcB (K:PySem.W.Frag) (C:Addr):Bool:=
 a6v (PySem.W.findIn K (.ref C) "__getattribute__") "BaseException.__getattribute__" && (isNo (PySem.W.findIn K (.ref C) "__getattr__")&&(isB (PySem.W.mroIn K C (.type "BaseException")) true&&(isB (PySem.W.mroIn K C (.type "object")) true &&
 (PySem.W.hasDictIn K C&&(a6v (PySem.W.findIn K (.ref C) "__class__") "object.__class__" && (a6v (PySem.W.specialIn K (.builtin "object.__class__") "__get__") "getset_descriptor.__get__" && (isB (PySem.W.takesIn K (.builtin "object.__class__")) true &&
 (a27 K C&&((PySem.W.clsIn K C).any (λcd=>U4 cd.mro)&&(a6v (PySem.W.findIn K (.ref C) "__setattr__") "object.__setattr__" && PySem.W.keepIn K (.ref C)))))))))))
noncomputable def a03 (cs:List Addr) (junk:Addr) (c:Nat):Addr:=cs.getD c junk
structure RowB (K:PySem.W.Frag) (Γ:Gm) (cs:List Addr) (junk:Addr):Prop where
 xc:cs.all (xcB K)=true
 jk:a27 K junk=false
 sub:((List.range cs.length).all λc=>(List.range cs.length).all λc0=>isB (PySem.W.kitOne K (.ref (a03 cs junk c)) (.ref (a03 cs junk c0))) (Γ.sub c c0))=true
 sV:(cs.all λC=>isB (PySem.W.kitOne K (.ref C) (.type "ValueError")) true)=true
 sT:(cs.all λC=>tys.all λt=>isB (PySem.W.kitOne K (.ref C) (.type t)) false)=true
 fl:(Γ.flds.all λg=>cs.all λC=>isNo (PySem.W.findIn K (.ref C) g))=true
 bl:(bnames.all λx=>(Γ.gl.lookup x).isSome||isNo (PySem.W.nsIn K mainGlobals x))=true
theorem c10 {K:PySem.W.Frag} {cs:List Addr} {junk:Addr} (jk:a27 K junk=false) {c:Nat} (h:XC K (a03 cs junk c)):c<cs.length/\a03 cs junk c∈cs:=by
 by_cases hc:c<cs.length
 ·refine ⟨hc,?_⟩
  unfold a03
  rw [List.getD_eq_getElem?_getD,List.getElem?_eq_getElem hc]
  exact List.getElem_mem hc
 ·have e:a03 cs junk c=junk:=by
   unfold a03
   rw [List.getD_eq_getElem?_getD,List.getElem?_eq_none (Nat.le_of_not_lt hc)];rfl
  rw [e] at h
  have:=h.ex
  rw [jk] at this
  cases this
theorem RowB.st {T:Tx} {Γ:Gm} {cs:List Addr} {junk:Addr} {h:Heap} (B:RowB T.K Γ cs junk) (X:T.K.In h) (G:h.Ns mainGlobals T.mg) (hc:T.cl=a03 cs junk) (hv:∀ x d,Γ.gl.lookup x=some (.val d)->∃ u v,T.mg x=some u/\RelV v u/\∀ μ H,RD T.K μ H d v)
  (he:∀ x c fs,Γ.gl.lookup x=some (.err c fs)->c<cs.length/\ErrAt T x c fs/\∀ g∈fs,g∈Γ.flds) (hd:∀ x kvs,Γ.gl.lookup x=some (.dct kvs)->b03 T x kvs):TxSt T Γ:=by
 have mem:∀ c,XC T.K (T.cl c)->c<cs.length/\T.cl c∈cs:=λc xc=>by rw [hc] at xc ⊢;exact c10 B.jk xc
 have nf:∀ g∈Γ.flds,∀ c,XC T.K (T.cl c)->D4 T.K (T.cl c) g:=λg hg c xc=>by
  have:=(List.all_eq_true.mp B.fl) g hg
  exact a60 ((List.all_eq_true.mp this) _ (mem c xc).2)
 refine ⟨λx hx hn=>?_,hv,λx c fs e=>?_,λx c c0 fs e xc=>?_,λc xc=>?_,λc xc t ht=>?_,nf,hd⟩
 ·have:=(List.all_eq_true.mp B.bl) x hx
  rw [hn] at this
  exact PySem.W.mg_none_of X G (a60 this)
 ·obtain ⟨h1,h2,h3⟩:=he x c fs e
  exact ⟨h2,λg hg=>nf g (h3 g hg) c h2.xc⟩
 ·obtain ⟨h1,h2,h3⟩:=he x c0 fs e
  have a:=(List.all_eq_true.mp B.sub) c (List.mem_range.mpr (mem c xc).1)
  have b:=(List.all_eq_true.mp a) c0 (List.mem_range.mpr h1)
  rw [hc]
  exact a4d b
 ·exact a4d ((List.all_eq_true.mp B.sV) _ (mem c xc).2)
 ·have a:=(List.all_eq_true.mp B.sT) _ (mem c xc).2
  exact a4d ((List.all_eq_true.mp a) t ht)
def a1w (K:PySem.W.Frag):Sp:=λvs H Q _=>∃ (a:Addr) (ns:List Int),vs=[.ref a]/\SqL K H a (ns.map V.int)/\∀ H',Q (.bl true) H'
theorem a71 {K:PySem.W.Frag} {cl:Nat->Addr} {run:List D->M D} (hr:∀ ns:List Int,∃ S',run [.scr (ns.map D.int)] []=.ok (.bl true) S'):∀ vs H Q E,a1w K vs H Q E->spD K cl 1 run vs H Q E:=by
 rintro vs H Q E ⟨a,ns,rfl,hS,q⟩
 obtain ⟨S',e⟩:=hr ns
 refine ⟨rfl,⟨[],[]⟩,[],[.scr (ns.map D.int)],.cons (.scr ?_ (RDs.ints ns)) .nil,⟨rfl,by simp,λn o a e=>by simp at e,λa m=>by simp at m⟩,?_⟩
 ·rcases hS with h | h
  ·exact .inl ⟨h,by simp,by simp⟩
  ·exact .inr h
 ·rw [e]
  intro μ' H' l r v rv
  cases rv;exact q H'
structure GF (K:PySem.W.Frag) (x:Str) (st:Stmt) (g:Addr):Prop where
 a:PySem.W.nsIn K mainGlobals x=some (some (.ref g))
 f:∃ fd,Fun K x x st g fd
theorem gf_mk {K:PySem.W.Frag} {x:Str} {st:Stmt} {g:Addr} {oc:Value} {od an:Option Addr} {osl:Array (Option Value)} {kV doc pm cdv ct:Value} (a:PySem.W.nsIn K mainGlobals x=some (some (.ref g))) (l:K.lookup g=some ⟨oc,od,.func (PySem.W.fnOf x x (w8 st) (k7 st) (b8 st) .none kV doc pm an cdv ct),osl⟩) (c:PySem.W.codeIn K cdv x=true) (k:PySem.W.keepIn K (.ref g)=true):GF K x st g:=⟨a,_,b2f l c k⟩
theorem fe {T:Tx} {h:Heap} (X:T.K.In h) (G:h.Ns mainGlobals T.mg) {x:Str} {st:Stmt} {g:Addr} {m:List Str} {Tb:List Fd} {i n:Nat} (d:GF T.K x st g) (sc:a05 (u6 st m)=true) (hb:∀ (kV doc pm:Value) (an:Option Addr) (cdv ct:Value) (us:List Value),us.length=(u6 st m).ps.length->bindArgs (PySem.W.fnOf x x (w8 st) (k7 st) (b8 st) .none kV doc pm an cdv ct) ⟨us,[]⟩=pure ((u6 st m).ps.zip us)) (hT:Tb[i]?=some (u6 st m)) (hn:(u6 st m).ps.length=n):∃ fd,Tb[i]?=some fd/\fd.ps.length=n/\FnTx T x fd:=by
 obtain ⟨fd,F⟩:=d.f
 exact ⟨_,hT,hn,⟨g,_,_,st,F,rfl,rfl,W2 sc,F.binds hb,PySem.W.mg_of X G d.a⟩⟩
def b9l (T:Tx) (Tb:List Fd):List (Str×G)->Prop
 | []=>True
 | (x,.fn i n) :: l=>(∃ fd,Tb[i]?=some fd/\fd.ps.length=n/\FnTx T x fd)/\b9l T Tb l
 | _ :: l=>b9l T Tb l
theorem c0u {T:Tx} {Γ:Gm} {Tb:List Fd} (h:b9l T Tb Γ.gl):b1l T Γ Tb:=λx i n e=>by
 have m:=L2.mem_of_lookup e
 generalize Γ.gl=l at h m
 induction l with
 | nil=>cases m
 | cons y l ih=>
  obtain ⟨z,g⟩:=y
  rcases List.mem_cons.mp m with q | q
  ·cases q;exact h.1
  ·refine ih ?_ q
   cases g with
   | fn j k=>exact h.2
   | _=>exact h
theorem M9 {src:Src} {t:D->M Bool} {f:D->M D} {n:Nat} (I:Nat->Sto->List D->Prop) (hend:∀ S es,I n S es->src n S=some none)
  (step:∀ i S es,i<n->I i S es->∃ d b S1,src i S=some (some d)/\t d S=.ok b S1/\(if b=true then ∃ y S2,f d S1=.ok y S2/\es.length<sizeLine/\I (i+1) S2 (es++[y]) else I (i+1) S1 es)) :
  ∀ (k i:Nat) (S:Sto) (es:List D),k+i=n->I i S es->∃ es' S',f7 src t f (k+1) i es S=.ok es' S'/\I n S' es'
 | 0,i,S,es,hk,h=>by
  have:i=n:=by omega
  subst this
  refine ⟨es,S,?_,h⟩
  simp only [f7,hend S es h]
 | k+1,i,S,es,hk,h=>by
  obtain ⟨d,b,S1,e1,e2,h2⟩:=step i S es (by omega) h
  have un:f7 src t f (k+1+1) i es S=bind (t d) (λb=>if b=true then bind (f d) (λy=>if es.length<sizeLine then f7 src t f (k+1) (i+1) (es++[y]) else bad) else f7 src t f (k+1) (i+1) es) S:=by
   conv=>lhs;unfold f7
   simp only [e1]
  rw [un,a3 e2]
  cases b with
  | true=>
   rw [if_pos rfl] at h2 ⊢
   obtain ⟨y,S2,e3,hl,h3⟩:=h2
   rw [a3 e3,if_pos hl]
   exact M9 I hend step k (i+1) S2 _ (by omega) h3
  | false=>
   rw [if_neg Bool.false_ne_true] at h2 ⊢
   exact M9 I hend step k (i+1) S1 _ (by omega) h2
def Ok {α:Type} (m:M α) (S:Sto) (Q:α->Sto->Prop):Prop:=∃ a S',m S=.ok a S'/\Q a S'
section
variable {α β:Type} {S S1:Sto} {m m':M α} {k:α->M β} {a:α} {Q Q':α->Sto->Prop} {P:β->Sto->Prop}
theorem Ok.ret (h:Q a S):Ok (ret a) S Q:=⟨a,S,rfl,h⟩
theorem Ok.of (e:m S=.ok a S1) (h:Q a S1):Ok m S Q:=⟨a,S1,e,h⟩
theorem Ok.bind (h:Ok m S λa S1=>Ok (k a) S1 P):Ok (L3.bind m k) S P:=by
 obtain ⟨a,S1,e,b,S2,e2,q⟩:=h
 exact ⟨b,S2,by rw [a3 e];exact e2,q⟩
theorem Ok.eq (e:m S=.ok a S1) (h:Ok (k a) S1 P):Ok (L3.bind m k) S P:=Ok.bind ⟨a,S1,e,h⟩
theorem Ok.mono (h:Ok m S Q) (i:∀ a S1,Q a S1->Q' a S1):Ok m S Q':=by
 obtain ⟨a,S1,e,q⟩:=h
 exact ⟨a,S1,e,i _ _ q⟩
theorem Ok.cg (e:m=m') (h:Ok m' S Q):Ok m S Q:=e▸h
theorem Ok.cgS (e:m S=m' S) (h:Ok m' S Q):Ok m S Q:=by
 obtain ⟨a,S1,e1,q⟩:=h
 exact ⟨a,S1,by rw [e];exact e1,q⟩
end
theorem Ok.comp {src:Src} {t:D->M Bool} {f:D->M D} {n:Nat} (I:Nat->Sto->List D->Prop) (hend:∀ S es,I n S es->src n S=some none)
  (step:∀ i S es,i<n->I i S es->∃ d,src i S=some (some d)/\Ok (t d) S λb S1=>if b=true then Ok (f d) S1 λy S2=>es.length<sizeLine/\I (i+1) S2 (es++[y]) else I (i+1) S1 es) {S:Sto} (h:I 0 S []) :
  Ok (f7 src t f (n+1) 0 []) S λes S'=>I n S' es:=by
 obtain ⟨es,S',e,q⟩:=M9 (src:=src) (t:=t) (f:=f) (n:=n) I hend (λi S es hi h=>by
  obtain ⟨d,e1,b,S1,e2,q⟩:=step i S es hi h
  refine ⟨d,b,S1,e1,e2,?_⟩
  cases b with
  | true=>
   rw [if_pos rfl] at q ⊢
   obtain ⟨y,S2,e3,q1,q2⟩:=q
   exact ⟨y,S2,e3,q1,q2⟩
  | false=>
   rw [if_neg Bool.false_ne_true] at q ⊢
   exact q) n 0 S [] (by omega) h
 exact ⟨es,S',e,q⟩
def FlI (I:L3.Env->Sto->Prop) (J:L3.Env->Sto->Prop) (R:D->Sto->Prop) (fl:Fl) (S:Sto):Prop:=match fl with
 | .nx ρ=>I ρ S
 | .ct ρ=>I ρ S
 | .bk ρ=>J ρ S
 | .rt d=>R d S
theorem Ok.for_ {src:Src} {tg:D->L3.Env->Option L3.Env} {body:L3.Env->M Fl} {n:Nat} (I:Nat->L3.Env->Sto->Prop) (J:L3.Env->Sto->Prop) (R:D->Sto->Prop) (hend:∀ ρ S,I n ρ S->src n S=some none)
  (step:∀ i ρ S,i<n->I i ρ S->∃ d ρ1,src i S=some (some d)/\tg d ρ=some ρ1/\Ok (body ρ1) S (FlI (I (i+1)) J R)) :
  ∀ (k i:Nat) (ρ:L3.Env) (S:Sto),k+i=n->I i ρ S->Ok (v8 src tg body (k+1) i ρ) S λfl S'=>match fl with
   | .nx ρ'=>I n ρ' S'\/J ρ' S'
   | .rt d=>R d S'
   | _=>False
 | 0,i,ρ,S,hk,h=>by
  have:i=n:=by omega
  subst this
  exact ⟨.nx ρ,S,by simp only [v8,hend ρ S h],.inl h⟩
 | k+1,i,ρ,S,hk,h=>by
  obtain ⟨d,ρ1,e1,e2,h2⟩:=step i ρ S (by omega) h
  have un:v8 src tg body (k+1+1) i ρ S=L3.bind (body ρ1) (λfl=>match fl with
    | .nx ρ2=>v8 src tg body (k+1) (i+1) ρ2
    | .ct ρ2=>v8 src tg body (k+1) (i+1) ρ2
    | .bk ρ2=>L3.ret (.nx ρ2)
    | .rt d=>L3.ret (.rt d)) S:=by
   conv=>lhs;unfold v8
   simp only [e1,e2]
   all_goals rfl
  refine Ok.cgS un (Ok.bind (h2.mono λfl S1 q=>?_))
  cases fl with
  | nx ρ2=>exact Ok.for_ I J R hend step k (i+1) ρ2 S1 (by omega) q
  | ct ρ2=>exact Ok.for_ I J R hend step k (i+1) ρ2 S1 (by omega) q
  | bk ρ2=>exact Ok.ret (.inr q)
  | rt d=>exact Ok.ret q
theorem N5 {α:Type} {l:List α} {h g:α->D} {p:α->Bool} {t:D->M Bool} {f:D->M D} {S:Sto} (hl:l.length<sizeLine) (ht:∀ a∈l,t (h a) S=.ok (p a) S) (hf:∀ a∈l,p a=true->f (h a) S=.ok (g a) S):f7 (A3 (l.map h)) t f (l.length+1) 0 [] S=.ok ((l.filter p).map g) S:=by
 obtain ⟨es,S',e,e1,e2⟩:=Ok.comp (src:=A3 (l.map h)) (t:=t) (f:=f) (n:=l.length) (λi S' es=>S'=S/\es=((l.take i).filter p).map g) (λS es _=>by show some (l.map h)[l.length]?=some none;rw [List.getElem?_eq_none (by simp)])
  (λi S' es hi ⟨h1,h2⟩=>by
   subst h1 h2
   refine ⟨h l[i],?_,p l[i],S',ht _ (List.getElem_mem hi),?_⟩
   ·show some (l.map h)[i]?=some (some (h l[i]))
    rw [List.getElem?_map,List.getElem?_eq_getElem hi];rfl
   ·have ta:l.take (i+1)=l.take i++[l[i]]:=List.take_succ_eq_append_getElem hi
    cases hp:p l[i] with
    | true=>
     dsimp only
     rw [if_pos rfl]
     refine ⟨g l[i],S',hf _ (List.getElem_mem hi) hp,?_,rfl,?_⟩
     ·rw [List.length_map]
      have:=List.length_filter_le p (l.take i)
      have:=List.length_take_le i l
      omega
     ·rw [ta,List.filter_append,List.map_append,List.filter_cons_of_pos hp];rfl
    | false=>
     dsimp only
     rw [if_neg Bool.false_ne_true]
     refine ⟨rfl,?_⟩
     rw [ta,List.filter_append,List.filter_cons_of_neg (by rw [hp];exact Bool.false_ne_true),List.filter_nil,List.append_nil]) (S:=S) ⟨rfl,rfl⟩
 rw [e]
 subst e1 e2
 rw [List.take_length]
def Asc (x:Str):Prop:=∀ c∈x.cps.toList,c<128
noncomputable def y3 (j:Nat):Nat:=1000000000000000000000000000000000000000+j
mutual
def Pln (j:Nat):D->Prop
 | .non=>True
 | .bl _=>True
 | .int i=>i.natAbs<=y3 j
 | .str x=>x.length<=45+j/\Asc x
 | .tup ds=>Plns j ds
 | .lst ds=>Plns j ds
 | .scr _=>False
 | .ref _=>False
def Plns (j:Nat):List D->Prop
 | []=>True
 | d :: ds=>Pln j d/\Plns j ds
end
mutual
noncomputable def py:D->PyData
 | .non=>.none
 | .bl b=>.bool b
 | .int i=>.int i
 | .str x=>.str x
 | .tup ds=>.tuple (pys ds)
 | .lst ds=>.list (pys ds)
 | .scr _=>.none
 | .ref _=>.none
noncomputable def pys:List D->List PyData
 | []=>[]
 | d :: ds=>py d :: pys ds
end
mutual
noncomputable def dp:D->Nat
 | .tup ds=>dps ds+1
 | .lst ds=>dps ds+1
 | _=>0
noncomputable def dps:List D->Nat
 | []=>0
 | d :: ds=>max (dp d) (dps ds)
end
mutual
noncomputable def sz:D->Nat
 | .int _=>60
 | .str x=>10 * x.length+2
 | .tup ds=>szs ds+3
 | .lst ds=>szs ds+3
 | _=>5
noncomputable def szs:List D->Nat
 | []=>0
 | d :: ds=>sz d+2+szs ds
end
theorem Plns.mem {j:Nat}:∀ {ds:List D},Plns j ds->∀ d∈ds,Pln j d
 | _ :: _,h,d,hd=>by
  rcases List.mem_cons.mp hd with rfl | hd
  ·exact h.1
  ·exact Plns.mem h.2 d hd
theorem Plns.of {j:Nat}:∀ {ds:List D},(∀ d∈ds,Pln j d)->Plns j ds
 | [],_=>trivial
 | d :: ds,h=>⟨h d (List.mem_cons_self ..),Plns.of λe he=>h e (List.mem_cons_of_mem _ he)⟩
mutual
theorem Pln.up {j:Nat}:∀ (d:D),Pln j d->Pln (j+1) d
 | .non,_=>trivial
 | .bl _,_=>trivial
 | .int i,h=>by have h:i.natAbs<=y3 j:=h;show i.natAbs<=y3 (j+1);unfold y3 at *;omega
 | .str x,h=>⟨by have:=h.1;omega,h.2⟩
 | .tup ds,h=>Plns.up ds h
 | .lst ds,h=>Plns.up ds h
 | .scr _,h=>h.elim
 | .ref _,h=>h.elim
theorem Plns.up {j:Nat}:∀ (ds:List D),Plns j ds->Plns (j+1) ds
 | [],_=>trivial
 | d :: ds,h=>⟨Pln.up d h.1,Plns.up ds h.2⟩
end
theorem G2:∀ {ds:List D} {d:D},d∈ds->dp d<=dps ds
 | e :: ds,d,h=>by
  rcases List.mem_cons.mp h with rfl | h
  ·show dp d<=max (dp d) (dps ds);omega
  ·have:=G2 h
   show dp d<=max (dp e) (dps ds);omega
theorem P8 {n:Nat}:∀ {ds:List D},(∀ d∈ds,dp d<=n)->dps ds<=n
 | [],_=>Nat.zero_le _
 | d :: ds,h=>by
  have:=h d (List.mem_cons_self ..)
  have:=P8 (ds:=ds) λe he=>h e (List.mem_cons_of_mem _ he)
  show max (dp d) (dps ds)<=n;omega
theorem u5:∀ (xs ys:List D),szs (xs++ys)=szs xs+szs ys
 | [],_=>by simp [szs]
 | d :: xs,ys=>by
  show sz d+2+szs (xs++ys)=sz d+2+szs xs+szs ys
  rw [u5 xs ys];omega
theorem a62:∀ (xs:List D),szs xs.reverse=szs xs
 | []=>rfl
 | d :: xs=>by
  rw [List.reverse_cons,u5,a62 xs]
  show szs xs+(sz d+2+0)=sz d+2+szs xs;omega
theorem T9:∀ (xs:List D),2 * xs.length<=szs xs
 | []=>Nat.le_refl _
 | d :: xs=>by
  have:=T9 xs
  show 2 * (xs.length+1)<=sz d+2+szs xs;omega
theorem b1e (xs:List D) (i:Nat):szs (xs.take i)+szs (xs.drop i)=szs xs:=by
 rw [<- u5,List.take_append_drop]
theorem a6w {xs ys:List D} (h:xs.Sublist ys):szs xs<=szs ys:=by
 induction h with
 | slnil=>exact Nat.le_refl _
 | cons d _ ih=>show szs _<=sz d+2+szs _;omega
 | cons_cons d _ ih=>show sz d+2+szs _<=sz d+2+szs _;omega
theorem b1r {xs:List D} {i:Nat} {d:D} (h:xs[i]?=some d):szs xs=szs (xs.take i)+(sz d+2)+szs (xs.drop (i+1)):=by
 have hi:=(List.getElem?_eq_some_iff.mp h).1
 have e:xs=xs.take i++(d :: xs.drop (i+1)):=by
  have:=List.getElem?_eq_some_iff.mp h
  conv=>lhs;rw [<- List.take_append_drop i xs,List.drop_eq_getElem_cons hi]
  rw [this.2]
 conv=>lhs;rw [e,u5]
 show szs _+(sz d+2+szs _)=_;omega
mutual
theorem N1 {j:Nat} (S:Sto):∀ (d:D) (n:Nat),Pln j d->dp d<n->d9 n S d=some (py d)
 | .non,n+1,_,_=>rfl
 | .bl _,n+1,_,_=>rfl
 | .int _,n+1,_,_=>rfl
 | .str _,n+1,_,_=>rfl
 | .tup ds,n+1,h,hn=>by
  show (f9 (d9 n S) ds).map PyData.tuple=_
  rw [X4 S ds n h (by have:dps ds+1<n+1:=hn;omega)];rfl
 | .lst ds,n+1,h,hn=>by
  show (f9 (d9 n S) ds).map PyData.list=_
  rw [X4 S ds n h (by have:dps ds+1<n+1:=hn;omega)];rfl
 | .scr _,_,h,_=>h.elim
 | .ref _,_,h,_=>h.elim
 | .non,0,_,h=>by omega
 | .bl _,0,_,h=>by omega
 | .int _,0,_,h=>by omega
 | .str _,0,_,h=>by omega
 | .tup _,0,_,h=>by omega
 | .lst _,0,_,h=>by omega
theorem X4 {j:Nat} (S:Sto):∀ (ds:List D) (n:Nat),Plns j ds->dps ds<n->f9 (d9 n S) ds=some (pys ds)
 | [],n,_,_=>rfl
 | d :: ds,n,h,hn=>by
  have hn:max (dp d) (dps ds)<n:=hn
  simp only [f9,N1 S d n h.1 (by omega),X4 S ds n h.2 (by omega)]
  rfl
end
theorem b7i {x:Str} (h:Asc x):PyData.strOk x=true:=by
 unfold PyData.strOk
 rw [Array.all_eq_true']
 intro c hc
 have:=h c (by simpa using hc)
 exact decide_eq_true (by omega)
mutual
theorem a0s {j:Nat}:∀ d:D,Pln j d->(py d).canLay0=true
 | .non,_=>rfl
 | .bl _,_=>rfl
 | .int _,_=>rfl
 | .str x,h=>by show PyData.canLay0 (.str x)=true;simp only [PyData.canLay0];exact b7i h.2
 | .tup ds,h=>by show PyData.canLay0 (.tuple (pys ds))=true;simp only [PyData.canLay0];exact a06 ds h
 | .lst ds,h=>by show PyData.canLay0 (.list (pys ds))=true;simp only [PyData.canLay0];exact a06 ds h
 | .scr _,h=>h.elim
 | .ref _,h=>h.elim
theorem a06 {j:Nat}:∀ ds:List D,Plns j ds->PyData.canLayAll0 (pys ds)=true
 | [],_=>rfl
 | d :: ds,h=>by show PyData.canLayAll0 (py d :: pys ds)=true;simp only [PyData.canLayAll0,a0s d h.1,a06 ds h.2,Bool.and_self]
end
mutual
theorem X9:∀ d:D,(py d).depth<=dp d
 | .non=>by show PyData.depth .none<=_;simp [PyData.depth]
 | .bl b=>by show PyData.depth (.bool b)<=_;simp [PyData.depth]
 | .int i=>by show PyData.depth (.int i)<=_;simp [PyData.depth]
 | .str x=>by show PyData.depth (.str x)<=_;simp [PyData.depth]
 | .tup ds=>by show PyData.depth (.tuple (pys ds))<=dps ds+1;simp only [PyData.depth];have:=P4 ds;omega
 | .lst ds=>by show PyData.depth (.list (pys ds))<=dps ds+1;simp only [PyData.depth];have:=P4 ds;omega
 | .scr _=>by show PyData.depth .none<=_;simp [PyData.depth]
 | .ref _=>by show PyData.depth .none<=_;simp [PyData.depth]
theorem P4:∀ ds:List D,PyData.depthAll (pys ds)<=dps ds
 | []=>by show PyData.depthAll []<=0;simp [PyData.depthAll]
 | d :: ds=>by
  have:=X9 d
  have:=P4 ds
  show PyData.depthAll (py d :: pys ds)<=max (dp d) (dps ds)
  simp only [PyData.depthAll]
  omega
end
theorem a50 {j:Nat} {i:Int} (h:i.natAbs<=y3 j) (hj:j<=1000):decide (i.natAbs.log2<1920)=true:=by
 refine decide_eq_true ?_
 by_cases z:i.natAbs=0
 ·rw [z];decide
 ·have:i.natAbs<2 ^ 140:=by unfold y3 at h;omega
  have:=(Nat.log2_lt z).mpr this
  omega
mutual
theorem a55 {j:Nat} (hj:j<=1000):∀ d:D,Pln j d->(py d).showable=true/\(py d).hasDict=false/\(py d).shown.length<=sz d
 | .non,_=>⟨rfl,rfl,by show (PyData.shown .none).length<=5;decide⟩
 | .bl b,_=>⟨rfl,rfl,by show (PyData.shown (.bool b)).length<=5;cases b <;> decide⟩
 | .int i,h=>⟨a50 h hj,rfl,by
   have h:i.natAbs<=y3 j:=h
   have e:=int_text_length_le10 (k:=40) (a:=i) (by decide) (by unfold y3 at h;omega)
   show (Str.ofString (toString i)).length<=60
   rw [PySem.ofString_length];omega⟩
 | .str x,h=>⟨rfl,rfl,by
   show (PyData.shown (.str x)).length<=10 * x.length+2
   rw [PyData.shown_str]
   exact StrLaws.reprText_len x λc hc=>by have:=h.2 c hc;omega⟩
 | .tup ds,h=>by
  obtain ⟨a,b,c⟩:=V7 hj ds h
  refine ⟨by show PyData.showable (.tuple (pys ds))=true;simp only [PyData.showable];exact a,by show PyData.hasDict (.tuple (pys ds))=false;simp only [PyData.hasDict];exact b,?_⟩
  have h2:=tupleText_len_le (PyData.shownAll (pys ds))
  have h3:=PyData.shownAll_length (pys ds)
  show (PyData.shown (.tuple (pys ds))).length<=szs ds+3
  simp only [PyData.shown]
  omega
 | .lst ds,h=>by
  obtain ⟨a,b,c⟩:=V7 hj ds h
  refine ⟨by show PyData.showable (.list (pys ds))=true;simp only [PyData.showable];exact a,by show PyData.hasDict (.list (pys ds))=false;simp only [PyData.hasDict];exact b,?_⟩
  have h2:=listText_len_le (PyData.shownAll (pys ds))
  have h3:=PyData.shownAll_length (pys ds)
  show (PyData.shown (.list (pys ds))).length<=szs ds+3
  simp only [PyData.shown]
  omega
 | .scr _,h=>h.elim
 | .ref _,h=>h.elim
theorem V7 {j:Nat} (hj:j<=1000):∀ ds:List D,Plns j ds->PyData.showableAll (pys ds)=true/\PyData.hasDictAll (pys ds)=false/\((PyData.shownAll (pys ds)).map (·.length)).sum+2 * (pys ds).length<=szs ds
 | [],_=>⟨rfl,rfl,by show ((PyData.shownAll []).map (·.length)).sum+2 * 0<=0;simp [PyData.shownAll]⟩
 | d :: ds,h=>by
  obtain ⟨a,b,c⟩:=a55 hj d h.1
  obtain ⟨a2,b2,c2⟩:=V7 hj ds h.2
  refine ⟨by show PyData.showableAll (py d :: pys ds)=true;simp only [PyData.showableAll,a,a2,Bool.and_self],by show PyData.hasDictAll (py d :: pys ds)=false;simp only [PyData.hasDictAll,b,b2,Bool.or_self],?_⟩
  show ((PyData.shownAll (py d :: pys ds)).map (·.length)).sum+2 * (py d :: pys ds).length<=sz d+2+szs ds
  simp only [PyData.shownAll,List.map_cons,List.sum_cons,List.length_cons]
  omega
end
structure Any (j N:Nat) (d:D):Prop where
 pl:Pln j d
 dp:dp d<=3+j
 sz:sz d<=N
theorem U0 {j N:Nat} {d:D} (h:Any j N d) (hj:j<=40) (hN:N<=10000000) (S:Sto):D7 d S=.ok (.str (py d).shown) S:=by
 obtain ⟨a,b,c⟩:=a55 (by omega) d h.pl
 have e:=N1 S d 64 h.pl (by have:=h.dp;omega)
 have e2:D7 d S=(match d9 64 S d with
  | some p=>(if Shows p then ret (D.str p.shown) else bad) S
  | none=>.bad):=rfl
 rw [e2,e]
 show (if Shows (py d) then ret (D.str (py d).shown) else bad) S=_
 rw [if_pos ⟨a,b,by have:=X9 d;have:=h.dp;omega,by have:=h.sz;rw [sizeLine_eq];omega⟩];rfl
theorem a5d {j N:Nat} {ds:List D} (h:Any j N (.tup ds)) (hj:j<=40) (S:Sto):b6 .NotEq (.tup ds) (.tup []) S=.ok (.bl (!ds.isEmpty)) S:=by
 show eqP true (.tup ds) (.tup []) S=_
 unfold eqP
 rw [N1 S (.tup ds) 64 h.pl (by have:=h.dp;omega)]
 show (if PyData.canLay0 (py (.tup ds))=true/\PyData.canLay0 (.tuple [])=true/\min (PyData.depth (py (.tup ds))) (PyData.depth (.tuple []))<=60 then ret (D.bl (!PyData.eqv (py (.tup ds)) (.tuple []))) else bad) S=_
 have hd:PyData.depth (.tuple [])<=60:=by simp [PyData.depth,PyData.depthAll]
 rw [if_pos ⟨a0s _ h.pl,rfl,by omega⟩]
 cases ds <;> rfl
theorem b5b (i:Int):Asc (Str.ofString (toString i)):=by
 intro c hc
 rw [signs_ofString] at hc
 obtain ⟨z,hz,rfl⟩:=List.mem_map.mp hc
 have dig:∀ n:Nat,∀ z∈(toString n).toList,z.toNat<128:=λn z hz=>by
  have:z∈Nat.toDigits 10 n:=by
   have e:(toString n).toList=Nat.toDigits 10 n:=by show (Nat.repr n).toList=_;simp [Nat.repr]
   rw [e] at hz;exact hz
  have:=Nat.isDigit_of_mem_toDigits (by decide) (by decide) this
  unfold Char.isDigit at this
  simp at this
  have h2:=this.2
  show z.val.toNat<128
  have:z.val.toNat<=57:=h2
  omega
 cases i with
 | ofNat n=>exact dig n z hz
 | negSucc n=>
  have e:(toString (Int.negSucc n)).toList='-' :: (toString (n+1)).toList:=by
   show ("-" ++ toString (n+1)).toList=_
   simp
  rw [e] at hz
  rcases List.mem_cons.mp hz with rfl | hz
  ·decide
  ·exact dig _ z hz
theorem a2m (n:Nat) (S:Sto):∀ bs:List Bool,f9 (d9 (n+1) S) (bs.map D.bl)=some (bs.map PyData.bool)
 | []=>rfl
 | b :: bs=>by
  have e:d9 (n+1) S (.bl b)=some (.bool b):=rfl
  simp only [List.map_cons,f9,e,a2m n S bs]
theorem a6c:∀ bs:List Bool,PyData.canLayAll0 (bs.map PyData.bool)=true
 | []=>rfl
 | b :: bs=>by simp only [List.map_cons,PyData.canLayAll0,PyData.canLay0,a6c bs,Bool.and_self]
theorem a61 (b:Bool):∀ bs:List Bool,((bs.map PyData.bool).any λy=>PyData.eqv y (.bool b))=bs.any (·==b)
 | []=>rfl
 | x :: bs=>by simp only [List.map_cons,List.any_cons,a61 b bs,PyData.eqv]
theorem b74 (neg b:Bool) (bs:List Bool) (S:Sto):inD neg (.bl b) (.lst (bs.map D.bl)) S=.ok (.bl (if neg then !(bs.any (·==b)) else bs.any (·==b))) S:=by
 have e:d9 64 S (.lst (bs.map D.bl))=some (.list (bs.map PyData.bool)):=by
  show (f9 (d9 63 S) (bs.map D.bl)).map PyData.list=_
  rw [a2m 62 S bs];rfl
 unfold inD
 rw [e]
 show a77 neg (.bool b) (bs.map PyData.bool) S=_
 unfold a77
 have hd:PyData.depth (.bool b)=0:=by simp [PyData.depth]
 rw [if_pos ⟨rfl,a6c bs,by rw [hd];omega⟩,a61]
 rfl
theorem a6g:∀ bs:List Bool,N0 (bs.map D.bl)=some bs
 | []=>rfl
 | b :: bs=>by simp only [List.map_cons,N0,a6g bs,Option.map_some]
theorem a4n (bs:List Bool) (S:Sto):a7g (.lst (bs.map D.bl)) S=.ok (.bl (bs.all id)) S:=by
 show bind (lstOf (.lst (bs.map D.bl))) _ S=_
 rw [a3 (show lstOf (.lst (bs.map D.bl)) S=.ok (bs.map D.bl) S from rfl),a6g]
 rfl
mutual
noncomputable def plB:D->Bool
 | .non=>true
 | .bl _=>true
 | .int i=>decide (i.natAbs<=y3 0)
 | .str x=>decide (x.length<=45)&&x.cps.toList.all (· < 128)
 | .tup ds=>b0b ds
 | .lst ds=>b0b ds
 | .scr _=>false
 | .ref _=>false
noncomputable def b0b:List D->Bool
 | []=>true
 | d :: ds=>plB d&&b0b ds
end
mutual
theorem a82:∀ d:D,plB d=true->Pln 0 d
 | .non,_=>trivial
 | .bl _,_=>trivial
 | .int i,h=>by
  have h:decide (i.natAbs<=y3 0)=true:=h
  exact (of_decide_eq_true h:i.natAbs<=y3 0)
 | .str x,h=>by
  have h:(decide (x.length<=45)&&x.cps.toList.all (· < 128))=true:=h
  rw [Bool.and_eq_true,decide_eq_true_eq,List.all_eq_true] at h
  exact ⟨h.1,λc hc=>of_decide_eq_true (h.2 c hc)⟩
 | .tup ds,h=>a1y ds h
 | .lst ds,h=>a1y ds h
 | .scr _,h=>Bool.noConfusion h
 | .ref _,h=>Bool.noConfusion h
theorem a1y:∀ ds:List D,b0b ds=true->Plns 0 ds
 | [],_=>trivial
 | d :: ds,h=>by
  have h:(plB d&&b0b ds)=true:=h
  rw [Bool.and_eq_true] at h
  exact ⟨a82 d h.1,a1y ds h.2⟩
end
noncomputable def smB (n N:Nat) (d:D):Bool:=plB d&&decide (dp d<=n)&&decide (sz d<=N)
theorem a04 {n N:Nat} {d:D} (h:smB n N d=true):Pln 0 d/\dp d<=n/\sz d<=N:=by
 unfold smB at h
 rw [Bool.and_eq_true,Bool.and_eq_true,decide_eq_true_eq,decide_eq_true_eq] at h
 exact ⟨a82 d h.1.1,h.1.2,h.2⟩
theorem a6f (ds:List D) (lo hi:Option Int):(u9 ds lo hi).Sublist ds:=(List.take_sublist _ _).trans (List.drop_sublist _ _)
theorem Pln.ups {j:Nat} {d:D} (h:Pln 0 d):Pln j d:=by
 induction j with
 | zero=>exact h
 | succ j ih=>exact ih.up
theorem b2y {xs ys:List D} (h:∀ d∈xs,d∈ys):dps xs<=dps ys:=P8 λd hd=>G2 (h d hd)
theorem N3 (n:Nat) (S:Sto):∀ ns:List Int,f9 (d9 (n+1) S) (ns.map D.int)=some (ns.map PyData.int)
 | []=>rfl
 | b :: bs=>by
  have e:d9 (n+1) S (.int b)=some (.int b):=rfl
  simp only [List.map_cons,f9,e,N3 n S bs]
theorem P0:∀ ns:List Int,PyData.canLayAll0 (ns.map PyData.int)=true
 | []=>rfl
 | b :: bs=>by simp only [List.map_cons,PyData.canLayAll0,PyData.canLay0,P0 bs,Bool.and_self]
theorem X8 {ds:List D} {i:Nat} (h:i<=ds.length):u9 ds none (some (i:Int))=ds.take i:=by
 have e:HT.sIx ds.length ds.length (some (i:Int))=i:=by
  show (if (i:Int)<0 then ((i:Int)+(ds.length:Int)).toNat else min (i:Int).toNat ds.length)=i
  rw [if_neg (by omega)]
  simp;omega
 unfold u9
 rw [e,HT.sIx_none]
 simp
theorem a24 {ds:List D} {i:Nat} (h:i<=ds.length):u9 ds (some (i:Int)) none=ds.drop i:=by
 have e:HT.sIx ds.length 0 (some (i:Int))=i:=by
  show (if (i:Int)<0 then ((i:Int)+(ds.length:Int)).toNat else min (i:Int).toNat ds.length)=i
  rw [if_neg (by omega)]
  simp;omega
 unfold u9
 rw [e,HT.sIx_none]
 rw [List.take_of_length_le (by simp)]
theorem cat_tup {xs ys:List D} {S:Sto} (h:xs.length+ys.length<=sizeLine):C8 (.tup xs) (.tup ys) S=.ok (.tup (xs++ys)) S:=by
 show (if xs.length+ys.length<=sizeLine then ret (D.tup (xs++ys)) else bad) S=_
 rw [if_pos h];rfl
theorem b28 (ds:List D) (S:Sto):y0 (.tup ds) S=.ok (.int ds.length) S:=rfl
theorem B0 (ds:List D) (S:Sto):k5 (.tup ds) S=.ok (A3 ds,ds.length+1) S:=rfl
theorem a00 {n:Nat} (h:n<1000) (S:Sto):B1 [.int (n:Int)] S=.ok (X2 0 n,n+1) S:=by
 unfold B1
 have hn:(n:Int)<1000:=by omega
 have h0:(0:Int)<=n:=by omega
 have c:-(2 ^ 62)<=(n:Int)/\(n:Int)<2 ^ 62:=⟨Int.le_trans (by decide) h0,Int.lt_trans hn (by decide)⟩
 simp only [if_pos c,Int.toNat_natCast]
 rfl
theorem b3d {ds:List D} {i:Nat} {d:D} (S:Sto) (h:ds[i]?=some d):ixD (.tup ds) (.int (i:Int)) S=.ok d S:=by
 show V9 (atI ds (i:Int)) S=_
 rw [a1c h];rfl
theorem b3k {ds:List D} {i:Nat} {d:D} (S:Sto) (h:ds[i]?=some d):ixD (.lst ds) (.int (i:Int)) S=.ok d S:=by
 show V9 (atI ds (i:Int)) S=_
 rw [a1c h];rfl
theorem M0 {α:Type} {src:Src} {l:List α} {h g:α->D} {p:α->Bool} {t:D->M Bool} {f:D->M D} {S:Sto} (hs:∀ i,src i S=some (l.map h)[i]?) (hl:l.length<sizeLine) (ht:∀ a∈l,t (h a) S=.ok (p a) S) (hf:∀ a∈l,p a=true->f (h a) S=.ok (g a) S):f7 src t f (l.length+1) 0 [] S=.ok ((l.filter p).map g) S:=by
 obtain ⟨es,S',e,e1,e2⟩:=Ok.comp (src:=src) (t:=t) (f:=f) (n:=l.length) (λi S' es=>S'=S/\es=((l.take i).filter p).map g) (λS' es q=>by obtain ⟨q,_⟩:=q;subst q;rw [hs,List.getElem?_eq_none (by simp)])
  (λi S' es hi ⟨h1,h2⟩=>by
   subst h1 h2
   refine ⟨h l[i],?_,p l[i],S',ht _ (List.getElem_mem hi),?_⟩
   ·rw [hs,List.getElem?_map,List.getElem?_eq_getElem hi];rfl
   ·have ta:l.take (i+1)=l.take i++[l[i]]:=List.take_succ_eq_append_getElem hi
    cases hp:p l[i] with
    | true=>
     dsimp only
     rw [if_pos rfl]
     refine ⟨g l[i],S',hf _ (List.getElem_mem hi) hp,?_,rfl,?_⟩
     ·rw [List.length_map]
      have:=List.length_filter_le p (l.take i)
      have:=List.length_take_le i l
      omega
     ·rw [ta,List.filter_append,List.map_append,List.filter_cons_of_pos hp];rfl
    | false=>
     dsimp only
     rw [if_neg Bool.false_ne_true]
     refine ⟨rfl,?_⟩
     rw [ta,List.filter_append,List.filter_cons_of_neg (by rw [hp];exact Bool.false_ne_true),List.filter_nil,List.append_nil]) (S:=S) ⟨rfl,rfl⟩
 rw [e]
 subst e1 e2
 rw [List.take_length]
theorem b85 (n i:Nat) (S:Sto):X2 0 n i S=some ((List.range n).map λ(k:Nat)=>D.int (k:Int))[i]?:=by
 show some (if i<n then some (D.int (0+i)) else none)=_
 by_cases h:i<n
 ·rw [if_pos h,List.getElem?_map,List.getElem?_range h,Int.zero_add];rfl
 ·rw [if_neg h,List.getElem?_eq_none (by simpa using h)]
theorem b05 {S:Sto} {n:Nat} {ds:List D} (e:S[n]?=some (.lst ds)) (i:Nat):a1b n i S=some ds[i]?:=by
 simp only [a1b,e]
theorem M2 (ns:List Int):j7 (ns.map D.int)=some ns:=by
 induction ns with
 | nil=>rfl
 | cons n ns ih=>simp only [List.map_cons,j7,ih,Option.map_some]
theorem k4 {α β:Type} {f:α->β} {l:List α} {i:Nat} {a:α} (h:l[i]?=some a):(l.map f)[i]?=some (f a):=by rw [List.getElem?_map,h];rfl
theorem a9v (x:Int):∀ ns:List Int,((ns.map PyData.int).any λy=>PyData.eqv y (.int x))=decide (x∈ns)
 | []=>by simp
 | y :: ns=>by
  simp only [List.map_cons,List.any_cons,a9v x ns,PyData.eqv]
  rw [Bool.eq_iff_iff,Bool.or_eq_true,decide_eq_true_eq,decide_eq_true_eq,List.mem_cons]
  constructor
  ·rintro (a | a)
   ·exact .inl (eq_of_beq a).symm
   ·exact .inr a
  ·rintro (a | a)
   ·exact .inl (by rw [a];exact beq_self_eq_true _)
   ·exact .inr a
theorem b4u {ds:List D} {d:D} (S:Sto) (h:ds.getLast?=some d):ixD (.tup ds) (.int (-1)) S=.ok d S:=by
 have hl:ds≠[]:=λz=>by subst z;cases h
 have hp:0<ds.length:=List.length_pos_iff.mpr hl
 show V9 (atI ds (-1)) S=_
 have:atI ds (-1)=some d:=by
  unfold atI ixN
  rw [if_neg (by omega),if_pos (by omega)]
  show ds[((-1:Int)+(ds.length:Int)).toNat]?=some d
  rw [show ((-1:Int)+(ds.length:Int)).toNat=ds.length-1 by omega,<- List.getLast?_eq_getElem?]
  exact h
 rw [this];rfl
def Ex (S S':Sto):Prop:=∃ T,S'=S++T
theorem Ex.refl (S:Sto):Ex S S:=⟨[],by simp⟩
theorem Ex.trans {a b c:Sto} (h:Ex a b) (k:Ex b c):Ex a c:=by
 obtain ⟨t,rfl⟩:=h
 obtain ⟨u,rfl⟩:=k
 exact ⟨t++u,by simp⟩
theorem Ex.at {S S':Sto} (h:Ex S S') {q:Nat} (hq:q<S.length):S'[q]?=S[q]?:=by
 obtain ⟨t,rfl⟩:=h
 rw [List.getElem?_append_left hq]
theorem W4 {S:Sto} {n:Nat} {ns:List Int} (e:S[n]?=some (.lst (ns.map D.int))) (hl:ns.length<64):v3 (.ref n) S=.ok (.lst ((srt ns).map D.int)) S:=by
 show bind (u3 (.ref n)) _ S=_
 rw [a3 (show u3 (.ref n) S=.ok (ns.map D.int) S by simp only [u3,lstOf,e]),M2]
 show (if ns.length<64 then ret (D.lst ((srt ns).map D.int)) else bad) S=_
 rw [if_pos hl];rfl
theorem b54 {S:Sto} {n:Nat} {es:List D} {ys:List D} (e:S[n]?=some (.lst es)) (hl:es.length+ys.length<=sizeLine):extD (.ref n) [.tup ys] S=.ok .non (S.set n (.lst (es++ys))):=by
 simp only [extD,e,if_pos hl]
theorem Q2 {S:Sto} {n:Nat} {es:List D} (e:S[n]?=some (.lst es)):lstOf (.ref n) S=.ok es S:=by simp only [lstOf,e]
def Tk (p:Nat) (S S':Sto):Prop:=S.length<=S'.length/\∀ q,q<S.length->q≠p->S'[q]?=S[q]?
theorem Tk.trans {p:Nat} {a b c:Sto} (h:Tk p a b) (k:Tk p b c):Tk p a c:=⟨Nat.le_trans h.1 k.1,λq hq hp=>by rw [k.2 q (Nat.lt_of_lt_of_le hq h.1) hp,h.2 q hq hp]⟩
theorem a38 {T R S:Sto} {p:Nat} (hp:p<T.length) (hl:S.length=(T++R).length) (h:∀ q,q≠p->S[q]?=(T++R)[q]?):∃ T',S=T'++R/\T'.length=T.length/\(∀ q,q≠p->T'[q]?=T[q]?)/\T'[p]?=S[p]?:=by
 rw [List.length_append] at hl
 have hlen:(S.take T.length).length=T.length:=by rw [List.length_take];omega
 refine ⟨S.take T.length,?_,hlen,λq hq=>?_,?_⟩
 ·apply List.ext_getElem?
  intro i
  by_cases hi:i<T.length
  ·rw [List.getElem?_append_left (by rw [hlen];exact hi),List.getElem?_take_of_lt hi]
  ·rw [h i (by omega),List.getElem?_append_right (by omega),List.getElem?_append_right (by omega),hlen]
 ·by_cases hi:q<T.length
  ·rw [List.getElem?_take_of_lt hi,h q hq,List.getElem?_append_left hi]
  ·rw [List.getElem?_eq_none (by omega),List.getElem?_eq_none (by omega)]
 ·rw [List.getElem?_take_of_lt hp]
theorem c2b {S:Sto} {n j:Nat} {es:List D} {y:D} (e:S[n]?=some (.lst es)) (h:es[j]?=some y) (hs:j<1000):popD (.ref n) [.int (j:Int)] S=.ok y (S.set n (.lst (es.eraseIdx j))):=by
 have hj:=(List.getElem?_eq_some_iff.mp h).1
 have c:-(2 ^ 63)<=(j:Int)/\(j:Int)<2 ^ 63:=⟨Int.le_trans (by decide) (Int.natCast_nonneg j),Int.lt_trans (show (j:Int)<1000 by omega) (by decide)⟩
 have i:ixN es.length (j:Int)=some j:=by
  unfold ixN
  rw [if_pos (by omega)]
  simp only [Int.toNat_natCast]
  rw [if_pos (by omega)]
 simp only [popD,e,if_pos c,i,h]
theorem Y8 {α β:Type} (f:α->β):∀ (l:List α) (i:Nat),(l.map f).eraseIdx i=(l.eraseIdx i).map f
 | [],_=>rfl
 | _ :: _,0=>rfl
 | a :: l,i+1=>by simp only [List.map_cons,List.eraseIdx_cons_succ,Y8 f l i]
theorem c02 (ds:List D) (S:Sto):y0 (.lst ds) S=.ok (.int ds.length) S:=rfl
theorem c2g {S:Sto} {n:Nat} {es:List D} (e:S[n]?=some (.lst es)):y0 (.ref n) S=.ok (.int es.length) S:=by simp only [y0,e]
theorem a2j {S:Sto} {n:Nat} {es:List D} {y:D} (e:S[n]?=some (.lst es)) (hl:es.length<sizeLine):J9 (.ref n) [y] S=.ok .non (S.set n (.lst (es++[y]))):=by simp only [J9,e,if_pos hl]
theorem Plns.sub {j:Nat} {xs ys:List D} (h:Plns j ys) (hs:∀ d∈xs,d∈ys):Plns j xs:=Plns.of λd hd=>h.mem d (hs d hd)
theorem Ok.nx {α:Type} {m:M α} {S:Sto} {Q:α->Sto->Prop} (h:Ok m S Q):Ok (L3.nx m) S Q:=by
 obtain ⟨a,S1,e,q⟩:=h
 exact ⟨a,S1,by unfold L3.nx;rw [e],q⟩
noncomputable def nxt {α:Type} (q:EvK) (lc:Lc) (sts:List Stmt) (k:Fl->M α):Fl->M α:=λfl=>match fl with
 | .nx ρ'=>u4 q lc sts ρ' k
 | fl=>k fl
section
variable {α:Type} {q:EvK} {lc:Lc} {st:Stmt} {sts:List Stmt} {ρ:L3.Env} {k:Fl->M α} {S:Sto} {Q:α->Sto->Prop} {P:Nat->Sto->Prop}
theorem Ok.first (h:Ok (q.s lc st ρ (nxt q lc sts k)) S Q):Ok (u4 q lc (st :: sts) ρ k) S Q:=h
theorem Ok.nxt (h:Ok (q.s lc st ρ (L3.nxt q lc sts k)) S Q):Ok (L3.nxt q lc (st :: sts) k (.nx ρ)) S Q:=h
theorem Ok.pos {c:Prop} [Decidable c] {a b:M α} (h:c) (k:Ok a S Q):Ok (if c then a else b) S Q:=by rw [if_pos h];exact k
theorem Ok.neg {c:Prop} [Decidable c] {a b:M α} (h:¬ c) (k:Ok b S Q):Ok (if c then a else b) S Q:=by rw [if_neg h];exact k
end
theorem b8y {r:Nat} (h:r<100):Pln 0 (.int (r:Int)):=by
 show ((r:Int)).natAbs<=y3 0
 have:y3 0≥100:=by decide +kernel
 omega
theorem a1s {n:Nat}:∀ {ds:List D},(∀ d∈ds,sz d<=n)->szs ds<=(n+2) * ds.length
 | [],_=>Nat.le_refl _
 | d :: ds,h=>by
  have h1:=h d (by simp)
  have h2:=a1s (ds:=ds) λx hx=>h x (by simp [hx])
  show sz d+2+szs ds<=(n+2) * (ds.length+1)
  rw [Nat.mul_add]
  omega
theorem c07 {S:Sto} {n:Nat} {ds:List D} (e:S[n]?=some (.lst ds)):K3 (.ref n) S=.ok (.tup ds) S:=a3 (by simp only [u3,lstOf,e])
theorem b0c (ns:List Int):∃ ms:List Int,u9 (ns.map D.int) none (some 63)=ms.map D.int:=⟨(ns.drop (HT.sIx ns.length 0 none)).take (HT.sIx ns.length ns.length (some 63)-HT.sIx ns.length 0 none),by simp [u9,List.map_drop,List.map_take]⟩
theorem R7 (n:Nat) (S:Sto):X2 0 n n S=some none:=by
 show some (if n<n then _ else none)=some none
 rw [if_neg (Nat.lt_irrefl _)]
theorem a1l {n i:Nat} (h:i<n) (S:Sto):X2 0 n i S=some (some (.int (i:Int))):=by rw [b85,k4 (List.getElem?_range h)]
theorem Z3 {ds:List D} {S:Sto}:y0 (.tup ds) S=.ok (.int ds.length) S:=rfl
structure Sml (n N:Nat) (d:D):Prop where
 pl:Pln 0 d
 dp:dp d<=n
 sz:sz d<=N
def Smls (n N:Nat) (ds:List D):Prop:=∀ d∈ds,Sml n N d
theorem Smls.map {α:Type} {n N:Nat} {f:α->D} {l:List α} (h:∀ a∈l,Sml n N (f a)):Smls n N (l.map f):=λx hx=>by
 obtain ⟨a,ha,rfl⟩:=List.mem_map.mp hx
 exact h a ha
theorem Sml.tup {n N m:Nat} {ds:List D} (h:Smls n N ds) (hl:ds.length<=m):Sml (n+1) ((N+2) * m+3) (.tup ds):=by
 have s:=a1s (n:=N) λd hd=>(h d hd).sz
 have d1:=P8 (n:=n) λd hd=>(h d hd).dp
 refine ⟨Plns.of λd hd=>(h d hd).pl,by show dps ds+1<=n+1;omega,?_⟩
 show szs ds+3<=_
 have:=Nat.mul_le_mul_left (N+2) hl
 omega
theorem Sml.lst {n N m:Nat} {ds:List D} (h:Smls n N ds) (hl:ds.length<=m):Sml (n+1) ((N+2) * m+3) (.lst ds):=by
 have s:=a1s (n:=N) λd hd=>(h d hd).sz
 have d1:=P8 (n:=n) λd hd=>(h d hd).dp
 refine ⟨Plns.of λd hd=>(h d hd).pl,by show dps ds+1<=n+1;omega,?_⟩
 show szs ds+3<=_
 have:=Nat.mul_le_mul_left (N+2) hl
 omega
theorem Sml.nat {n N i:Nat} (h:i<100) (hN:60<=N:=by decide):Sml n N (.int (i:Int)):=⟨b8y h,Nat.zero_le _,hN⟩
theorem Sml.bl {n N:Nat} {b:Bool} (hN:5<=N:=by decide):Sml n N (.bl b):=⟨trivial,Nat.zero_le _,hN⟩
theorem Sml.any {n N:Nat} {d:D} (h:Sml n N d) (hn:n<=43):Any 40 N d:=⟨h.pl.ups,by have:=h.dp;omega,h.sz⟩
theorem Sml.repr {n N:Nat} {d:D} (h:Sml n N d) (hn:n<=43:=by decide) (hN:N<=10000000:=by decide) (S:Sto):D7 d S=.ok (.str (py d).shown) S:=U0 (h.any hn) (by omega) hN S
theorem b1d (a b:Int) (S:Sto):b6 .Eq (.int a) (.int b) S=.ok (.bl (decide (a=b))) S:=rfl
theorem Q6 (a b:Int) (S:Sto):b6 .LtE (.int a) (.int b) S=.ok (.bl (decide (a<=b))) S:=rfl
theorem c04 (a b:Int) (S:Sto):b6 .GtE (.int a) (.int b) S=.ok (.bl (decide (b<=a))) S:=rfl
theorem a63 (a b:Int) (S:Sto):b6 .Gt (.int a) (.int b) S=.ok (.bl (decide (b<a))) S:=rfl
theorem P6 (a b:Nat) (S:Sto):C8 (.int (a:Int)) (.int (b:Int)) S=.ok (.int ((a+b:Nat):Int)) S:=by
 show R.ok (D.int ((a:Int)+(b:Int))) S=_
 rw [show ((a:Int)+(b:Int))=((a+b:Nat):Int) by omega]
theorem b0a {a b:Nat} (h:b<=a) (S:Sto):M5 (.int (a:Int)) (.int (b:Int)) S=.ok (.int ((a-b:Nat):Int)) S:=by
 show R.ok (D.int ((a:Int)-(b:Int))) S=_
 rw [show ((a:Int)-(b:Int))=((a-b:Nat):Int) by omega]
theorem nx_bind {α β:Type} {m:M α} {k:α->M β} {S:Sto} {Q:β->Sto->Prop} (h:Ok m S λa S1=>Ok (k a) S1 Q):Ok (L3.bind (L3.nx m) k) S Q:=Ok.bind (Ok.nx h)
theorem D5 {α:Type} {m:M α} {S:Sto} {a:α} (h:Ok m S λd S'=>d=a/\S'=S):m S=.ok a S:=by
 obtain ⟨d,S',e,rfl,rfl⟩:=h
 exact e
theorem b1p:∀ ns:List Int,PyData.depthAll (ns.map PyData.int)<=1
 | []=>by simp [PyData.depthAll]
 | n :: ns=>by
  have:=b1p ns
  simp only [List.map_cons,PyData.depthAll,PyData.depth]
  omega
theorem a83:∀ a b:List Int,PyData.eqvAll (a.map PyData.int) (b.map PyData.int)=decide (a=b)
 | [],[]=>rfl
 | [],_ :: _=>rfl
 | _ :: _,[]=>rfl
 | x :: a,y :: b=>by
  simp only [List.map_cons,PyData.eqvAll,PyData.eqv,a83 a b]
  by_cases h:x=y
  ·subst h;simp
  ·simp [h]
theorem a6r (a b:List Int) (S:Sto):b6 .Eq (.lst (a.map D.int)) (.lst (b.map D.int)) S=.ok (.bl (decide (a=b))) S:=by
 show eqP false (.lst (a.map D.int)) (.lst (b.map D.int)) S=_
 have e:∀ ns:List Int,d9 64 S (.lst (ns.map D.int))=some (.list (ns.map PyData.int)):=λns=>by
  show (f9 (d9 63 S) (ns.map D.int)).map PyData.list=_
  rw [N3 62 S ns];rfl
 unfold eqP
 rw [e,e]
 show (if PyData.canLay0 (.list (a.map PyData.int))=true/\PyData.canLay0 (.list (b.map PyData.int))=true/\min (PyData.depth (.list (a.map PyData.int))) (PyData.depth (.list (b.map PyData.int)))<=60 then ret (D.bl (PyData.eqv (.list (a.map PyData.int)) (.list (b.map PyData.int)))) else bad) S=_
 have hd:PyData.depth (.list (a.map PyData.int))<=60:=by
  have:=b1p a
  simp only [PyData.depth];omega
 rw [if_pos ⟨by simp only [PyData.canLay0];exact P0 a,by simp only [PyData.canLay0];exact P0 b,by omega⟩]
 show R.ok (D.bl (PyData.eqvAll (a.map PyData.int) (b.map PyData.int))) S=_
 rw [a83]
theorem b37 {n N:Nat} {d c:D} (h:Any n N d) (hn:n<=40) (hc:Pln 0 c) (c1:dp c<=50) (neg:Bool) (S:Sto):eqP neg d c S=.ok (.bl (if neg=true then !PyData.eqv (py d) (py c) else PyData.eqv (py d) (py c))) S:=by
 have dp:=h.dp
 have hd:=X9 d
 unfold eqP
 rw [N1 S d 64 h.pl (by omega),N1 S c 64 hc (by omega)]
 show (if PyData.canLay0 (py d)=true/\PyData.canLay0 (py c)=true/\min (PyData.depth (py d)) (PyData.depth (py c))<=60 then ret (D.bl (if neg=true then !PyData.eqv (py d) (py c) else PyData.eqv (py d) (py c))) else bad) S=_
 rw [if_pos ⟨a0s _ h.pl,a0s _ hc,by omega⟩]
 rfl
noncomputable def isW:D->Bool
 | .int _=>true
 | _=>false
noncomputable def whB (lo hi:Int):D->Bool
 | .int i=>decide (lo<=i)&&decide (i<=hi)
 | _=>false
noncomputable def els:D->List D
 | .tup ds=>ds
 | _=>[]
theorem O8 {n N:Nat} {ds:List D} (h:Any n N (.tup ds)) {d:D} (hd:d∈ds):Any n N d:=by
 refine ⟨Plns.mem h.pl d hd,?_,?_⟩
 ·have:=G2 hd
  have:dps ds+1<=3+n:=h.dp
  omega
 ·have z:szs ds+3<=N:=h.sz
  obtain ⟨i,hi,e⟩:=List.getElem_of_mem hd
  have:=b1r (xs:=ds) (i:=i) (d:=d) (by rw [List.getElem?_eq_getElem hi,e])
  omega
theorem T4 {ds:List D} {p:D->Bool} {f:D->M D} {S:Sto} (hl:ds.length<sizeLine) (hf:∀ d∈ds,f d S=.ok (.bl (p d)) S):f7 (A3 ds) (λ_=>ret true) f (ds.length+1) 0 [] S=.ok ((ds.map p).map D.bl) S:=by
 have c:=N5 (l:=ds) (h:=id) (g:=λd=>D.bl (p d)) (p:=λ_=>true) (t:=λ_=>ret true) (f:=f) (S:=S) hl (λ_ _=>rfl) (λd hd _=>hf d hd)
 rw [List.map_id,List.filter_eq_self.mpr (λ_ _=>rfl)] at c
 rw [c,List.map_map];rfl
theorem all_map (ds:List D) (p:D->Bool):(ds.map p).all id=ds.all p:=by rw [List.all_map];rfl
theorem c3x (ds:List D) (p:D->Bool):((ds.map p).any (·==false))=!ds.all p:=by
 induction ds with
 | nil=>rfl
 | cons d ds ih=>rw [List.map_cons,List.any_cons,List.all_cons,ih];cases p d <;> simp
theorem inF (ds:List D) (p:D->Bool) (S:Sto):b6 .In (.bl false) (.lst ((ds.map p).map D.bl)) S=.ok (.bl (!ds.all p)) S:=by
 show inD false _ _ S=_
 rw [b74,if_neg Bool.false_ne_true,c3x]
theorem c0m {lo hi:Int} {d:D} (h:whB lo hi d=true):∃ i,d=.int i/\lo<=i/\i<=hi:=by
 cases d with
 | int i=>
  have h:(decide (lo<=i)&&decide (i<=hi))=true:=h
  rw [Bool.and_eq_true,decide_eq_true_eq,decide_eq_true_eq] at h
  exact ⟨i,rfl,h⟩
 | _=>cases h
theorem a0y {β:Type} {p:D->Bool} {f:β->D} {q:β->Prop} (h:∀ d,p d=true->∃ b,f b=d/\q b):∀ {ds:List D},ds.all p=true->∃ bs:List β,bs.map f=ds/\∀ b∈bs,q b
 | [],_=>⟨[],rfl,λb z=>by cases z⟩
 | d :: ds,e=>by
  rw [List.all_cons,Bool.and_eq_true] at e
  obtain ⟨b,rfl,hb⟩:=h d e.1
  obtain ⟨bs,rfl,hs⟩:=a0y h e.2
  exact ⟨b :: bs,rfl,λx hx=>by
   rcases List.mem_cons.mp hx with rfl | z
   ·exact hb
   ·exact hs x z⟩
noncomputable def j5:D->Int
 | .int i=>i
 | _=>0
theorem R9 {lo hi:Int}:∀ {ds:List D},ds.all (whB lo hi)=true->ds=(ds.map j5).map D.int/\∀ x∈ds.map j5,lo<=x/\x<=hi
 | [],_=>⟨rfl,λx hx=>by cases hx⟩
 | d :: ds,h=>by
  rw [List.all_cons,Bool.and_eq_true] at h
  obtain ⟨i,rfl,h1,h2⟩:=c0m h.1
  obtain ⟨a,b⟩:=R9 h.2
  refine ⟨?_,λx hx=>?_⟩
  ·simp only [List.map_cons,j5];rw [<- a]
  ·simp only [List.map_cons,j5] at hx
   rcases List.mem_cons.mp hx with rfl | hx
   ·exact ⟨h1,h2⟩
   ·exact b x hx
theorem V5:∀ ns:List Int,j7 (ns.map D.int)=some ns
 | []=>rfl
 | n :: ns=>by
  have:=V5 ns
  simp only [List.map_cons,j7] at *
  simp [f9] at *
  first | exact this | simp [this]
theorem a4q {v l:List Int} (nd:v.Nodup) (h:∀ x∈v,x∈l):v.length<=l.length:=by
 induction v generalizing l with
 | nil=>exact Nat.zero_le _
 | cons a v ih=>
  have ha:a∈l:=h a (List.mem_cons_self ..)
  have nd':=List.nodup_cons.mp nd
  have e:=List.length_erase_of_mem ha
  have:=ih (l:=l.erase a) nd'.2 λx hx=>(List.mem_erase_of_ne (λz=>nd'.1 (by rw [<- z];exact hx))).mpr (h x (List.mem_cons_of_mem _ hx))
  have:=List.length_pos_of_mem ha
  rw [List.length_cons];omega
theorem a3e {ns:List Int} {m:Nat} (h:∀ x∈ns,0<=x/\x<=(m:Int)-1):(A0 ns).length<=m:=by
 have:=a4q (v:=A0 ns) (l:=(List.range m).map λ(i:Nat)=>(i:Int)) (a14 ns) λx hx=>by
  obtain ⟨h1,h2⟩:=h x (uniq_mem.mp hx)
  exact List.mem_map.mpr ⟨x.toNat,List.mem_range.mpr (by omega),by omega⟩
 rwa [List.length_map,List.length_range] at this
theorem b12 {ns:List Int} (h1:ns.length<4000) (h2:(A0 ns).length<64) (S:Sto):G0 (.tup (ns.map D.int)) S=.ok (.lst ((srt (A0 ns)).map D.int)) S:=by
 unfold G0
 rw [a3 (show u3 (.tup (ns.map D.int)) S=.ok (ns.map D.int) S from rfl)]
 simp only [V5,if_pos (And.intro h1 h2)]
 rfl
theorem rises_iff {ns:List Int}:ns=srt (A0 ns)↔ns.Pairwise (· < ·):=by
 have key:∀ {l:List Int},l.Pairwise (·<=·)->l.Nodup->l.Pairwise (· < ·):=λ{l} h nd=>by
  have:=h.and nd
  exact this.imp λ⟨a,b⟩=>by omega
 constructor
 ·intro e
  have nd:(srt (A0 ns)).Nodup:=(b4 _).nodup_iff.mpr (a14 ns)
  rw [e];exact key (P9 _) nd
 ·intro h
  have nd:ns.Nodup:=h.imp λa=>by omega
  have up:ns.Pairwise (·<=·):=h.imp λa=>by omega
  refine a1e ?_ up (P9 _)
  refine List.Perm.trans ?_ (b4 _).symm
  exact HT.perm_sub nd (λx hx=>uniq_mem.mpr hx) (Nat.le_antisymm (a4q nd λx hx=>uniq_mem.mpr hx) (a4q (a14 ns) λx hx=>uniq_mem.mp hx))
theorem W5:∀ ns:List Int,szs (ns.map D.int)=62 * ns.length
 | []=>rfl
 | n :: ns=>by
  show 60+2+szs (ns.map D.int)=62 * (ns.length+1)
  rw [W5 ns];omega
noncomputable def a1t (p m cell:D):M D:=
 bind (U3 cell (.int 998244353)) λa1=>bind (ixD p (.int 3)) λt=>bind (R4 (.int 7919) t) λb1=>bind (C8 a1 b1) λc1=>bind (R4 c1 (.int 48271)) λc2=>bind (U3 c2 (.int 2147483647)) λmixed=>
 bind (Q3 mixed (.int 13)) λe1=>bind (ixD p (.int 3)) λt=>bind (R4 (.int 104729) t) λf1=>bind (ixD p (.int 3)) λt2=>bind (R4 f1 t2) λf2=>bind (C8 e1 f2) λe2=>bind (R4 e2 (.int 69621)) λe3=>bind (U3 e3 (.int 2147483629)) λmixed2=>bind (Q3 mixed2 (.int 64)) λg1=>bind (U3 g1 m) λg2=>ret g2
noncomputable def a11 (p m cell:D) (z:Bool):M D:=
 if z=true then bind (Q3 cell m) λv=>bind (K1 p (.int 2) v) λ_=>bind (U3 cell m) λd=>ret d
 else a1t p m cell
noncomputable def D9 (p m cell:D):M D:=
 bind (ixD p (.int 1)) λx=>bind (C8 x (.int 1)) λv=>bind (K1 p (.int 1) v) λ_=>
 bind (b48 (.int 10) (.int 18)) λy=>bind (b6 .GtE cell y) λd=>bind (asB d) λc=>if c=true then (bind (ixD p (.int 1)) λa=>bind (ixD p (.int 0)) λcs=>bind (y0 cs) λn=>bind (b6 .LtE a n) λd=>bind (asB d) λz=>a11 p m cell z) else a11 p m cell false
noncomputable def a6b (p m:D):M D:=
 bind (ixD p (.int 3)) λx=>bind (C8 x (.int 1)) λt=>bind (K1 p (.int 3) t) λ_=>
 bind (ixD p (.int 2)) λx=>bind (b6 .Gt x (.int 0)) λd=>bind (asB d) λz=>if z=true then
  bind (ixD p (.int 2)) λx=>bind (U3 x m) λf=>bind (ixD p (.int 2)) λx=>bind (Q3 x m) λv=>bind (K1 p (.int 2) v) λ_=>ret f
 else bind (ixD p (.int 0)) λc=>bind (b6 .NotEq c (.lst [])) λd=>bind (asB d) λz=>if z=true then
   bind (ixD p (.int 0)) λc=>bind (ixD p (.int 1)) λi=>bind (ixD p (.int 0)) λc2=>bind (y0 c2) λn=>bind (U3 i n) λj=>bind (ixD c j) λcell=>D9 p m cell
  else D9 p m (.int 3)
noncomputable def d6 (ns:List Int) (a l t:Int):O:=.lst [.lst (ns.map D.int),.int a,.int l,.int t]
section
variable {S:Sto} {p:Nat} {ns:List Int} {a l t:Int} (h:S[p]?=some (d6 ns a l t))
include h
theorem t_0:ixD (.ref p) (.int 0) S=.ok (.lst (ns.map D.int)) S:=by simp only [ixD,h,d6];rfl
theorem t_1:ixD (.ref p) (.int 1) S=.ok (.int a) S:=by simp only [ixD,h,d6];rfl
theorem t_2:ixD (.ref p) (.int 2) S=.ok (.int l) S:=by simp only [ixD,h,d6];rfl
theorem t_3:ixD (.ref p) (.int 3) S=.ok (.int t) S:=by simp only [ixD,h,d6];rfl
theorem c3j (v:Int):K1 (.ref p) (.int 1) (.int v) S=.ok .non (S.set p (d6 ns v l t)):=by simp only [K1,h,d6];rfl
theorem c2d (v:Int):K1 (.ref p) (.int 2) (.int v) S=.ok .non (S.set p (d6 ns a v t)):=by simp only [K1,h,d6];rfl
theorem c4w (v:Int):K1 (.ref p) (.int 3) (.int v) S=.ok .non (S.set p (d6 ns a l v)):=by simp only [K1,h,d6];rfl
end
theorem T7 (ns:List Int) (S:Sto):b6 .NotEq (.lst (ns.map D.int)) (.lst []) S=.ok (.bl (!ns.isEmpty)) S:=by
 show eqP true (.lst (ns.map D.int)) (.lst []) S=_
 have e:d9 64 S (.lst (ns.map D.int))=some (.list (ns.map PyData.int)):=by
  show (f9 (d9 63 S) (ns.map D.int)).map PyData.list=_
  rw [N3 62 S ns];rfl
 unfold eqP
 rw [e]
 show (if PyData.canLay0 (.list (ns.map PyData.int))=true/\PyData.canLay0 (.list [])=true/\min (PyData.depth (.list (ns.map PyData.int))) (PyData.depth (.list []))<=60 then ret (D.bl (!PyData.eqv (.list (ns.map PyData.int)) (.list []))) else bad) S=_
 have hd:PyData.depth (.list [])<=60:=by simp [PyData.depth,PyData.depthAll]
 rw [if_pos ⟨by simp only [PyData.canLay0];exact P0 ns,rfl,by omega⟩]
 cases ns with
 | nil=>rfl
 | cons n ns=>rfl
theorem a32 {S:Sto} {p:Nat} {ns:List Int} {a l t m c:Int} (h:S[p]?=some (d6 ns a l t)) (hm:0<m) (ht:0<=t) (htb:t<2000000):∃ r:Int,a1t (.ref p) (.int m) (.int c) S=.ok (.int r) S/\0<=r/\r<m:=by
 unfold a1t
 rw [a3 (U5 (by decide) S),a3 (t_3 h),a3 (a2h (.inl ⟨by decide,by decide⟩) S),a3 (a6l _ _ S),a3 (a2h (.inr ⟨by decide,by decide⟩) S),a3 (U5 (by decide) S),a3 (a1z (by decide) (by decide) S),
  a3 (t_3 h),a3 (a2h (.inl ⟨by decide,by decide⟩) S),a3 (t_3 h),a3 (a2h (.inr ⟨by omega,by omega⟩) S),a3 (a6l _ _ S),a3 (a2h (.inr ⟨by decide,by decide⟩) S),a3 (U5 (by decide) S),a3 (a1z (by decide) (by decide) S),a3 (U5 hm S)]
 exact ⟨_,rfl,Int.emod_nonneg _ (Int.ne_of_gt hm),Int.emod_lt_of_pos _ hm⟩
theorem a16 {S:Sto} {p:Nat} {ns:List Int} {a l t m c:Int} (h:S[p]?=some (d6 ns a l t)) (ha:0<=a) (hl:0<=l) (ht:0<=t) (htb:t<2000000) (hm:0<m) (hm2:m<1073741824) :
  ∃ r l',D9 (.ref p) (.int m) (.int c) S=.ok (.int r) (S.set p (d6 ns (a+1) l' t))/\0<=r/\r<m/\0<=l':=by
 unfold D9
 rw [a3 (t_1 h),a3 (a6l _ _ S),a3 (c3j h _)]
 have h1:=b1t (o':=d6 ns (a+1) l t) h
 have hp:b48 (.int 10) (.int 18) (S.set p (d6 ns (a+1) l t))=.ok (.int 1000000000000000000) (S.set p (d6 ns (a+1) l t)):=rfl
 rw [a3 hp]
 have hc:b6 .GtE (.int c) (.int 1000000000000000000) (S.set p (d6 ns (a+1) l t))=.ok (.bl (decide (1000000000000000000<=c))) (S.set p (d6 ns (a+1) l t)):=rfl
 rw [a3 hc,a3 (show asB _ _=_ from rfl)]
 have fin:∀ z:Bool,(z=true->1000000000000000000<=c)->∃ r l',a11 (.ref p) (.int m) (.int c) z (S.set p (d6 ns (a+1) l t))=.ok (.int r) (S.set p (d6 ns (a+1) l' t))/\0<=r/\r<m/\0<=l':=λz hz=>by
  unfold a11
  cases z with
  | true=>
   rw [if_pos rfl,a3 (a1z hm hm2 _),a3 (c2d h1 _),a3 (U5 hm _),set_set]
   exact ⟨_,c / m,rfl,Int.emod_nonneg _ (Int.ne_of_gt hm),Int.emod_lt_of_pos _ hm,Int.ediv_nonneg (Int.le_trans (by decide) (hz rfl)) (Int.le_of_lt hm)⟩
  | false=>
   rw [if_neg Bool.false_ne_true]
   obtain ⟨r,e,r1,r2⟩:=a32 (c:=c) h1 hm ht htb
   exact ⟨r,l,e,r1,r2,hl⟩
 by_cases hz:(1000000000000000000:Int)<=c
 ·rw [decide_eq_true hz,if_pos rfl,a3 (t_1 h1),a3 (t_0 h1),a3 (B3 ns _)]
  have hc2:b6 .LtE (.int (a+1)) (.int (ns.length:Int)) (S.set p (d6 ns (a+1) l t))=.ok (.bl (decide (a+1<=(ns.length:Int)))) (S.set p (d6 ns (a+1) l t)):=rfl
  rw [a3 hc2,a3 (show asB _ _=_ from rfl)]
  exact fin _ λ_=>hz
 ·rw [decide_eq_false hz,if_neg Bool.false_ne_true]
  exact fin _ λz=>by cases z
theorem b0h {S:Sto} {p:Nat} {ns:List Int} {a l t m:Int} (h:S[p]?=some (d6 ns a l t)) (ha:0<=a) (hl:0<=l) (ht:0<=t) (htb:t<1000000) (hm:0<m) (hm2:m<1073741824) :
  ∃ r a' l',a6b (.ref p) (.int m) S=.ok (.int r) (S.set p (d6 ns a' l' (t+1)))/\0<=r/\r<m/\0<=a'/\0<=l':=by
 unfold a6b
 rw [a3 (t_3 h),a3 (a6l _ _ S),a3 (c4w h _)]
 have h1:=b1t (o':=d6 ns a l (t+1)) h
 have hc:b6 .Gt (.int l) (.int 0) (S.set p (d6 ns a l (t+1)))=.ok (.bl (decide (0<l))) (S.set p (d6 ns a l (t+1))):=rfl
 rw [a3 (t_2 h1),a3 hc,a3 (show asB _ _=_ from rfl)]
 by_cases hz:0<l
 ·rw [decide_eq_true hz,if_pos rfl,a3 (t_2 h1),a3 (U5 hm _),a3 (t_2 h1),a3 (a1z hm hm2 _),a3 (c2d h1 _),set_set]
  exact ⟨_,a,l / m,rfl,Int.emod_nonneg _ (Int.ne_of_gt hm),Int.emod_lt_of_pos _ hm,ha,Int.ediv_nonneg hl (Int.le_of_lt hm)⟩
 ·rw [decide_eq_false hz,if_neg Bool.false_ne_true,a3 (t_0 h1),a3 (T7 ns _),a3 (show asB _ _=_ from rfl)]
  have fin:∀ c:Int,∃ r a' l',D9 (.ref p) (.int m) (.int c) (S.set p (d6 ns a l (t+1)))=.ok (.int r) (S.set p (d6 ns a' l' (t+1)))/\0<=r/\r<m/\0<=a'/\0<=l':=λc=>by
   obtain ⟨r,l',e,q1,q2,q3⟩:=a16 (c:=c) h1 ha hl (by omega) (by omega) hm hm2
   rw [set_set] at e
   exact ⟨r,a+1,l',e,q1,q2,by omega,q3⟩
  cases ns with
  | nil=>
   rw [show (!([]:List Int).isEmpty)=false from rfl,if_neg Bool.false_ne_true]
   exact fin 3
  | cons n0 ns0=>
   rw [show (!(n0 :: ns0).isEmpty)=true from rfl,if_pos rfl,a3 (t_0 h1),a3 (t_1 h1),a3 (t_0 h1),a3 (B3 _ _)]
   have hn:0<((n0 :: ns0).length:Int):=by simp only [List.length_cons];omega
   rw [a3 (U5 hn _)]
   obtain ⟨z,e⟩:=b5j (ns:=n0 :: ns0) ha (by omega) (S.set p (d6 (n0 :: ns0) a l (t+1)))
   rw [a3 e]
   exact fin z
def Ft (ns:List Int) (p N:Nat) (S:Sto):Prop:=∃ a l t:Int,S[p]?=some (d6 ns a l t)/\0<=a/\0<=l/\0<=t/\t+N<1000000
theorem Ft.less {ns:List Int} {p N K:Nat} {S:Sto} (h:Ft ns p N S) (hm:K<=N):Ft ns p K S:=by
 obtain ⟨a,l,t,e,h1,h2,h3,h4⟩:=h
 exact ⟨a,l,t,e,h1,h2,h3,by omega⟩
theorem Ft.keep {ns:List Int} {p N:Nat} {S S':Sto} (h:Ft ns p N S) (e:S'[p]?=S[p]?):Ft ns p N S':=by
 obtain ⟨a,l,t,e1,h1⟩:=h
 exact ⟨a,l,t,by rw [e];exact e1,h1⟩
theorem b2a {ns:List Int} {p N m:Nat} {S:Sto} (h:Ft ns p (N+1) S) (hm:0<m) (hm2:m<1000000):Ok (a6b (.ref p) (.int (m:Int))) S λd S'=>∃ r:Nat,d=.int (r:Int)/\r<m/\Ft ns p N S'/\S'.length=S.length/\∀ q,q≠p->S'[q]?=S[q]?:=by
 obtain ⟨a,l,t,e,h1,h2,h3,h4⟩:=h
 obtain ⟨r,a',l',e1,r0,r1,ha,hl⟩:=b0h (m:=(m:Int)) e h1 h2 h3 (by omega) (by omega) (by omega)
 obtain ⟨r,rfl⟩:=Int.eq_ofNat_of_zero_le r0
 refine ⟨_,_,e1,r,rfl,by omega,⟨a',l',t+1,?_,ha,hl,by omega,by omega⟩,by simp,λq hq=>?_⟩
 ·rw [List.getElem?_set_self (List.getElem?_eq_some_iff.mp e).1]
 ·rw [List.getElem?_set_ne (Ne.symm hq)]
end L3
namespace L3.Rk
open PySem PySem.Spec PyProof.Rows L2
theorem b2i {ns:List Int} (h:ns.length<64) (S:Sto):v3 (.lst (ns.map D.int)) S=.ok (.lst ((srt ns).map D.int)) S:=by
 unfold v3
 rw [a3 (show u3 (.lst (ns.map D.int)) S=.ok (ns.map D.int) S from rfl),M2]
 show (if ns.length<64 then ret (D.lst ((srt ns).map D.int)) else bad) S=_
 rw [if_pos h];rfl
theorem b25 {l:List Int} (nd:l.Nodup):(srt l).Pairwise (· < ·):=by
 have u:=P9 l
 have n:(srt l).Pairwise (·≠·):=(b4 l).nodup_iff.mpr nd
 exact (u.and n).imp λ{a b} ⟨h1,h2⟩=>by omega
end L3.Rk
namespace L3.K40
open PySem PySem.Spec PyProof.Rows L2
noncomputable def nth (l:List Stmt) (i:Nat):Stmt:=l.getD i (.Pass ⟨0,0,0,0⟩)
noncomputable def top (i:Nat):Stmt:=nth PySem.Challenge.pw_handnames_k40_rounds_of_any_thing.main.body i
noncomputable def v5:Stmt->List Stmt
 | .For _ _ b _ _=>b
 | .While _ b _ _=>b
 | _=>[]
noncomputable def b7e:Stmt->List Stmt
 | .If _ b _ _=>b
 | _=>[]
noncomputable abbrev b6u:Fd:=u6 (top 1) []
noncomputable abbrev b8x:Fd:=u6 (top 2) []
noncomputable abbrev b9m:Fd:=u6 (top 3) []
noncomputable abbrev Af:Fd:=u6 (top 6) ["cell"]
noncomputable abbrev b8z:Fd:=u6 (top 7) []
noncomputable abbrev b70:Fd:=u6 (top 8) []
noncomputable abbrev b9z:Fd:=u6 (top 9) []
noncomputable abbrev b1u:Fd:=u6 (top 11) ["return"]
noncomputable abbrev b1i:Fd:=u6 (top 12) []
noncomputable abbrev b7x:Fd:=u6 (top 13) ["_law_left"]
noncomputable abbrev Ag:Fd:=u6 (top 14) ["_law_found"]
noncomputable abbrev Aa:Fd:=u6 (top 15) ["_law_groups","[]"]
noncomputable abbrev Ac:Fd:=u6 (top 16) ["_law_found"]
noncomputable abbrev b17:Fd:=u6 (top 17) []
noncomputable abbrev b2h:Fd:=u6 (top 18) []
noncomputable abbrev a8x:Fd:=u6 (top 19) []
noncomputable abbrev Ae:Fd:=u6 (top 20) ["_law_met"]
noncomputable abbrev Ad:Fd:=u6 (top 21) []
noncomputable abbrev a4x:Fd:=u6 (top 22) []
noncomputable abbrev Ab:Fd:=u6 (top 23) ["b+"]
noncomputable abbrev b1m:Fd:=u6 (top 24) []
noncomputable abbrev law_F:Fd:=u6 (top 25) ["_law_things"]
noncomputable abbrev c15:Nat:=0
noncomputable abbrev b6e:Nat:=1
noncomputable abbrev c1j:Nat:=2
noncomputable abbrev c0i:Nat:=3
noncomputable abbrev c1n:Nat:=4
noncomputable abbrev b6g:Nat:=5
noncomputable abbrev c0y:Nat:=6
noncomputable abbrev b69:Nat:=7
noncomputable abbrev W3:Nat:=8
noncomputable abbrev c01:Nat:=9
noncomputable abbrev b87:Nat:=10
noncomputable abbrev b8w:Nat:=11
noncomputable abbrev b8d:Nat:=12
noncomputable abbrev b7f:Nat:=13
noncomputable abbrev b2m:Nat:=14
noncomputable abbrev b9r:Nat:=15
noncomputable abbrev c1z:Nat:=16
noncomputable abbrev c0n:Nat:=17
noncomputable abbrev b41:Nat:=18
noncomputable abbrev a5j:Nat:=19
noncomputable abbrev b2j:Nat:=20
noncomputable abbrev b1h:Nat:=21
noncomputable def Tb:List Fd:=[b6u,b8x,b9m,Af,b8z,b70,b9z,b1u,b1i,b7x,Ag,Aa,Ac,b17,b2h,a8x,Ae,Ad,a4x,Ab,b1m,law_F]
noncomputable def Γ:Gm:=⟨("MOST_ROUNDS",.val (.int 4)) :: ("is_whole",.fn 0 1) :: ("is_within",.fn 1 3) :: ("are_rising_hands",.fn 2 2) :: ("are_rounds",.fn 3 2) :: ("is_round",.fn 4 2) :: ("is_block",.fn 5 2) :: ("hands_of_round",.fn 6 1) :: ("_law_tape",.fn 7 1) :: ("_law_draw",.fn 8 2) :: ("_law_shuffled",.fn 9 2) :: ("_law_hands",.fn 10 1) :: ("_law_round",.fn 11 2) :: ("_law_rounds",.fn 12 3) :: ("_law_size",.fn 13 1) :: ("_law_whole",.fn 14 3) :: ("_law_rises",.fn 15 1) :: ("_law_is_round",.fn 16 2) :: ("_law_are_rounds",.fn 17 2) :: ("_law_odd",.fn 18 1) :: ("_law_bent",.fn 19 2) :: ("_law_right",.fn 20 2) :: ("law",.fn 21 1) :: [],λc c0=>c0==0||c==c0,[],[]⟩
noncomputable def Rs:Rules:=⟨[b9f,c2i,c1p,c0x,c4d,c4f,rIx,c34,c4c,rFn,c26,b3r,b3j,b2u,c3m,b9t,c0k,c3a,b5c,c4e,c4p,c12,c2p,rIf,c4t,c4h,rSl,c3v,b7d,b65,b6z,b02,rAppend,b4x,c38],[b8v,c2v,c32,a1a,b62],[sIf,c35,c0h,c4u,c1t,a89,c3h,c31,c0b,c0c,c2e],[b42,b2w,c4x]⟩
noncomputable abbrev rn (k i:Nat) (ds:List D):M D:=J3 Rs Γ Tb k i ds
section
variable (C:Cf) {α:Type} (κ:Fl->M α) {ua ub uc ud ue:D} {qa qb qc qd qe qf qg qh qi qj:Option D}
theorem b8a:runK Rs Γ C b6u [ua]=bind (v7 "int" (λ_=>false) ua) λx1=>bind (i8 x1) λc2=>if c2=true then (bind (v7 "bool" (λ_=>false) ua) λx3=>bind (i8 x3) λc4=>ret (.bl (!c4))) else (ret x1):=by kernel_rfl
theorem b6v:runK Rs Γ C b8x [ua,ub,uc]=bind (C 0 [ua]) λx1=>bind (i8 x1) λc2=>if c2=true then (bind (b6 .LtE ub ua) λx3=>bind (asB x3) λz4=>if z4=true then (bind (b6 .LtE ua uc) λx5=>ret x5) else (ret (.bl false))) else (ret x1):=by kernel_rfl
theorem b7s:runK Rs Γ C b9m [ua,ub]=bind (v7 "tuple" (λ_=>false) ub) λx1=>bind (i8 x1) λz2=>if (!z2)=true then (ret (.bl false)) else (bind (nx (bind (k5 ub) λsm4=>f7 sm4.1 (λd3=>ret true) (λd3=>bind (M5 ua (.int 1)) λx5=>bind (C 1 [d3,(.int 0),x5]) λx6=>ret x6) sm4.2 0 [])) λl7=>bind (a7g (.lst l7)) λx8=>bind (i8 x8) λz9=>if (!z9)=true then (ret (.bl false)) else (bind (a0j ub) λx10=>bind (G0 ub) λx11=>bind (b6 .Eq x10 x11) λx12=>ret x12)):=by kernel_rfl
noncomputable def a1o:Lc:=J4 Af
theorem b9c:runK Rs Γ C Af [ua,ub]=u4 (evK Rs Γ C 40) a1o Af.body [some ua,some ub,none,none,none] endD:=by kernel_rfl
theorem b68:Af.body=[nth Af.body 0,nth Af.body 1,nth Af.body 2,nth Af.body 3]:=by kernel_rfl
theorem c18:(evK Rs Γ C 40).s a1o (nth Af.body 0) [qa,some ua,qb,qc,qd] κ=bind (v7 "tuple" (λ_=>false) ua) λx1=>bind (i8 x1) λz2=>if (!z2)=true then (κ (.rt (.bl false))) else (bind (y0 ua) λx3=>bind (b6 .LtE (.int 1) x3) λx4=>bind (asB x4) λz5=>if z5=true then (bind (b6 .LtE x3 (.int 4)) λx6=>bind (asB x6) λz7=>if (!z7)=true then (κ (.rt (.bl false))) else (κ (.nx [qa,some ua,qb,qc,qd]))) else (if (!false)=true then (κ (.rt (.bl false))) else (κ (.nx [qa,some ua,qb,qc,qd])))):=by kernel_rfl
theorem c4i:(evK Rs Γ C 40).s a1o (nth Af.body 1) [some ua,qa,qb,qc,qd] κ=bind (C1 ua) λx1=>κ (.nx [some ua,qa,some x1,qc,qd]):=by kernel_rfl
noncomputable def E6:List Stmt:=v5 (nth Af.body 2)
noncomputable def a6k (C:Cf):L3.Env->M Fl:=λρ'=>u4 (evK Rs Γ C 39) a1o E6 ρ' ret
theorem c3w:(evK Rs Γ C 40).s a1o (nth Af.body 2) [qa,some ua,qb,qc,qd] κ=bind (k5 ua) λsm1=>bind (v8 sm1.1 (λd ρ=>some (ρ.set 3 (some d))) (a6k C) sm1.2 0 [qa,some ua,qb,qc,qd]) κ:=by kernel_rfl
theorem c4l:(evK Rs Γ C 40).s a1o (nth Af.body 3) [qa,qb,qc,qd,qe] κ=κ (.rt (.bl true)):=by kernel_rfl
theorem a35:E6=[nth E6 0,nth E6 1,nth E6 2]:=by kernel_rfl
theorem b1w:(evK Rs Γ C 39).s a1o (nth E6 0) [some ua,qa,qb,some ub,qc] κ=bind (C 4 [ua,ub]) λx1=>bind (i8 x1) λz2=>if (!z2)=true then (κ (.rt (.bl false))) else (κ (.nx [some ua,qa,qb,some ub,qc])):=by kernel_rfl
theorem a85:(evK Rs Γ C 39).s a1o (nth E6 1) [qa,qb,some ua,some ub,qc] κ=bind (C 6 [ub]) λx1=>κ (.nx [qa,qb,some x1,some ub,some ua]):=by kernel_rfl
theorem b2g:(evK Rs Γ C 39).s a1o (nth E6 2) [qa,qb,some ua,qc,some ub] κ=bind (nx (bind (k5 ua) λsm2=>f7 sm2.1 (λd1=>ret true) (λd1=>bind (b6 .In d1 ub) λx3=>ret x3) sm2.2 0 [])) λl4=>bind (a7g (.lst l4)) λx5=>bind (i8 x5) λz6=>if (!z6)=true then (κ (.rt (.bl false))) else (κ (.nx [qa,qb,some ua,qc,some ub])):=by kernel_rfl
theorem b8r:runK Rs Γ C b8z [ua,ub]=bind (v7 "tuple" (λ_=>false) ub) λx1=>bind (i8 x1) λz2=>if (!z2)=true then (ret (.bl false)) else (bind (i8 ub) λz3=>if (!z3)=true then (ret (.bl false)) else (bind (nx (bind (k5 ub) λsm5=>f7 sm5.1 (λd4=>ret true) (λd4=>bind (C 5 [ua,d4]) λx6=>ret x6) sm5.2 0 [])) λl7=>bind (a7g (.lst l7)) λx8=>bind (i8 x8) λz9=>if (!z9)=true then (ret (.bl false)) else (bind (C 6 [ub]) λx10=>bind (M4 x10) λx11=>bind (y0 x10) λx12=>bind (b6 .Eq x11 x12) λx13=>ret x13))):=by kernel_rfl
theorem b8n:runK Rs Γ C b70 [ua,ub]=bind (C 2 [ua,ub]) λx1=>bind (i8 x1) λc2=>if c2=true then (bind (y0 ub) λx3=>bind (b6 .Gt x3 (.int 0)) λx4=>ret x4) else (ret x1):=by kernel_rfl
theorem b8k:runK Rs Γ C b9z [ua]=bind (nx (bind (k5 ua) λsm3=>C3 sm3.1 (λd1=>ret true) (λd1=>bind (k5 d1) λsm4=>ret sm4) (λd1 d2=>ret true) (λd1 d2=>ret d2) sm3.2 0 [])) λl5=>bind (v3 (.lst l5)) λx6=>ret x6:=by kernel_rfl
theorem b5a:runK Rs Γ C b1u [ua]=bind (slD ua none (some 63)) λx1=>bind (a0j x1) λx2=>bind (w9 [x2,(.int 0),(.int 0),(.int 0)]) λx3=>ret x3:=by kernel_rfl
theorem b5o (C:Cf) (p x:D):runK Rs Γ C b1i [p,x]=a6b p x:=by kernel_rfl
theorem b8h:runK Rs Γ C b7x [ua,ub]=bind (listP ub) λx1=>bind (nx (bind (y0 ub) λx3=>bind (B1 [x3]) λsm4=>f7 sm4.1 (λd2=>ret true) (λd2=>bind (lstOf x1) λ_=>bind (y0 x1) λx5=>bind (C 8 [ua,x5]) λx6=>bind (popD x1 [x6]) λx7=>ret x7) sm4.2 0 [])) λl8=>ret (.lst l8):=by kernel_rfl
noncomputable def a0f:Lc:=J4 Ag
theorem b32:runK Rs Γ C Ag [ua]=u4 (evK Rs Γ C 40) a0f Ag.body [some ua,none,none] endD:=by kernel_rfl
theorem b5s:Ag.body=[nth Ag.body 0,nth Ag.body 1,nth Ag.body 2]:=by kernel_rfl
theorem c0r:(evK Rs Γ C 40).s a0f (nth Ag.body 0) [qa,qb,qc] κ=bind (w9 []) λx1=>κ (.nx [qa,some x1,qc]):=by kernel_rfl
noncomputable def T1:List Stmt:=v5 (nth Ag.body 1)
noncomputable def a3a (C:Cf):L3.Env->M Fl:=λρ'=>u4 (evK Rs Γ C 39) a0f T1 ρ' ret
theorem c22:(evK Rs Γ C 40).s a0f (nth Ag.body 1) [some ua,qa,qb] κ=bind (k5 ua) λsm1=>bind (v8 sm1.1 (λd ρ=>some (ρ.set 2 (some d))) (a3a C) sm1.2 0 [some ua,qa,qb]) κ:=by kernel_rfl
theorem c2o:(evK Rs Γ C 40).s a0f (nth Ag.body 2) [qa,some ua,qb] κ=bind (v3 ua) λx1=>κ (.rt x1):=by kernel_rfl
theorem a2f:T1=[nth T1 0]:=by kernel_rfl
theorem a7c:(evK Rs Γ C 39).s a0f (nth T1 0) [qa,some ua,some ub] κ=bind (lstOf ua) λ_=>bind (extD ua [ub]) λx1=>κ (.nx [qa,some ua,some ub]):=by kernel_rfl
noncomputable def y7:Lc:=J4 Aa
theorem b50:runK Rs Γ C Aa [ua,ub]=u4 (evK Rs Γ C 40) y7 Aa.body [some ua,some ub,none,none,none,none,none] endD:=by kernel_rfl
theorem b3f:Aa.body=[nth Aa.body 0,nth Aa.body 1,nth Aa.body 2,nth Aa.body 3,nth Aa.body 4,nth Aa.body 5,nth Aa.body 6]:=by kernel_rfl
theorem c0l:(evK Rs Γ C 40).s y7 (nth Aa.body 0) [some ua,some ub,qa,qb,qc,qd,qe] κ=bind (C 9 [ua,ub]) λx1=>κ (.nx [some ua,some ub,some x1,qb,qc,qd,qe]):=by kernel_rfl
theorem c1a:(evK Rs Γ C 40).s y7 (nth Aa.body 1) [qa,qb,some ua,qc,qd,qe,qf] κ=bind (y0 ua) λx1=>κ (.nx [qa,qb,some ua,some x1,qd,qe,qf]):=by kernel_rfl
theorem c1u:(evK Rs Γ C 40).s y7 (nth Aa.body 2) [some ua,qa,some ub,qb,qc,qd,qe] κ=bind (C 8 [ua,(.int 2)]) λx1=>bind (b6 .Eq x1 (.int 0)) λx2=>bind (asB x2) λz3=>if z3=true then (bind (y0 ub) λx4=>bind (C 8 [ua,x4]) λx5=>bind (C8 (.int 1) x5) λx6=>κ (.nx [some ua,qa,some ub,some x6,qc,qd,qe])) else (κ (.nx [some ua,qa,some ub,qb,qc,qd,qe])):=by kernel_rfl
theorem c05:(evK Rs Γ C 40).s y7 (nth Aa.body 3) [qa,qb,qc,qd,qe,qf,qg] κ=bind (w9 []) λx1=>κ (.nx [qa,qb,qc,qd,some x1,qf,qg]):=by kernel_rfl
theorem c3d:(evK Rs Γ C 40).s y7 (nth Aa.body 4) [some ua,qa,qb,qc,qd,qe,qf] κ=bind (C 8 [ua,(.int 2)]) λx1=>bind (C8 (.int 2) x1) λx2=>κ (.nx [some ua,qa,qb,qc,qd,some x2,qf]):=by kernel_rfl
noncomputable def w6:List Stmt:=v5 (nth Aa.body 5)
noncomputable def a2o (C:Cf):L3.Env->M Fl:=λρ'=>u4 (evK Rs Γ C 39) y7 w6 ρ' ret
theorem c2n:(evK Rs Γ C 40).s y7 (nth Aa.body 5) [qa,qb,some ua,some ub,qc,qd,qe] κ=bind (C7 ub) λn1=>bind (slD ua none n1) λx2=>bind (k5 x2) λsm3=>bind (v8 sm3.1 (λd ρ=>some (ρ.set 6 (some d))) (a2o C) sm3.2 0 [qa,qb,some ua,some ub,qc,qd,qe]) κ:=by kernel_rfl
theorem c2h:(evK Rs Γ C 40).s y7 (nth Aa.body 6) [qa,qb,qc,qd,some ua,qe,qf] κ=bind (nx (bind (k5 ua) λsm2=>f7 sm2.1 (λd1=>ret true) (λd1=>bind (v3 d1) λx3=>bind (K3 x3) λx4=>ret x4) sm2.2 0 [])) λl5=>bind (K3 (.lst l5)) λx6=>κ (.rt x6):=by kernel_rfl
theorem a3y:w6=[nth w6 0,nth w6 1]:=by kernel_rfl
theorem a7k:(evK Rs Γ C 39).s y7 (nth w6 0) [some ua,qa,qb,qc,some ub,some uc,qd] κ=bind (b6 .Eq ub (.lst [])) λx1=>bind (asB x1) λz2=>if z2=true then (bind (lstOf ub) λ_=>bind (w9 []) λx3=>bind (J9 ub [x3]) λx4=>κ (.nx [some ua,qa,qb,qc,some ub,some uc,qd])) else (bind (C 8 [ua,uc]) λx5=>bind (b6 .Eq x5 (.int 0)) λx6=>bind (asB x6) λz7=>if z7=true then (bind (lstOf ub) λ_=>bind (w9 []) λx8=>bind (J9 ub [x8]) λx9=>κ (.nx [some ua,qa,qb,qc,some ub,some uc,qd])) else (κ (.nx [some ua,qa,qb,qc,some ub,some uc,qd]))):=by kernel_rfl
theorem a70:(evK Rs Γ C 39).s y7 (nth w6 1) [qa,qb,qc,qd,some ua,qe,some ub] κ=bind (Y3 (.int 1)) λx1=>bind (ixD ua x1) λx2=>bind (lstOf x2) λ_=>bind (J9 x2 [ub]) λx3=>κ (.nx [qa,qb,qc,qd,some ua,qe,some ub]):=by kernel_rfl
noncomputable def Q1:Lc:=J4 Ac
theorem b2t:runK Rs Γ C Ac [ua,ub,uc]=u4 (evK Rs Γ C 40) Q1 Ac.body [some ua,some ub,some uc,none,none,none] endD:=by kernel_rfl
theorem b4c:Ac.body=[nth Ac.body 0,nth Ac.body 1,nth Ac.body 2,nth Ac.body 3]:=by kernel_rfl
theorem c2a:(evK Rs Γ C 40).s Q1 (nth Ac.body 0) [qa,some ua,qb,qc,qd,qe] κ=bind (C1 ua) λx1=>κ (.nx [qa,some ua,qb,some x1,qd,qe]):=by kernel_rfl
theorem c11:(evK Rs Γ C 40).s Q1 (nth Ac.body 1) [qa,qb,qc,qd,qe,qf] κ=bind (w9 []) λx1=>κ (.nx [qa,qb,qc,qd,some x1,qf]):=by kernel_rfl
noncomputable def J0:List Stmt:=v5 (nth Ac.body 2)
noncomputable def a3w (C:Cf):L3.Env->M Fl:=λρ'=>u4 (evK Rs Γ C 39) Q1 J0 ρ' ret
theorem c2w:(evK Rs Γ C 40).s Q1 (nth Ac.body 2) [some ua,qa,some ub,qb,qc,qd] κ=bind (C 8 [ua,ub]) λx1=>bind (C8 (.int 1) x1) λx2=>bind (B1 [x2]) λsm3=>bind (v8 sm3.1 (λd ρ=>some (ρ.set 5 (some d))) (a3w C) sm3.2 0 [some ua,qa,some ub,qb,qc,qd]) κ:=by kernel_rfl
theorem c3b:(evK Rs Γ C 40).s Q1 (nth Ac.body 3) [qa,qb,qc,qd,some ua,qe] κ=bind (K3 ua) λx1=>κ (.rt x1):=by kernel_rfl
theorem a3b:J0=[nth J0 0,nth J0 1]:=by kernel_rfl
theorem a7r:(evK Rs Γ C 39).s Q1 (nth J0 0) [some ua,qa,qb,some ub,some uc,qc] κ=bind (lstOf uc) λ_=>bind (C 11 [ua,ub]) λx1=>bind (J9 uc [x1]) λx2=>κ (.nx [some ua,qa,qb,some ub,some uc,qc]):=by kernel_rfl
theorem a7y:(evK Rs Γ C 39).s Q1 (nth J0 1) [qa,qb,qc,qd,some ua,qe] κ=bind (Y3 (.int 1)) λx1=>bind (ixD ua x1) λx2=>bind (C 10 [x2]) λx3=>κ (.nx [qa,qb,qc,some x3,some ua,qe]):=by kernel_rfl
theorem b4i:runK Rs Γ C b2h [ua,ub,uc]=bind (v7 "int" (λ_=>false) ua) λx1=>bind (i8 x1) λc2=>if c2=true then (bind (v7 "bool" (λ_=>false) ua) λx3=>bind (i8 x3) λc4=>bind (i8 (.bl (!c4))) λc5=>if c5=true then (bind (b6 .LtE ub ua) λx6=>bind (asB x6) λz7=>if z7=true then (bind (b6 .LtE ua uc) λx8=>ret x8) else (ret (.bl false))) else (ret (.bl (!c4)))) else (ret x1):=by kernel_rfl
theorem b29:runK Rs Γ C a8x [ua]=bind (nx (bind (y0 ua) λx2=>bind (B1 [(.int 1),x2]) λsm3=>f7 sm3.1 (λd1=>bind (M5 d1 (.int 1)) λx4=>bind (ixD ua x4) λx5=>bind (ixD ua d1) λx6=>bind (b6 .GtE x5 x6) λx7=>bind (asB x7) λz8=>ret z8) (λd1=>ret d1) sm3.2 0 [])) λl9=>bind (b6 .Eq (.lst l9) (.lst [])) λx10=>ret x10:=by kernel_rfl
noncomputable def a0w:Lc:=J4 Ae
theorem b75:runK Rs Γ C Ae [ua,ub]=u4 (evK Rs Γ C 40) a0w Ae.body [some ua,some ub,none,none] endD:=by kernel_rfl
theorem b78:Ae.body=[nth Ae.body 0,nth Ae.body 1,nth Ae.body 2,nth Ae.body 3]:=by kernel_rfl
theorem c20:(evK Rs Γ C 40).s a0w (nth Ae.body 0) [qa,some ua,qb,qc] κ=bind (v7 "tuple" (λ_=>false) ua) λx1=>bind (i8 x1) λz2=>if (!z2)=true then (κ (.rt (.bl false))) else (bind (b6 .Eq ua (.tup [])) λx3=>bind (asB x3) λz4=>if z4=true then (κ (.rt (.bl false))) else (κ (.nx [qa,some ua,qb,qc]))):=by kernel_rfl
theorem c39:(evK Rs Γ C 40).s a0w (nth Ae.body 1) [qa,qb,qc,qd] κ=bind (w9 []) λx1=>κ (.nx [qa,qb,some x1,qd]):=by kernel_rfl
noncomputable def D6:List Stmt:=v5 (nth Ae.body 2)
noncomputable def a5l (C:Cf):L3.Env->M Fl:=λρ'=>u4 (evK Rs Γ C 39) a0w D6 ρ' ret
theorem c4j:(evK Rs Γ C 40).s a0w (nth Ae.body 2) [qa,some ua,qb,qc] κ=bind (k5 ua) λsm1=>bind (v8 sm1.1 (λd ρ=>some (ρ.set 3 (some d))) (a5l C) sm1.2 0 [qa,some ua,qb,qc]) κ:=by kernel_rfl
theorem c3u:(evK Rs Γ C 40).s a0w (nth Ae.body 3) [qa,qb,some ua,qc] κ=bind (v3 ua) λx1=>bind (C 15 [x1]) λx2=>κ (.rt x2):=by kernel_rfl
theorem a43:D6=[nth D6 0,nth D6 1,nth D6 2]:=by kernel_rfl
theorem a9j:(evK Rs Γ C 39).s a0w (nth D6 0) [qa,qb,qc,some ua] κ=bind (v7 "tuple" (λ_=>false) ua) λx1=>bind (i8 x1) λz2=>if (!z2)=true then (κ (.rt (.bl false))) else (bind (b6 .Eq ua (.tup [])) λx3=>bind (asB x3) λz4=>if z4=true then (κ (.rt (.bl false))) else (κ (.nx [qa,qb,qc,some ua]))):=by kernel_rfl
theorem b1n:(evK Rs Γ C 39).s a0w (nth D6 1) [some ua,qa,qb,some ub] κ=bind (nx (bind (k5 ub) λsm2=>f7 sm2.1 (λd1=>ret true) (λd1=>bind (M5 ua (.int 1)) λx3=>bind (C 14 [d1,(.int 0),x3]) λx4=>ret x4) sm2.2 0 [])) λl5=>bind (b6 .In (.bl false) (.lst l5)) λx6=>bind (asB x6) λz7=>if z7=true then (κ (.rt (.bl false))) else (bind (C 15 [ub]) λx8=>bind (i8 x8) λz9=>if (!z9)=true then (κ (.rt (.bl false))) else (κ (.nx [some ua,qa,qb,some ub]))):=by kernel_rfl
theorem b1a:(evK Rs Γ C 39).s a0w (nth D6 2) [qa,qb,some ua,some ub] κ=bind (lstOf ua) λ_=>bind (extD ua [ub]) λx1=>κ (.nx [qa,qb,some ua,some ub]):=by kernel_rfl
noncomputable def a2x:Lc:=J4 Ad
theorem b6q:runK Rs Γ C Ad [ua,ub]=u4 (evK Rs Γ C 40) a2x Ad.body [some ua,some ub,none,none] endD:=by kernel_rfl
theorem b9s:Ad.body=[nth Ad.body 0,nth Ad.body 1,nth Ad.body 2,nth Ad.body 3]:=by kernel_rfl
theorem c2u:(evK Rs Γ C 40).s a2x (nth Ad.body 0) [qa,some ua,qb,qc] κ=bind (v7 "tuple" (λ_=>false) ua) λx1=>bind (i8 x1) λz2=>if (!z2)=true then (κ (.rt (.bl false))) else (bind (y0 ua) λx3=>bind (b6 .LtE (.int 1) x3) λx4=>bind (asB x4) λz5=>if z5=true then (bind (b6 .LtE x3 (.int 4)) λx6=>bind (asB x6) λz7=>if (!z7)=true then (κ (.rt (.bl false))) else (κ (.nx [qa,some ua,qb,qc]))) else (if (!false)=true then (κ (.rt (.bl false))) else (κ (.nx [qa,some ua,qb,qc])))):=by kernel_rfl
theorem c3k:(evK Rs Γ C 40).s a2x (nth Ad.body 1) [some ua,some ub,qa,qb] κ=bind (nx (bind (k5 ub) λsm2=>f7 sm2.1 (λd1=>ret true) (λd1=>bind (C 16 [ua,d1]) λx3=>ret x3) sm2.2 0 [])) λl4=>bind (b6 .In (.bl false) (.lst l4)) λx5=>bind (asB x5) λz6=>if z6=true then (κ (.rt (.bl false))) else (κ (.nx [some ua,some ub,qa,qb])):=by kernel_rfl
noncomputable def O7:List Stmt:=v5 (nth Ad.body 2)
noncomputable def a59 (C:Cf):L3.Env->M Fl:=λρ'=>u4 (evK Rs Γ C 39) a2x O7 ρ' ret
theorem c4r:(evK Rs Γ C 40).s a2x (nth Ad.body 2) [qa,some ua,qb,qc] κ=bind (y0 ua) λx1=>bind (B1 [(.int 1),x1]) λsm2=>bind (v8 sm2.1 (λd ρ=>some (ρ.set 2 (some d))) (a59 C) sm2.2 0 [qa,some ua,qb,qc]) κ:=by kernel_rfl
theorem c4a:(evK Rs Γ C 40).s a2x (nth Ad.body 3) [qa,qb,qc,qd] κ=κ (.rt (.bl true)):=by kernel_rfl
theorem a40:O7=[nth O7 0,nth O7 1]:=by kernel_rfl
theorem a9d:(evK Rs Γ C 39).s a2x (nth O7 0) [qa,some ua,some ub,qb] κ=bind (M5 ub (.int 1)) λx1=>bind (ixD ua x1) λx2=>bind (C 10 [x2]) λx3=>κ (.nx [qa,some ua,some ub,some x3]):=by kernel_rfl
theorem b1x:(evK Rs Γ C 39).s a2x (nth O7 1) [qa,some ua,some ub,some uc] κ=bind (nx (bind (ixD ua ub) λx2=>bind (C 10 [x2]) λx3=>bind (k5 x3) λsm4=>f7 sm4.1 (λd1=>bind (b6 .NotIn d1 uc) λx5=>bind (asB x5) λz6=>ret z6) (λd1=>ret d1) sm4.2 0 [])) λl7=>bind (b6 .NotEq (.lst l7) (.lst [])) λx8=>bind (asB x8) λz9=>if z9=true then (κ (.rt (.bl false))) else (κ (.nx [qa,some ua,some ub,some uc])):=by kernel_rfl
noncomputable def E3:Lc:=J4 Ab
theorem a07:runK Rs Γ C Ab [ua,ub]=u4 (evK Rs Γ C 40) E3 Ab.body [some ua,some ub,none,none,none] endD:=by kernel_rfl
theorem a0x:Ab.body=[nth Ab.body 0,nth Ab.body 1,nth Ab.body 2,nth Ab.body 3,nth Ab.body 4]:=by kernel_rfl
theorem b0o:(evK Rs Γ C 40).s E3 (nth Ab.body 0) [some ua,some ub,qa,qb,qc] κ=bind (v7 "tuple" (λ_=>false) ub) λx1=>bind (i8 x1) λz2=>if z2=true then (bind (b6 .NotEq ub (.tup [])) λx3=>bind (asB x3) λz4=>if z4=true then (bind (C 8 [ua,(.int 5)]) λx5=>bind (b6 .Gt x5 (.int 0)) λx6=>bind (asB x6) λz7=>if z7=true then (bind (y0 ub) λx8=>bind (C 8 [ua,x8]) λx9=>bind (C7 x9) λn10=>bind (slD ub none n10) λx11=>bind (ixD ub x9) λx12=>bind (C 19 [ua,x12]) λx13=>bind (y8 x11 (.tup [x13])) λx14=>bind (y8 x9 (.int 1)) λx15=>bind (C7 x15) λn16=>bind (slD ub n16 none) λx17=>bind (y8 x14 x17) λx18=>κ (.rt x18)) else (κ (.nx [some ua,some ub,qa,qb,qc]))) else (κ (.nx [some ua,some ub,qa,qb,qc]))) else (κ (.nx [some ua,some ub,qa,qb,qc])):=by kernel_rfl
theorem a86:(evK Rs Γ C 40).s E3 (nth Ab.body 1) [some ua,qa,qb,qc,qd] κ=bind (C 8 [ua,(.int 7)]) λx1=>κ (.nx [some ua,qa,qb,some x1,qd]):=by kernel_rfl
noncomputable def B2:List Stmt:=b7e (nth Ab.body 2)
theorem a9g:(evK Rs Γ C 40).s E3 (nth Ab.body 2) [qa,some ua,qb,some ub,qc] κ=bind (v7 "tuple" (λ_=>false) ua) λx1=>bind (i8 x1) λz2=>if z2=true then (bind (b6 .Gt ub (.int 0)) λx3=>bind (asB x3) λz4=>if z4=true then (u4 (evK Rs Γ C 39) E3 B2 [qa,some ua,qb,some ub,qc] κ) else (κ (.nx [qa,some ua,qb,some ub,qc]))) else (κ (.nx [qa,some ua,qb,some ub,qc])):=by kernel_rfl
theorem a94:(evK Rs Γ C 40).s E3 (nth Ab.body 3) [qa,some ua,qb,some ub,qc] κ=bind (v7 "int" (λ_=>false) ua) λx1=>bind (i8 x1) λz2=>if z2=true then (bind (b6 .Gt ub (.int 1)) λx3=>bind (asB x3) λz4=>if z4=true then (bind (y8 ua (.int 1)) λx5=>bind (a1k ua (.int 1)) λx6=>bind (b6 .Eq ua (.int 1)) λx7=>bind (b5l ua) λx8=>bind (a1k ub (.int 2)) λx9=>bind (ixD (.lst [x5,x6,x7,x8,(.tup [ua])]) x9) λx10=>κ (.rt x10)) else (κ (.nx [qa,some ua,qb,some ub,qc]))) else (κ (.nx [qa,some ua,qb,some ub,qc])):=by kernel_rfl
theorem a95:(evK Rs Γ C 40).s E3 (nth Ab.body 4) [some ua,qa,qb,qc,qd] κ=bind (C 18 [ua]) λx1=>κ (.rt x1):=by kernel_rfl
theorem a2d:B2=[nth B2 0,nth B2 1,nth B2 2]:=by kernel_rfl
theorem a8r:(evK Rs Γ C 39).s E3 (nth B2 0) [some ua,some ub,qa,qb,qc] κ=bind (y0 ub) λx1=>bind (y8 x1 (.int 1)) λx2=>bind (C 8 [ua,x2]) λx3=>κ (.nx [some ua,some ub,some x3,qb,qc]):=by kernel_rfl
theorem a7q:(evK Rs Γ C 39).s E3 (nth B2 1) [qa,some ua,some ub,qb,qc] κ=bind (a0j ua) λx1=>bind (C7 ub) λn2=>bind (slD ua none n2) λx3=>bind (y8 ub (.int 1)) λx4=>bind (C7 x4) λn5=>bind (slD ua n5 none) λx6=>bind (y8 x3 x6) λx7=>bind (C7 ub) λn8=>bind (slD ua none n8) λx9=>bind (C7 ub) λn10=>bind (y8 ub (.int 1)) λx11=>bind (C7 x11) λn12=>bind (slD ua n10 n12) λx13=>bind (y8 x9 x13) λx14=>bind (C7 ub) λn15=>bind (slD ua n15 none) λx16=>bind (y8 x14 x16) λx17=>bind (Y3 (.int 1)) λx18=>bind (a2k ua x18) λx19=>κ (.nx [qa,some ua,some ub,qb,some (.lst [x1,x7,x17,x19])]):=by kernel_rfl
theorem a8h:(evK Rs Γ C 39).s E3 (nth B2 2) [some ua,some ub,some uc,some ud,some ue] κ=bind (C7 uc) λn1=>bind (slD ub none n1) λx2=>bind (C 18 [ua]) λx3=>bind (y8 x2 (.tup [x3])) λx4=>bind (C7 uc) λn5=>bind (slD ub n5 none) λx6=>bind (y8 x4 x6) λx7=>bind (y8 ue (.lst [x7,(.tup [])])) λx8=>bind (a1k ud (.int 1)) λx9=>bind (ixD x8 x9) λx10=>κ (.rt x10):=by kernel_rfl
theorem b4e:runK Rs Γ C b1m [ua,ub]=bind (D7 ub) λx1=>bind (C 3 [ua,ub]) λx2=>bind (D7 x2) λx3=>bind (C 17 [ua,ub]) λx4=>bind (D7 x4) λx5=>bind (b6 .Eq x3 x5) λx6=>bind (i8 x6) λc7=>if c7=true then (bind (D7 ub) λx8=>bind (b6 .Eq x8 x1) λx9=>ret x9) else (ret x6):=by kernel_rfl
noncomputable def m9:Lc:=J4 law_F
theorem b4l:runK Rs Γ C law_F [ua]=u4 (evK Rs Γ C 40) m9 law_F.body [some ua,none,none,none,none,none,none,none,none,none] endD:=by kernel_rfl
theorem b38:law_F.body=[nth law_F.body 0,nth law_F.body 1,nth law_F.body 2,nth law_F.body 3,nth law_F.body 4,nth law_F.body 5,nth law_F.body 6]:=by kernel_rfl
theorem c09:(evK Rs Γ C 40).s m9 (nth law_F.body 0) [some ua,qa,qb,qc,qd,qe,qf,qg,qh,qi] κ=bind (C 7 [ua]) λx1=>κ (.nx [some ua,some x1,qb,qc,qd,qe,qf,qg,qh,qi]):=by kernel_rfl
theorem c3c:(evK Rs Γ C 40).s m9 (nth law_F.body 1) [qa,qb,qc,qd,qe,qf,qg,qh,qi,qj] κ=κ (.nx [qa,qb,some (.lst [.non,(.tup []),(.lst []),(.tup [(.tup [])]),(.tup [(.tup [(.tup [])])]),(.tup [(.tup [(.tup [(.int 0)])])]),(.tup [(.tup [(.int 0)])]),(.tup [(.lst [(.tup [(.int 0)])])]),(.tup [(.tup [(.lst [(.int 0)])])]),(.str "a"),(.bl true),(.tup [(.tup [(.tup [(.tup [(.int 0)])])])])]),qd,qe,qf,qg,qh,qi,qj]):=by kernel_rfl
theorem c0z:(evK Rs Γ C 40).s m9 (nth law_F.body 2) [qa,qb,some ua,qc,qd,qe,qf,qg,qh,qi] κ=bind (Y3 (.int 1)) λx1=>bind (C8 ua (.lst [(.tup [(.tup [(.tup [(.int 0),(.int 0)])])]),(.tup [(.tup [(.tup [(.int 0)]),(.tup [(.int 0)])])]),(.tup [(.tup [(.tup [(.int 1),(.int 0)])])]),(.tup [(.tup [(.tup [(.bl true)])])]),(.tup [(.tup [(.tup [x1])])]),(.tup [(.tup [(.tup [(.int 0)]),(.tup [])])])])) λx2=>κ (.nx [qa,qb,some x2,qc,qd,qe,qf,qg,qh,qi]):=by kernel_rfl
theorem c2f:(evK Rs Γ C 40).s m9 (nth law_F.body 3) [qa,qb,some ua,qc,qd,qe,qf,qg,qh,qi] κ=bind (C8 ua (.lst [(.tup [(.tup []),(.tup [(.tup [(.int 0)])])]),(.tup [(.tup [(.tup [(.int 1)])]),(.tup [(.tup [(.int 0)])])])])) λx1=>κ (.nx [qa,qb,some x1,qc,qd,qe,qf,qg,qh,qi]):=by kernel_rfl
noncomputable def R6:List Stmt:=v5 (nth law_F.body 4)
noncomputable def a3z (C:Cf):L3.Env->M Fl:=λρ'=>u4 (evK Rs Γ C 39) m9 R6 ρ' ret
theorem c1k:(evK Rs Γ C 40).s m9 (nth law_F.body 4) [qa,qb,some ua,qc,qd,qe,qf,qg,qh,qi] κ=bind (R4 (.tup [(.tup [(.tup [(.int 0)])])]) (.int 5)) λx1=>bind (C8 ua (.lst [(.tup [(.tup [(.tup [(.int 0),(.int 1)])]),(.tup [(.tup [(.int 1)])]),(.tup [(.tup [(.int 1)])]),(.tup [(.tup [(.int 1)])])]),x1])) λx2=>bind (k5 x2) λsm3=>bind (v8 sm3.1 (λd ρ=>some (ρ.set 3 (some d))) (a3z C) sm3.2 0 [qa,qb,some ua,qc,qd,qe,qf,qg,qh,qi]) κ:=by kernel_rfl
noncomputable def i7:List Stmt:=v5 (nth law_F.body 5)
noncomputable def a3c (C:Cf):L3.Env->M Fl:=λρ'=>u4 (evK Rs Γ C 39) m9 i7 ρ' ret
theorem c1q:(evK Rs Γ C 40).s m9 (nth law_F.body 5) [qa,qb,qc,qd,qe,qf,qg,qh,qi,qj] κ=bind (B1 [(.int 4)]) λsm1=>bind (v8 sm1.1 (λd ρ=>some (ρ.set 5 (some d))) (a3c C) sm1.2 0 [qa,qb,qc,qd,qe,qf,qg,qh,qi,qj]) κ:=by kernel_rfl
theorem c2t:(evK Rs Γ C 40).s m9 (nth law_F.body 6) [qa,qb,qc,qd,qe,qf,qg,qh,qi,qj] κ=κ (.rt (.bl true)):=by kernel_rfl
theorem a3j:R6=[nth R6 0]:=by kernel_rfl
theorem a8c:(evK Rs Γ C 39).s m9 (nth R6 0) [qa,qb,qc,some ua,qd,qe,qf,qg,qh,qi] κ=bind (nx (bind (k5 (.tup [(.int 1),(.int 2),(.int 6)])) λsm2=>f7 sm2.1 (λd1=>bind (C 20 [d1,ua]) λx3=>bind (i8 x3) λz4=>ret (!z4)) (λd1=>ret d1) sm2.2 0 [])) λl5=>bind (b6 .NotEq (.lst l5) (.lst [])) λx6=>bind (asB x6) λz7=>if z7=true then (κ (.rt (.bl false))) else (κ (.nx [qa,qb,qc,some ua,qd,qe,qf,qg,qh,qi])):=by kernel_rfl
theorem a30:i7=[nth i7 0,nth i7 1,nth i7 2,nth i7 3,nth i7 4,nth i7 5]:=by kernel_rfl
theorem a7j:(evK Rs Γ C 39).s m9 (nth i7 0) [qa,some ua,qb,qc,qd,qe,qf,qg,qh,qi] κ=bind (C 13 [ua]) λx1=>bind (Q8 (C6 [4,6]) x1 [qa,some ua,qb,qc,qd,qe,qf,qg,qh,qi]) κ:=by kernel_rfl
theorem a7o:(evK Rs Γ C 39).s m9 (nth i7 1) [qa,some ua,qb,qc,some ub,qd,some uc,qe,qf,qg] κ=bind (C 12 [ua,ub,uc]) λx1=>κ (.nx [qa,some ua,qb,qc,some ub,qd,some uc,some x1,qf,qg]):=by kernel_rfl
theorem a8t:(evK Rs Γ C 39).s m9 (nth i7 2) [qa,some ua,qb,qc,some ub,qd,qe,some uc,qf,qg] κ=bind (R4 uc (.int 5)) λx1=>bind (Y3 (.int 1)) λx2=>bind (a2k uc x2) λx3=>bind (a0j uc) λx4=>bind (C1 ub) λx5=>bind (C 11 [ua,x5]) λx6=>bind (C8 uc (.tup [x6])) λx7=>bind (w9 [uc,x1,x3,x4,x7]) λx8=>κ (.nx [qa,some ua,qb,qc,some ub,qd,qe,some uc,some x8,qg]):=by kernel_rfl
noncomputable def A8:List Stmt:=v5 (nth i7 3)
noncomputable def M1 (C:Cf):L3.Env->M Fl:=λρ'=>u4 (evK Rs Γ C 38) m9 A8 ρ' ret
theorem a78:(evK Rs Γ C 39).s m9 (nth i7 3) [qa,qb,qc,qd,qe,qf,qg,qh,qi,qj] κ=bind (B1 [(.int 4)]) λsm1=>bind (v8 sm1.1 (λd ρ=>some (ρ.set 9 (some d))) (M1 C) sm1.2 0 [qa,qb,qc,qd,qe,qf,qg,qh,qi,qj]) κ:=by kernel_rfl
theorem a7t:(evK Rs Γ C 39).s m9 (nth i7 4) [qa,some ua,qb,qc,qd,qe,qf,qg,some ub,qh] κ=bind (lstOf ub) λ_=>bind (Y3 (.int 1)) λx1=>bind (ixD ub x1) λx2=>bind (C 19 [ua,x2]) λx3=>bind (J9 ub [x3]) λx4=>κ (.nx [qa,some ua,qb,qc,qd,qe,qf,qg,some ub,qh]):=by kernel_rfl
noncomputable def A9:List Stmt:=v5 (nth i7 5)
noncomputable def M6 (C:Cf):L3.Env->M Fl:=λρ'=>u4 (evK Rs Γ C 38) m9 A9 ρ' ret
theorem a8g:(evK Rs Γ C 39).s m9 (nth i7 5) [qa,qb,qc,qd,qe,qf,qg,qh,some ua,qi] κ=bind (k5 ua) λsm1=>bind (v8 sm1.1 (λd ρ=>some (ρ.set 3 (some d))) (M6 C) sm1.2 0 [qa,qb,qc,qd,qe,qf,qg,qh,some ua,qi]) κ:=by kernel_rfl
theorem R3:A8=[nth A8 0]:=by kernel_rfl
theorem Y0:(evK Rs Γ C 38).s m9 (nth A8 0) [qa,some ua,qb,qc,qd,qe,qf,some ub,some uc,qg] κ=bind (lstOf uc) λ_=>bind (C 19 [ua,ub]) λx1=>bind (J9 uc [x1]) λx2=>κ (.nx [qa,some ua,qb,qc,qd,qe,qf,some ub,some uc,qg]):=by kernel_rfl
theorem Q9:A9=[nth A9 0]:=by kernel_rfl
theorem Y4:(evK Rs Γ C 38).s m9 (nth A9 0) [qa,qb,qc,some ua,some ub,qd,qe,qf,qg,qh] κ=bind (nx (bind (M5 ub (.int 1)) λx2=>bind (b1z [(.int 1),x2]) λx3=>bind (k5 (.tup [ub,x3,(.int 6)])) λsm4=>f7 sm4.1 (λd1=>bind (C 20 [d1,ua]) λx5=>bind (i8 x5) λz6=>ret (!z6)) (λd1=>ret d1) sm4.2 0 [])) λl7=>bind (b6 .NotEq (.lst l7) (.lst [])) λx8=>bind (asB x8) λz9=>if z9=true then (κ (.rt (.bl false))) else (κ (.nx [qa,qb,qc,some ua,some ub,qd,qe,qf,qg,qh])):=by kernel_rfl
end
end L3.K40
namespace L3.K40
open PySem PySem.Spec PyProof.Rows L2 L3.Rk
section
variable {n N:Nat} {d:D} (h:Any n N d) (k:Nat) (S:Sto)
include h
theorem b4a:rn (k+1) c15 [d] S=.ok (.bl (isW d)) S:=by
 have pl:=h.pl
 rw [rn,c8 (fd:=b6u) rfl,b8a]
 cases d <;> first | exact pl.elim | rfl
theorem b00 (lo hi:Int):rn (k+2) b6e [d,.int lo,.int hi] S=.ok (.bl (whB lo hi d)) S:=by
 refine D5 ?_
 rw [rn,c8 (fd:=b8x) rfl,b6v]
 refine Ok.eq (b4a h k S) ?_
 cases d with
 | int i=>
  refine Ok.eq (a:=true) rfl<|Ok.pos rfl<|Ok.eq (Q6 lo i S)<|Ok.eq (k8 _ S) ?_
  by_cases q:lo<=i
  ·rw [decide_eq_true q]
   exact Ok.pos rfl<|Ok.eq (Q6 i hi S)<|Ok.ret ⟨by show _=D.bl (decide (lo<=i)&&decide (i<=hi));rw [decide_eq_true q];rfl,rfl⟩
  ·rw [decide_eq_false q]
   exact Ok.neg (by decide)<|Ok.ret ⟨by show _=D.bl (decide (lo<=i)&&decide (i<=hi));rw [decide_eq_false q];rfl,rfl⟩
 | _=>exact Ok.eq (a:=false) rfl<|Ok.neg (by decide)<|Ok.ret ⟨rfl,rfl⟩
theorem c2l (lo hi:Int):rn (k+1) b2m [d,.int lo,.int hi] S=.ok (.bl (whB lo hi d)) S:=by
 have pl:=h.pl
 refine D5 ?_
 rw [rn,c8 (fd:=b2h) rfl,b4i]
 cases d with
 | int i=>
  refine Ok.eq (a:=.bl true) rfl<|Ok.eq (a:=true) rfl<|Ok.pos rfl<|Ok.eq (a:=.bl false) rfl<|Ok.eq (a:=false) rfl<|Ok.eq (a:=true) rfl<|Ok.pos rfl<|Ok.eq (Q6 lo i S)<|Ok.eq (k8 _ S) ?_
  by_cases q:lo<=i
  ·rw [decide_eq_true q]
   exact Ok.pos rfl<|Ok.eq (Q6 i hi S)<|Ok.ret ⟨by show _=D.bl (decide (lo<=i)&&decide (i<=hi));rw [decide_eq_true q];rfl,rfl⟩
  ·rw [decide_eq_false q]
   exact Ok.neg (by decide)<|Ok.ret ⟨by show _=D.bl (decide (lo<=i)&&decide (i<=hi));rw [decide_eq_false q];rfl,rfl⟩
 | bl b=>exact ⟨_,_,rfl,rfl,rfl⟩
 | scr _=>exact pl.elim
 | ref _=>exact pl.elim
 | _=>exact ⟨_,_,rfl,rfl,rfl⟩
end
noncomputable def rsB (m:Nat):D->Bool
 | .tup ds=>ds.all (whB 0 ((m:Int)-1))&&decide (ds.map j5=srt (A0 (ds.map j5)))
 | _=>false
noncomputable def bkB (m:Nat):D->Bool
 | .tup ds=>rsB m (.tup ds)&&decide (0<ds.length)
 | _=>false
theorem b60 (m:Nat) (S:Sto):M5 (.int (m:Int)) (.int 1) S=.ok (.int ((m:Int)-1)) S:=rfl
theorem a64 {n N:Nat} {ds:List D} (h:Any n N (.tup ds)) (hN:N<=100000):ds.length<=50000:=by
 have:=T9 ds
 have z:szs ds+3<=N:=h.sz
 omega
section
variable {n N:Nat} {d:D} (h:Any n N d) (hN:N<=100000) {m:Nat} (m6:m<=6) (k:Nat) (S:Sto)
include h hN m6
theorem b1v:rn (k+3) c1j [.int (m:Int),d] S=.ok (.bl (rsB m d)) S:=by
 have pl:=h.pl
 refine D5 ?_
 rw [rn,c8 (fd:=b9m) rfl,b7s]
 cases d with
 | tup ds=>
  have sl:ds.length<sizeLine:=by rw [sizeLine_eq];have:=a64 h hN;omega
  have c:=T4 (ds:=ds) (p:=whB 0 ((m:Int)-1)) (f:=λd3=>bind (M5 (.int (m:Int)) (.int 1)) λx5=>bind (rn (k+2) b6e [d3,(.int 0),x5]) λx6=>ret x6) (S:=S) sl (λd hd=>by
   rw [a3 (b60 m S),a3 (b00 (O8 h hd) k S 0 ((m:Int)-1))];rfl)
  refine Ok.eq (a:=.bl true) rfl<|Ok.eq (a:=true) rfl<|Ok.neg (by decide)<|nx_bind<|Ok.eq (B0 _ S)<|Ok.of c<|Ok.eq (a4n _ S)<|Ok.eq (S1:=S) (a:=(ds.map (whB 0 ((m:Int)-1))).all id) rfl ?_
  show Ok _ _ λd' S'=>d'=D.bl (ds.all (whB 0 ((m:Int)-1))&&decide (ds.map j5=srt (A0 (ds.map j5))))/\S'=S
  rw [all_map]
  cases z:ds.all (whB 0 ((m:Int)-1)) with
  | false=>exact Ok.pos rfl<|Ok.ret ⟨rfl,rfl⟩
  | true=>
   obtain ⟨e,b⟩:=R9 z
   have ln:szs ds+3<=N:=h.sz
   have u:=a3e b
   generalize ds.map j5=ns at e b u
   subst e
   rw [W5] at ln
   exact Ok.neg (by decide)<|Ok.eq (a:=.lst (ns.map D.int)) (S1:=S) rfl<|Ok.eq (b12 (by omega) (by omega) S)<|Ok.eq (a6r _ _ S)<|Ok.ret ⟨by simp,rfl⟩
 | scr _=>exact pl.elim
 | ref _=>exact pl.elim
 | _=>exact ⟨_,_,rfl,rfl,rfl⟩
theorem b35:rn (k+4) b6g [.int (m:Int),d] S=.ok (.bl (bkB m d)) S:=by
 refine D5 ?_
 rw [rn,c8 (fd:=b70) rfl,b8n]
 refine Ok.eq (b1v h hN m6 k S) ?_
 cases d with
 | tup ds=>
  show Ok _ _ λd' S'=>d'=D.bl (rsB m (.tup ds)&&decide (0<ds.length))/\S'=S
  cases rsB m (.tup ds) with
  | false=>exact Ok.eq (a:=false) rfl<|Ok.neg (by decide)<|Ok.ret ⟨rfl,rfl⟩
  | true=>
   refine Ok.eq (a:=true) rfl<|Ok.pos rfl<|Ok.eq (Z3)<|Ok.eq (a63 _ _ S)<|Ok.ret ⟨?_,rfl⟩
   show D.bl (decide ((0:Int)<(ds.length:Int)))=D.bl (true&&decide (0<ds.length))
   rw [Bool.true_and]
   exact congrArg D.bl (decide_eq_decide.mpr (by omega))
 | _=>exact Ok.eq (a:=false) rfl<|Ok.neg (by decide)<|Ok.ret ⟨rfl,rfl⟩
end
theorem b95 {ns:List Int}:ns.Pairwise (· < ·)↔∀ i,i+1<ns.length->ns.getD i 0<ns.getD (i+1) 0:=by
 have gd:∀ i (h:i<ns.length),ns.getD i 0=ns[i]:=λi h=>by simp [h]
 rw [List.pairwise_iff_getElem]
 constructor
 ·intro h i hi
  rw [gd i (by omega),gd (i+1) hi]
  exact h i (i+1) (by omega) hi (by omega)
 ·intro h i j hi hj hij
  rw [<- gd i hi,<- gd j hj]
  clear hi
  induction j with
  | zero=>omega
  | succ j ih=>
   by_cases q:i=j
   ·subst q;exact h i hj
   ·have:=ih (by omega) (by omega)
    have:=h j hj
    omega
theorem a5y {m:Nat} (h0:0<m) (h:m<1000) (S:Sto):B1 [.int 1,.int (m:Int)] S=.ok (X2 1 (m-1),m-1+1) S:=by
 unfold B1
 have c:-(2 ^ 62)<=(1:Int)/\(1:Int)<2 ^ 62/\-(2 ^ 62)<=(m:Int)/\(m:Int)<2 ^ 62:=⟨by decide,by decide,Int.le_trans (by decide) (show (0:Int)<=m by omega),Int.lt_trans (show (m:Int)<1000 by omega) (by decide)⟩
 have e:((m:Int)-1).toNat=m-1:=by omega
 simp only [if_pos c,e]
 rfl
theorem b40 {n i:Nat} (h:i<n) (S:Sto):X2 1 n i S=some (some (.int ((i+1:Nat):Int))):=by
 show some (if i<n then some (D.int (1+(i:Int))) else none)=_
 rw [if_pos h,show (1+(i:Int))=((i+1:Nat):Int) by omega]
theorem b0y (n:Nat) (S:Sto):X2 1 n n S=some none:=by
 show some (if n<n then _ else none)=some none
 rw [if_neg (Nat.lt_irrefl _)]
theorem c1s (i:Nat) (S:Sto):M5 (.int ((i+1:Nat):Int)) (.int 1) S=.ok (.int (i:Int)) S:=by
 show R.ok (D.int (((i+1:Nat):Int)-1)) S=_
 rw [show ((i+1:Nat):Int)-1=(i:Int) by omega]
theorem a6e {v:D} {ns:List Int} {S:Sto} (h0:0<ns.length) (h1:ns.length<1000) (hl:y0 v S=.ok (.int (ns.length:Int)) S) (hx:∀ i,i<ns.length->ixD v (.int (i:Int)) S=.ok (.int (ns.getD i 0)) S) (k:Nat):rn (k+1) b9r [v] S=.ok (.bl (decide (ns.Pairwise (· < ·)))) S:=by
 refine D5 ?_
 rw [rn,c8 (fd:=a8x) rfl,b29]
 have c:=M0 (src:=X2 1 (ns.length-1)) (l:=List.range (ns.length-1)) (h:=λ(i:Nat)=>D.int ((i+1:Nat):Int)) (g:=λ(i:Nat)=>D.int ((i+1:Nat):Int)) (p:=λi=>decide (ns.getD (i+1) 0<=ns.getD i 0)) (t:=λd1=>bind (M5 d1 (.int 1)) λx4=>bind (ixD v x4) λx5=>bind (ixD v d1) λx6=>bind (b6 .GtE x5 x6) λx7=>bind (asB x7) λz8=>ret z8) (f:=λd=>ret d) (S:=S) (λi=>by
   show some (if i<ns.length-1 then some (D.int (1+(i:Int))) else none)=_
   by_cases q:i<ns.length-1
   ·rw [if_pos q,k4 (List.getElem?_range q),show (1+(i:Int))=((i+1:Nat):Int) by omega]
   ·rw [if_neg q,List.getElem?_eq_none (by simpa using q)]) (by rw [List.length_range,sizeLine_eq];omega) (λi hi=>by
   have hi:=List.mem_range.mp hi
   rw [a3 (c1s i S),a3 (hx i (by omega)),a3 (hx (i+1) (by omega)),a3 (c04 _ _ S),a3 (k8 _ S)];rfl) (λ_ _ _=>rfl)
 rw [List.length_range] at c
 refine nx_bind<|Ok.eq hl<|Ok.eq (a5y h0 h1 S)<|Ok.of c ?_
 have e:((List.range (ns.length-1)).filter λi=>decide (ns.getD (i+1) 0<=ns.getD i 0)).map (λ(i:Nat)=>D.int ((i+1:Nat):Int))=(((List.range (ns.length-1)).filter λi=>decide (ns.getD (i+1) 0<=ns.getD i 0)).map λ(i:Nat)=>((i+1:Nat):Int)).map D.int:=by rw [List.map_map];rfl
 rw [e]
 refine Ok.eq (a6r _ [] S)<|Ok.ret ⟨congrArg D.bl (decide_eq_decide.mpr ?_),rfl⟩
 rw [b95,List.map_eq_nil_iff,List.filter_eq_nil_iff]
 constructor
 ·intro h i hi
  have:=h i (List.mem_range.mpr (by omega))
  simp only [decide_eq_true_eq] at this
  omega
 ·intro h i hi
  have:=h i (by have:=List.mem_range.mp hi;omega)
  simp only [decide_eq_true_eq]
  omega
theorem a4k {ns:List Int}:C9 ns=ns.length↔ns.Nodup:=by
 have gd:∀ i (h:i<ns.length),ns.getD i 0=ns[i]:=λi h=>by simp [h]
 have go:∀ i,i<=ns.length->(firstMet (λi=>ns.getD i 0) i).length<=i/\((firstMet (λi=>ns.getD i 0) i).length=i↔∀ a b,a<b->b<i->ns.getD a 0≠ns.getD b 0):=by
  intro i
  induction i with
  | zero=>exact λ_=>⟨Nat.le_refl _,⟨λ_ a b _ z=>by omega,λ_=>rfl⟩⟩
  | succ i ih=>
   intro hi
   obtain ⟨i1,i2⟩:=ih (by omega)
   have fa:=firstMet_any (λi=>ns.getD i 0) i (ns.getD i 0)
   rw [firstMet_succ]
   unfold step_dedup
   cases no:(firstMet (λi=>ns.getD i 0) i).any (·==ns.getD i 0) with
   | true=>
    simp only [if_true]
    refine ⟨by omega,⟨λz=>by omega,λz=>?_⟩⟩
    rw [fa,List.any_eq_true] at no
    obtain ⟨x,hx,e⟩:=no
    obtain ⟨j,hj,rfl⟩:=List.mem_map.mp hx
    exact (z j i (List.mem_range.mp hj) (by omega) (by simpa using e)).elim
   | false=>
    rw [if_neg Bool.false_ne_true,List.length_append]
    rw [fa,List.any_eq_false] at no
    refine ⟨by show _+1<=_;omega,⟨λz a b hab hb=>?_,λz=>?_⟩⟩
    ·have z:(firstMet (λi=>ns.getD i 0) i).length+1=i+1:=z
     by_cases q:b=i
     ·subst q
      have:=no (ns.getD a 0) (List.mem_map.mpr ⟨a,List.mem_range.mpr hab,rfl⟩)
      intro w;rw [w] at this;simp at this
     ·exact i2.mp (by omega) a b hab (by omega)
    ·show _+1=i+1
     rw [i2.mpr λa b hab hb=>z a b hab (by omega)]
 unfold C9
 rw [(go ns.length (Nat.le_refl _)).2,List.nodup_iff_pairwise_ne,List.pairwise_iff_getElem]
 exact ⟨λh i j hi hj hij=>by rw [<- gd i hi,<- gd j hj];exact h i j hij hj,λh a b hab hb=>by rw [gd a (by omega),gd b hb];exact h a b (by omega) hb hab⟩
theorem a9h {ns:List Int} (h:ns.length<4000) (S:Sto):M4 (.lst (ns.map D.int)) S=.ok (.int (C9 ns:Nat)) S:=by
 show bind (u3 (.lst (ns.map D.int))) _ S=_
 rw [a3 (show u3 (.lst (ns.map D.int)) S=.ok (ns.map D.int) S from rfl),M2]
 show (if ns.length<4000 then ret (D.int (C9 ns:Nat)) else bad) S=_
 rw [if_pos h];rfl
noncomputable def k9 (b:List Int):D:=.tup (b.map D.int)
noncomputable def d8 (r:List (List Int)):D:=.tup (r.map k9)
structure GB (m:Nat) (ns:List Int):Prop where
 ne:0<ns.length
 up:ns.Pairwise (· < ·)
 bd:∀ x∈ns,0<=x/\x<=(m:Int)-1
theorem GB.few {m:Nat} {ns:List Int} (h:GB m ns):ns.length<=m:=by
 have e:=rises_iff.mpr h.up
 have l:=congrArg List.length e
 rw [(b4 _).length_eq] at l
 rw [l]
 exact a3e h.bd
theorem a0h (ns:List Int):(ns.map D.int).map j5=ns:=by
 rw [List.map_map]
 exact (List.map_congr_left λx _=>rfl).trans (List.map_id ns)
theorem bk_iff {m:Nat} {d:D}:bkB m d=true↔∃ ns,k9 ns=d/\GB m ns:=by
 constructor
 ·intro h
  cases d with
  | tup ds=>
   have h:(rsB m (.tup ds)&&decide (0<ds.length))=true:=h
   rw [Bool.and_eq_true,decide_eq_true_eq] at h
   obtain ⟨h1,h2⟩:=h
   have h1:(ds.all (whB 0 ((m:Int)-1))&&decide (ds.map j5=srt (A0 (ds.map j5))))=true:=h1
   rw [Bool.and_eq_true,decide_eq_true_eq] at h1
   obtain ⟨e,b⟩:=R9 h1.1
   exact ⟨ds.map j5,by unfold k9;rw [<- e],by rw [List.length_map];exact h2,rises_iff.mp h1.2,b⟩
  | _=>cases h
 ·rintro ⟨ns,rfl,g⟩
  show (((ns.map D.int).all (whB 0 ((m:Int)-1))&&decide ((ns.map D.int).map j5=srt (A0 ((ns.map D.int).map j5))))&&decide (0<(ns.map D.int).length))=true
  rw [a0h,List.length_map,decide_eq_true g.ne,decide_eq_true (rises_iff.mpr g.up),Bool.and_true,Bool.and_true,List.all_map,List.all_eq_true]
  intro x hx
  show (decide (0<=x)&&decide (x<=(m:Int)-1))=true
  rw [decide_eq_true (g.bd x hx).1,decide_eq_true (g.bd x hx).2];rfl
noncomputable def ins (d:D):List Int:=(els d).map j5
theorem b4f (ns:List Int):ins (k9 ns)=ns:=a0h ns
noncomputable def rdB (m:Nat):D->Bool
 | .tup bs=>decide (0<bs.length)&&bs.all (bkB m)&&decide ((bs.flatMap ins).Nodup)
 | _=>false
structure GR (m:Nat) (r:List (List Int)):Prop where
 ne:0<r.length
 bk:∀ b∈r,GB m b
 nd:r.flatten.Nodup
theorem X5 (r:List (List Int)):(r.map k9).flatMap ins=r.flatten:=by
 rw [List.flatMap_def,List.map_map]
 congr 1
 exact (List.map_congr_left λx _=>b4f x).trans (List.map_id r)
theorem rd_iff {m:Nat} {d:D}:rdB m d=true↔∃ r,d8 r=d/\GR m r:=by
 constructor
 ·intro h
  cases d with
  | tup bs=>
   have h:(decide (0<bs.length)&&bs.all (bkB m)&&decide ((bs.flatMap ins).Nodup))=true:=h
   rw [Bool.and_eq_true,Bool.and_eq_true,decide_eq_true_eq,decide_eq_true_eq] at h
   obtain ⟨⟨h1,h2⟩,h3⟩:=h
   obtain ⟨r,rfl,g⟩:=a0y (f:=k9) (q:=GB m) (λd h=>bk_iff.mp h) h2
   rw [X5] at h3
   rw [List.length_map] at h1
   exact ⟨r,rfl,h1,g,h3⟩
  | _=>cases h
 ·rintro ⟨r,rfl,g⟩
  show (decide (0<(r.map k9).length)&&(r.map k9).all (bkB m)&&decide (((r.map k9).flatMap ins).Nodup))=true
  rw [X5,List.length_map,decide_eq_true g.ne,decide_eq_true g.nd,Bool.and_true,Bool.true_and,List.all_map,List.all_eq_true]
  exact λb hb=>bk_iff.mpr ⟨b,rfl,g.bk b hb⟩
theorem O5 {m:Nat} (m6:m<=6):∀ {r:List (List Int)},(∀ b∈r,GB m b)->r.flatten.length<=6 * r.length
 | [],_=>by simp
 | b :: r,h=>by
  have:=(h b (List.mem_cons_self ..)).few
  have:=O5 m6 λc hc=>h c (List.mem_cons_of_mem _ hc)
  rw [List.flatten_cons,List.length_append,List.length_cons]
  omega
theorem C4 {n:Nat} (h:n<=600):n<sizeLine:=Nat.lt_of_le_of_lt h (by decide)
theorem b3a {ns:List Int} {es:List D} {S:Sto} (h:es.length+ns.length<=600):f7 (A3 (ns.map D.int)) (λ_=>ret true) (λd2=>ret d2) (ns.length+1) 0 es S=.ok (es++ns.map D.int) S:=by
 obtain ⟨es',S',e,rfl,rfl⟩:=M9 (src:=A3 (ns.map D.int)) (t:=λ_=>ret true) (f:=λd2=>ret d2) (n:=ns.length) (λi S' es'=>S'=S/\es'=es++(ns.take i).map D.int) (λS' es' _=>by show some (ns.map D.int)[ns.length]?=some none;rw [List.getElem?_eq_none (by simp)]) (λi S' es' hi ⟨h1,h2⟩=>by
  refine ⟨.int ns[i],true,S',by show some (ns.map D.int)[i]?=_;rw [k4 (List.getElem?_eq_getElem hi)],rfl,?_⟩
  rw [if_pos rfl]
  refine ⟨.int ns[i],S',rfl,?_,h1,?_⟩
  ·rw [h2,List.length_append,List.length_map,List.length_take];exact C4 (by omega)
  ·rw [h2,List.take_succ_eq_append_getElem hi,List.map_append,List.append_assoc];rfl) ns.length 0 S es (by omega) ⟨rfl,by simp⟩
 rw [e,List.take_length]
theorem a18 {r:List (List Int)} {S:Sto} (h:r.flatten.length<=600):∀ (k i:Nat),k+i=r.length->C3 (A3 (r.map k9)) (λ_=>ret true) (λd1=>bind (k5 d1) λsm4=>ret sm4) (λ_ _=>ret true) (λ_ d2=>ret d2) (k+1) i ((r.take i).flatten.map D.int) S=.ok (r.flatten.map D.int) S
 | 0,i,hk=>by
  have e:(r.map k9)[i]?=none:=List.getElem?_eq_none (by rw [List.length_map];omega)
  have s:A3 (r.map k9) i S=some none:=by show some (r.map k9)[i]?=_;rw [e]
  simp only [C3,s]
  rw [List.take_of_length_le (by omega)]
 | k+1,i,hk=>by
  have hi:i<r.length:=by omega
  have s:A3 (r.map k9) i S=some (some (k9 r[i])):=by show some (r.map k9)[i]?=_;rw [k4 (List.getElem?_eq_getElem hi)]
  have tk:(r.take (i+1)).flatten=(r.take i).flatten++r[i]:=by rw [List.take_succ_eq_append_getElem hi,List.flatten_append];simp
  have ln:(r.take (i+1)).flatten.length<=r.flatten.length:=by
   conv=>rhs;rw [<- List.take_append_drop (i+1) r,List.flatten_append,List.length_append]
   omega
  rw [tk,List.length_append] at ln
  rw [C3]
  simp only [s]
  rw [a3 (show (ret true:M Bool) S=.ok true S from rfl),if_pos rfl,a3 (show (bind (k5 (k9 r[i])) λsm4=>ret sm4) S=.ok (A3 (r[i].map D.int),(r[i].map D.int).length+1) S from rfl),List.length_map,a3 (b3a (ns:=r[i]) (es:=(r.take i).flatten.map D.int) (S:=S) (by rw [List.length_map];omega)),<- List.map_append,<- tk]
  exact a18 h k (i+1) (by omega)
theorem a6d {r:List (List Int)} (h:r.flatten.length<64) (k:Nat) (S:Sto):rn (k+1) c0y [d8 r] S=.ok (.lst ((srt r.flatten).map D.int)) S:=by
 refine D5 ?_
 rw [rn,c8 (fd:=b9z) rfl,b8k]
 unfold d8
 refine nx_bind<|Ok.eq (B0 _ S) ?_
 rw [List.length_map]
 exact Ok.of (a18 (by omega) r.length 0 (by omega))<|Ok.eq (b2i h S)<|Ok.ret ⟨rfl,rfl⟩
theorem b0r {r:List (List Int)} (hl:r.flatten.length<64) (hr:r.length<=60) (k:Nat) (S:Sto):Ok (rn (k+1) b87 [d8 r]) S λd S'=>d=.lst ((srt r.flatten).map D.int)/\Ex S S':=by
 rw [rn,c8 (fd:=Ag) rfl,b32,b5s]
 refine Ok.first<|Ok.cg (c0r ..)<|Ok.eq (show w9 [] S=.ok (.ref S.length) (S++[.lst []]) from rfl)<|Ok.nxt<|Ok.cg (c22 ..) ?_
 unfold d8
 refine Ok.eq (B0 _ _) ?_
 rw [List.length_map]
 have at_:∀ x:O,(S++[x])[S.length]?=some x:=λx=>by rw [List.getElem?_append_right (Nat.le_refl _)];simp
 refine Ok.bind ((Ok.for_ (n:=r.length) (λi ρ S'=>S'=S++[.lst ((r.take i).flatten.map D.int)]/\∃ o3:Option D,ρ=[some (.tup (r.map k9)),some (.ref S.length),o3]) (λ_ _=>False) (λ_ _=>False) ?_ ?_ r.length 0 _ (S++[.lst []]) (by omega) ⟨by simp,_,rfl⟩).mono ?_)
 ·intro ρ S' _
  show some (r.map k9)[r.length]?=some none
  rw [List.getElem?_eq_none (by simp)]
 ·rintro i ρ S' hi ⟨rfl,o3,rfl⟩
  have eb:r[i]?=some r[i]:=List.getElem?_eq_getElem hi
  have tk:(r.take (i+1)).flatten=(r.take i).flatten++r[i]:=by rw [List.take_succ_eq_append_getElem hi,List.flatten_append];simp
  have ln:(r.take i).flatten.length+r[i].length<64:=by
   have:(r.take (i+1)).flatten.length<=r.flatten.length:=by
    conv=>rhs;rw [<- List.take_append_drop (i+1) r,List.flatten_append,List.length_append]
    omega
   rw [tk,List.length_append] at this
   omega
  refine ⟨k9 r[i],[some (.tup (r.map k9)),some (.ref S.length),some (k9 r[i])],by show some (r.map k9)[i]?=_;rw [k4 eb],rfl,?_⟩
  unfold a3a
  rw [a2f]
  refine Ok.first<|Ok.cg (a7c ..)<|Ok.eq (Q2 (at_ _)) ?_
  unfold k9
  refine Ok.eq (b54 (at_ _) (by rw [List.length_map,List.length_map,sizeLine_eq];omega)) ?_
  have es:(S++[O.lst ((r.take i).flatten.map D.int)]).set S.length (.lst ((r.take i).flatten.map D.int++r[i].map D.int))=S++[.lst ((r.take (i+1)).flatten.map D.int)]:=by
   rw [List.set_append_right _ _ (Nat.le_refl _),tk,List.map_append];simp
  rw [es]
  exact Ok.ret ⟨rfl,_,rfl⟩
 ·intro fl S' q
  cases fl with
  | nx ρ=>
   rcases q with ⟨e,o3,rfl⟩ | q
   ·rw [List.take_length] at e
    subst e
    exact Ok.nxt<|Ok.cg (c2o ..)<|Ok.eq (W4 (at_ _) hl) (Ok.ret ⟨rfl,_,rfl⟩)
   ·exact q.elim
  | rt d=>exact q.elim
  | bk ρ=>exact q.elim
  | ct ρ=>exact q.elim
section
variable {n N:Nat} {d:D} (h:Any n N d) (hn:n<=40) (hN:N<=100000) {m:Nat} (m6:m<=6) (hw:(els d).length<=10) (k:Nat) (S:Sto)
include h hN m6 hw
theorem b4k:rn (k+5) c1n [.int (m:Int),d] S=.ok (.bl (rdB m d)) S:=by
 have pl:=h.pl
 refine D5 ?_
 rw [rn,c8 (fd:=b8z) rfl,b8r]
 cases d with
 | tup bs=>
  have hw:bs.length<=10:=hw
  have c:=T4 (ds:=bs) (p:=bkB m) (f:=λd4=>bind (rn (k+4) b6g [.int (m:Int),d4]) λx6=>ret x6) (S:=S) (C4 (by omega)) (λd hd=>by
   rw [a3 (b35 (O8 h hd) hN m6 k S)];rfl)
  refine Ok.eq (a:=.bl true) rfl<|Ok.eq (a:=true) rfl<|Ok.neg (by decide)<|Ok.eq (S1:=S) (a:=!bs.isEmpty) rfl ?_
  show Ok _ _ λd' S'=>d'=D.bl (decide (0<bs.length)&&bs.all (bkB m)&&decide ((bs.flatMap ins).Nodup))/\S'=S
  cases q:bs.isEmpty with
  | true=>
   have:bs=[]:=List.isEmpty_iff.mp q
   subst this
   exact Ok.pos rfl<|Ok.ret ⟨rfl,rfl⟩
  | false=>
   have q0:0<bs.length:=List.length_pos_iff.mpr λz=>by rw [z] at q;cases q
   rw [decide_eq_true q0,Bool.true_and]
   refine Ok.neg (by decide)<|nx_bind<|Ok.eq (B0 _ S)<|Ok.of c<|Ok.eq (a4n _ S)<|Ok.eq (S1:=S) (a:=(bs.map (bkB m)).all id) rfl ?_
   rw [all_map]
   cases z:bs.all (bkB m) with
   | false=>exact Ok.pos rfl<|Ok.ret ⟨rfl,rfl⟩
   | true=>
    obtain ⟨r,rfl,g⟩:=a0y (f:=k9) (q:=GB m) (λd h=>bk_iff.mp h) z
    rw [List.length_map] at hw
    have ff:=O5 m6 g
    rw [X5]
    have ls:(srt r.flatten).length=r.flatten.length:=(b4 _).length_eq
    refine Ok.neg (by decide)<|Ok.eq (a6d (r:=r) (by omega) (k+3) S)<|Ok.eq (a9h (by omega) S)<|Ok.eq (B3 _ S)<|Ok.eq (b1d _ _ S)<|Ok.ret ⟨?_,rfl⟩
    rw [Bool.true_and]
    refine congrArg D.bl (decide_eq_decide.mpr ?_)
    rw [<- (b4 r.flatten).nodup_iff,<- a4k]
    omega
 | scr _=>exact pl.elim
 | ref _=>exact pl.elim
 | _=>exact ⟨_,_,rfl,rfl,rfl⟩
end
theorem inN (neg:Bool) (x:Int) (ns:List Int) (S:Sto):inD neg (.int x) (.lst (ns.map D.int)) S=.ok (.bl (if neg then !decide (x∈ns) else decide (x∈ns))) S:=by
 have e:d9 64 S (.lst (ns.map D.int))=some (.list (ns.map PyData.int)):=by
  show (f9 (d9 63 S) (ns.map D.int)).map PyData.list=_
  rw [N3 62 S ns];rfl
 unfold inD
 rw [e]
 show a77 neg (.int x) (ns.map PyData.int) S=_
 unfold a77
 have hd:PyData.depth (.int x)=0:=by simp [PyData.depth]
 rw [if_pos ⟨rfl,P0 ns,by rw [hd];omega⟩,a9v]
 rfl
theorem U2 {j N:Nat} {ds:List D} (h:Any j N (.tup ds)) (hj:j<=40) (S:Sto):b6 .Eq (.tup ds) (.tup []) S=.ok (.bl ds.isEmpty) S:=by
 show eqP false (.tup ds) (.tup []) S=_
 rw [b37 h hj (show Pln 0 (.tup []) from trivial) (by decide) false S]
 cases ds <;> rfl
theorem b5u {l:List Int}:(srt l).Pairwise (· < ·)↔l.Nodup:=by
 constructor
 ·intro h
  refine (b4 l).nodup_iff.mp ?_
  rw [List.nodup_iff_pairwise_ne]
  exact List.Pairwise.imp (λh=>by omega) h
 ·exact b25
theorem A4 {ns:List Int} {i:Nat} (h:i<ns.length):(ns.map D.int)[i]?=some (.int (ns.getD i 0)):=by
 rw [k4 (List.getElem?_eq_getElem h)];simp [h]
section
variable {n N:Nat} {d:D} (h:Any n N d) (hn:n<=40) (hN:N<=50000) {m:Nat} (m6:m<=6) (hw:(els d).length<=10) (k:Nat) (S:Sto)
include h hn hN m6 hw
theorem c0j:Ok (rn (k+2) c1z [.int (m:Int),d]) S λd' S'=>d'=.bl (rdB m d)/\Ex S S':=by
 have pl:=h.pl
 rw [rn,c8 (fd:=Ae) rfl,b75,b78]
 cases d with
 | tup bs=>
  have hw:bs.length<=10:=hw
  show Ok _ _ λd' S'=>d'=D.bl (decide (0<bs.length)&&bs.all (bkB m)&&decide ((bs.flatMap ins).Nodup))/\Ex S S'
  refine Ok.first<|Ok.cg (c20 ..)<|Ok.eq (a:=.bl true) rfl<|Ok.eq (a:=true) rfl<|Ok.neg (by decide)<|Ok.eq (U2 h hn S)<|Ok.eq (k8 _ S) ?_
  cases q:bs.isEmpty with
  | true=>
   have:bs=[]:=List.isEmpty_iff.mp q
   subst this
   exact Ok.pos rfl<|Ok.ret ⟨rfl,Ex.refl S⟩
  | false=>
   have q0:0<bs.length:=List.length_pos_iff.mpr λz=>by rw [z] at q;cases q
   rw [decide_eq_true q0,Bool.true_and]
   have at_:∀ x:O,(S++[x])[S.length]?=some x:=λx=>by rw [List.getElem?_append_right (Nat.le_refl _)];simp
   have EX:∀ x:O,Ex S (S++[x]):=λx=>⟨[x],rfl⟩
   refine Ok.neg (by decide)<|Ok.nxt<|Ok.cg (c39 ..)<|Ok.eq (show w9 [] S=.ok (.ref S.length) (S++[.lst []]) from rfl)<|Ok.nxt<|Ok.cg (c4j ..)<|Ok.eq (B0 _ _)<|Ok.bind ((Ok.for_ (n:=bs.length) (λi ρ S'=>∃ r:List (List Int),bs.take i=r.map k9/\(∀ b∈r,GB m b)/\S'=S++[.lst (r.flatten.map D.int)]/\∃ o:Option D,ρ=[some (.int (m:Int)),some (.tup bs),some (.ref S.length),o]) (λ_ _=>False) (λd' S'=>d'=.bl false/\Ex S S'/\bs.all (bkB m)=false) ?_ ?_ bs.length 0 _ _ (by omega) ⟨[],by simp,by simp,by simp,_,rfl⟩).mono ?_)
   ·intro ρ S' _
    show some bs[bs.length]?=some none
    rw [List.getElem?_eq_none (Nat.le_refl _)]
   ·rintro i ρ S' hi ⟨r,er,g,rfl,o,rfl⟩
    have eb:bs[i]?=some bs[i]:=List.getElem?_eq_getElem hi
    have hm:bs[i]∈bs:=List.getElem_mem hi
    have tk:bs.take (i+1)=bs.take i++[bs[i]]:=List.take_succ_eq_append_getElem hi
    have ab:=O8 h hm
    have no:bkB m bs[i]=false->bs.all (bkB m)=false:=λz=>by
     rw [List.all_eq_false]
     exact ⟨bs[i],hm,by rw [z];exact Bool.false_ne_true⟩
    have lr:r.length<=10:=by have:=congrArg List.length er;rw [List.length_take,List.length_map] at this;omega
    have ff:=O5 m6 g
    refine ⟨bs[i],_,by show some bs[i]?=_;rw [eb],rfl,?_⟩
    generalize bs[i]=b at ab no tk
    unfold a5l
    rw [a43]
    refine Ok.first<|Ok.cg (a9j ..) ?_
    have pb:=ab.pl
    cases b with
    | tup ds=>
     refine Ok.eq (a:=.bl true) rfl<|Ok.eq (a:=true) rfl<|Ok.neg (by decide)<|Ok.eq (U2 ab hn _)<|Ok.eq (k8 _ _) ?_
     have bk:bkB m (.tup ds)=((ds.all (whB 0 ((m:Int)-1))&&decide (ds.map j5=srt (A0 (ds.map j5))))&&decide (0<ds.length)):=rfl
     cases q2:ds.isEmpty with
     | true=>
      have:ds=[]:=List.isEmpty_iff.mp q2
      subst this
      exact Ok.pos rfl<|Ok.ret ⟨rfl,EX _,no rfl⟩
     | false=>
      have q3:0<ds.length:=List.length_pos_iff.mpr λz=>by rw [z] at q2;cases q2
      rw [decide_eq_true q3,Bool.and_true] at bk
      have ld:=a64 ab (by omega)
      have ls:szs ds+3<=N:=ab.sz
      have c:=T4 (ds:=ds) (p:=whB 0 ((m:Int)-1)) (f:=λd1=>bind (M5 (.int (m:Int)) (.int 1)) λx3=>bind (rn (k+1) b2m [d1,(.int 0),x3]) λx4=>ret x4) (S:=S++[.lst (r.flatten.map D.int)]) (by rw [sizeLine_eq];omega) (λd hd=>by
       rw [a3 (b60 m _),a3 (c2l (O8 ab hd) k _ 0 ((m:Int)-1))];rfl)
      refine Ok.neg (by decide)<|Ok.nxt<|Ok.cg (b1n ..)<|nx_bind<|Ok.eq (B0 _ _)<|Ok.of c<|Ok.eq (inF _ _ _)<|Ok.eq (k8 _ _) ?_
      cases z:ds.all (whB 0 ((m:Int)-1)) with
      | false=>exact Ok.pos rfl<|Ok.ret ⟨rfl,EX _,no (by rw [bk,z];rfl)⟩
      | true=>
       obtain ⟨e,bd⟩:=R9 z
       rw [z,Bool.true_and] at bk
       have ln:(ds.map j5).length=ds.length:=List.length_map ..
       generalize ds.map j5=ns at e bd bk ln
       subst e
       rw [W5] at ls
       refine Ok.neg (by decide)<|Ok.eq (a6e (v:=.tup (ns.map D.int)) (ns:=ns) (by omega) (by omega) ((b28 _ _).trans (by rw [List.length_map])) (λi hi=>b3d _ (A4 hi)) k)<|Ok.eq (a:=decide (ns.Pairwise (· < ·))) rfl ?_
       by_cases up:ns.Pairwise (· < ·)
       ·rw [decide_eq_true up]
        have gb:GB m ns:=⟨by omega,up,bd⟩
        have:=gb.few
        refine Ok.neg (by decide)<|Ok.nxt<|Ok.cg (b1a ..)<|Ok.eq (Q2 (at_ _))<|Ok.eq (b54 (at_ _) (by rw [List.length_map,List.length_map,sizeLine_eq];omega))<|Ok.ret ⟨r++[ns],?_,?_,?_,_,rfl⟩
        ·rw [tk,er,List.map_append];rfl
        ·intro b hb
         rcases List.mem_append.mp hb with w | w
         ·exact g b w
         ·rw [List.mem_singleton.mp w];exact gb
        ·rw [List.set_append_right _ _ (Nat.le_refl _),List.flatten_append,List.map_append];simp
       ·rw [decide_eq_false up]
        exact Ok.pos rfl<|Ok.ret ⟨rfl,EX _,no (by rw [bk,decide_eq_false λw=>up (rises_iff.mp w)])⟩
    | scr _=>exact pb.elim
    | ref _=>exact pb.elim
    | _=>exact Ok.eq (a:=.bl false) rfl<|Ok.eq (a:=false) rfl<|Ok.pos rfl<|Ok.ret ⟨rfl,EX _,no rfl⟩
   ·intro fl S' q
    cases fl with
    | nx ρ=>
     rcases q with ⟨r,er,g,rfl,o,rfl⟩ | q
     ·rw [List.take_length] at er
      subst er
      rw [List.length_map] at hw q0
      have ff:=O5 m6 g
      have al:(r.map k9).all (bkB m)=true:=by
       rw [List.all_map,List.all_eq_true]
       exact λb hb=>bk_iff.mpr ⟨b,rfl,g b hb⟩
      rw [al,X5,Bool.true_and]
      have ls:(srt r.flatten).length=r.flatten.length:=(b4 _).length_eq
      have l0:0<r.flatten.length:=by
       obtain ⟨b,hb⟩:=List.exists_mem_of_ne_nil r (List.length_pos_iff.mp q0)
       have:=(g b hb).ne
       have:=(List.sublist_flatten_of_mem hb).length_le
       omega
      refine Ok.nxt<|Ok.cg (c3u ..)<|Ok.eq (W4 (at_ _) (by omega))<|Ok.eq (a6e (v:=.lst ((srt r.flatten).map D.int)) (ns:=srt r.flatten) (by omega) (by omega) (B3 _ _) (λi hi=>b3k _ (A4 hi)) k)<|Ok.ret ⟨?_,EX _⟩
      exact congrArg D.bl (decide_eq_decide.mpr b5u)
     ·exact q.elim
    | rt d=>
     obtain ⟨rfl,ex,al⟩:=q
     rw [al]
     exact Ok.ret ⟨rfl,ex⟩
    | bk ρ=>exact q.elim
    | ct ρ=>exact q.elim
 | scr _=>exact pl.elim
 | ref _=>exact pl.elim
 | _=>exact Ok.first<|Ok.cg (c20 ..)<|Ok.eq (a:=.bl false) rfl<|Ok.eq (a:=false) rfl<|Ok.pos rfl<|Ok.ret ⟨rfl,Ex.refl S⟩
end
noncomputable def hn (d:D):List Int:=(els d).flatMap ins
theorem X7 (r:List (List Int)):hn (d8 r)=r.flatten:=X5 r
noncomputable def D8 (ps:List D) (i:Nat):Bool:=(hn (ps.getD (i+1) .non)).all λx=>decide (x∈hn (ps.getD i .non))
theorem sub_iff {ps:List D} {i:Nat}:D8 ps i=true↔∀ x∈hn (ps.getD (i+1) .non),x∈hn (ps.getD i .non):=by
 unfold D8
 rw [List.all_eq_true]
 exact ⟨λh x hx=>of_decide_eq_true (h x hx),λh x hx=>decide_eq_true (h x hx)⟩
noncomputable def okB (m:Nat):D->Bool
 | .tup ps=>decide (1<=ps.length)&&decide (ps.length<=4)&&ps.all (rdB m)&&(List.range (ps.length-1)).all (D8 ps)
 | _=>false
theorem a9l (ns as:List Int):(ns.map D.int).all (λd=>decide (j5 d∈as))=decide (∀ x∈ns,x∈as):=by
 rw [List.all_map,Bool.eq_iff_iff,List.all_eq_true,decide_eq_true_eq]
 exact ⟨λh x hx=>of_decide_eq_true (h x hx),λh x hx=>decide_eq_true (h x hx)⟩
theorem lrg {m:Nat} (h:m<=6) (S:Sto):C1 (.int (m:Int)) S=.ok (.lst ((rgL m).map D.int)) S:=by
 show (if 0<=(m:Int)/\(m:Int)<100000 then ret (D.lst ((rgL (m:Int).toNat).map D.int)) else bad) S=_
 rw [if_pos ⟨by omega,by omega⟩];rfl
theorem b73 {m:Nat} {x:Int} (h:0<=x/\x<=(m:Int)-1):x∈rgL m:=by
 unfold rgL
 exact List.mem_map.mpr ⟨x.toNat,List.mem_range.mpr (by omega),by omega⟩
noncomputable def ahd (m:Nat) (ps:List D):Nat->List Int
 | 0=>rgL m
 | i+1=>srt (hn (ps.getD i .non))
theorem c27 {ps:List D} {i:Nat} (h:i<ps.length):ps.getD i .non=ps[i]:=by simp [h]
def Nar (d:D):Prop:=∀ p∈els d,(els p).length<=10
section
variable {n N:Nat} {d:D} (h:Any n N d) (hn':n<=40) (hN:N<=50000) {m:Nat} (m6:m<=6) (hw:Nar d) (k:Nat) (S:Sto)
include h hn' hN m6 hw
theorem b2d:rn (k+6) c0i [.int (m:Int),d] S=.ok (.bl (okB m d)) S:=by
 have pl:=h.pl
 refine D5 ?_
 rw [rn,c8 (fd:=Af) rfl,b9c,b68]
 cases d with
 | tup ps=>
  show Ok _ _ λd' S'=>d'=D.bl (decide (1<=ps.length)&&decide (ps.length<=4)&&ps.all (rdB m)&&(List.range (ps.length-1)).all (D8 ps))/\S'=S
  refine Ok.first<|Ok.cg (c18 ..)<|Ok.eq (a:=.bl true) rfl<|Ok.eq (a:=true) rfl<|Ok.neg (by decide)<|Ok.eq (Z3)<|Ok.eq (Q6 _ _ S)<|Ok.eq (k8 _ S) ?_
  by_cases l1:1<=ps.length
  ·rw [decide_eq_true l1,decide_eq_true (show (1:Int)<=(ps.length:Int) by omega)]
   refine Ok.pos rfl<|Ok.eq (Q6 _ _ S)<|Ok.eq (k8 _ S) ?_
   by_cases l4:ps.length<=4
   ·rw [decide_eq_true l4,decide_eq_true (show (ps.length:Int)<=4 by omega)]
    rw [Bool.true_and,Bool.true_and]
    refine Ok.neg (by decide)<|Ok.nxt<|Ok.cg (c4i ..)<|Ok.eq (lrg m6 S)<|Ok.nxt<|Ok.cg (c3w ..)<|Ok.eq (B0 _ S)<|Ok.bind ((Ok.for_ (n:=ps.length) (λi ρ S'=>S'=S/\(∀ p∈ps.take i,rdB m p=true)/\(∀ j,j+1<i->D8 ps j=true)/\∃ o1 o2:Option D,ρ=[some (.int (m:Int)),some (.tup ps),some (.lst ((ahd m ps i).map D.int)),o1,o2]) (λ_ _=>False) (λd' S'=>S'=S/\d'=.bl false/\(ps.all (rdB m)&&(List.range (ps.length-1)).all (D8 ps))=false) ?_ ?_ ps.length 0 _ _ (by omega) ⟨rfl,by simp,λj z=>by omega,_,_,rfl⟩).mono ?_)
    ·intro ρ S' _
     show some ps[ps.length]?=some none
     rw [List.getElem?_eq_none (Nat.le_refl _)]
    ·rintro i ρ S' hi ⟨rfl,al,sb,o1,o2,rfl⟩
     have hm:ps[i]∈ps:=List.getElem_mem hi
     have tk:ps.take (i+1)=ps.take i++[ps[i]]:=List.take_succ_eq_append_getElem hi
     have gi:=c27 hi
     refine ⟨ps[i],_,by show some ps[i]?=_;rw [List.getElem?_eq_getElem hi],rfl,?_⟩
     have ap:=O8 h hm
     have wp:=hw ps[i] hm
     generalize hp:ps[i]=p at ap wp tk gi hm
     unfold a6k
     rw [a35]
     refine Ok.first<|Ok.cg (b1w ..)<|Ok.eq (b4k ap (by omega) m6 wp k S')<|Ok.eq (a:=rdB m p) rfl ?_
     cases q:rdB m p with
     | false=>
      refine Ok.pos rfl<|Ok.ret ⟨rfl,rfl,?_⟩
      rw [List.all_eq_false.mpr ⟨p,hm,by rw [q];exact Bool.false_ne_true⟩];rfl
     | true=>
      obtain ⟨r,rfl,g⟩:=rd_iff.mp q
      have lr:r.length<=10:=by have:(r.map k9).length<=10:=wp;rw [List.length_map] at this;exact this
      have ff:=O5 m6 g.bk
      have ls:(srt r.flatten).length=r.flatten.length:=(b4 _).length_eq
      have c:=T4 (ds:=(srt r.flatten).map D.int) (p:=λd=>decide (j5 d∈ahd m ps i)) (f:=λd1=>bind (b6 .In d1 (.lst ((ahd m ps i).map D.int))) λx3=>ret x3) (S:=S') (by rw [List.length_map];exact C4 (by omega)) (λd hd=>by
       obtain ⟨x,hx,rfl⟩:=List.mem_map.mp hd
       rw [a3 (show b6 .In (.int x) (.lst ((ahd m ps i).map D.int)) S'=_ from inN false x _ S')];rfl)
      refine Ok.neg (by decide)<|Ok.nxt<|Ok.cg (a85 ..)<|Ok.eq (a6d (by omega) (k+4) S')<|Ok.nxt<|Ok.cg (b2g ..)<|nx_bind<|Ok.eq (show k5 (.lst ((srt r.flatten).map D.int)) S'=.ok (A3 ((srt r.flatten).map D.int),((srt r.flatten).map D.int).length+1) S' from rfl)<|Ok.of c<|Ok.eq (a4n _ S')<|Ok.eq (S1:=S') (a:=(((srt r.flatten).map D.int).map λd=>decide (j5 d∈ahd m ps i)).all id) rfl ?_
      rw [all_map,a9l]
      by_cases z:∀ x∈srt r.flatten,x∈ahd m ps i
      ·rw [decide_eq_true z]
       refine Ok.neg (by decide)<|Ok.ret ⟨rfl,λp hp=>?_,λj hj=>?_,some (d8 r),some (.lst ((ahd m ps i).map D.int)),?_⟩
       ·rw [tk] at hp
        rcases List.mem_append.mp hp with w | w
        ·exact al p w
        ·rw [List.mem_singleton.mp w];exact q
       ·by_cases w:j+1=i
        ·subst w
         refine sub_iff.mpr ?_
         rw [gi,X7]
         intro x hx
         exact (b4 _).mem_iff.mp (z x ((b4 _).mem_iff.mpr hx))
        ·exact sb j (by omega)
       ·show _=[some (D.int (m:Int)),some (.tup ps),some (.lst ((srt (hn (ps.getD i .non))).map D.int)),some (d8 r),some (.lst ((ahd m ps i).map D.int))]
        rw [gi,X7]
      ·rw [decide_eq_false z]
       refine Ok.pos rfl<|Ok.ret ⟨rfl,rfl,?_⟩
       cases i with
       | zero=>
        refine (z λx hx=>?_).elim
        obtain ⟨b,hb,hx⟩:=List.mem_flatten.mp ((b4 _).mem_iff.mp hx)
        exact b73 ((g.bk b hb).bd x hx)
       | succ j=>
        have:(List.range (ps.length-1)).all (D8 ps)=false:=by
         rw [List.all_eq_false]
         refine ⟨j,List.mem_range.mpr (by omega),λw=>z ?_⟩
         have w:=sub_iff.mp w
         rw [gi,X7] at w
         intro x hx
         exact (b4 _).mem_iff.mpr (w x ((b4 _).mem_iff.mp hx))
        rw [this,Bool.and_false]
    ·intro fl S' q
     cases fl with
     | nx ρ=>
      rcases q with ⟨rfl,al,sb,o1,o2,rfl⟩ | q
      ·rw [List.take_length] at al
       refine Ok.nxt<|Ok.cg (c4l ..)<|Ok.ret ⟨?_,rfl⟩
       rw [List.all_eq_true.mpr al,List.all_eq_true.mpr λj hj=>sb j (by have:=List.mem_range.mp hj;omega)];rfl
      ·exact q.elim
     | rt d=>
      obtain ⟨rfl,rfl,e⟩:=q
      rw [e]
      exact Ok.ret ⟨rfl,rfl⟩
     | bk ρ=>exact q.elim
     | ct ρ=>exact q.elim
   ·rw [decide_eq_false l4,decide_eq_false (show ¬ (ps.length:Int)<=4 by omega)]
    exact Ok.pos rfl<|Ok.ret ⟨rfl,rfl⟩
  ·rw [decide_eq_false l1,decide_eq_false (show ¬ (1:Int)<=(ps.length:Int) by omega)]
   exact Ok.neg (by decide)<|Ok.pos rfl<|Ok.ret ⟨rfl,rfl⟩
 | scr _=>exact pl.elim
 | ref _=>exact pl.elim
 | _=>exact Ok.first<|Ok.cg (c18 ..)<|Ok.eq (a:=.bl false) rfl<|Ok.eq (a:=false) rfl<|Ok.pos rfl<|Ok.ret ⟨rfl,rfl⟩
theorem c1r:Ok (rn (k+3) c0n [.int (m:Int),d]) S λd' S'=>d'=.bl (okB m d)/\Ex S S':=by
 have pl:=h.pl
 rw [rn,c8 (fd:=Ad) rfl,b6q,b9s]
 cases d with
 | tup ps=>
  show Ok _ _ λd' S'=>d'=D.bl (decide (1<=ps.length)&&decide (ps.length<=4)&&ps.all (rdB m)&&(List.range (ps.length-1)).all (D8 ps))/\Ex S S'
  refine Ok.first<|Ok.cg (c2u ..)<|Ok.eq (a:=.bl true) rfl<|Ok.eq (a:=true) rfl<|Ok.neg (by decide)<|Ok.eq (Z3)<|Ok.eq (Q6 _ _ S)<|Ok.eq (k8 _ S) ?_
  by_cases l1:1<=ps.length
  ·rw [decide_eq_true l1,decide_eq_true (show (1:Int)<=(ps.length:Int) by omega)]
   refine Ok.pos rfl<|Ok.eq (Q6 _ _ S)<|Ok.eq (k8 _ S) ?_
   by_cases l4:ps.length<=4
   ·rw [decide_eq_true l4,decide_eq_true (show (ps.length:Int)<=4 by omega)]
    rw [Bool.true_and,Bool.true_and]
    refine Ok.neg (by decide)<|Ok.nxt<|Ok.cg (c3k ..)<|nx_bind<|Ok.eq (B0 _ S)<|(Ok.comp (n:=ps.length) (λi S' es=>Ex S S'/\es=((ps.take i).map (rdB m)).map D.bl) ?_ ?_ ⟨Ex.refl S,rfl⟩).mono ?_
    ·intro S' es _
     show some ps[ps.length]?=some none
     rw [List.getElem?_eq_none (Nat.le_refl _)]
    ·rintro i S' es hi ⟨hx,rfl⟩
     have hm:ps[i]∈ps:=List.getElem_mem hi
     refine ⟨ps[i],by show some ps[i]?=_;rw [List.getElem?_eq_getElem hi],Ok.ret ?_⟩
     rw [if_pos rfl]
     refine Ok.bind ((c0j (O8 h hm) hn' hN m6 (hw _ hm) k S').mono ?_)
     rintro _ S2 ⟨rfl,hx2⟩
     refine Ok.ret ⟨?_,hx.trans hx2,?_⟩
     ·rw [List.length_map,List.length_map,List.length_take];exact C4 (by omega)
     ·rw [List.take_succ_eq_append_getElem hi,List.map_append,List.map_append];rfl
    ·rintro es S1 ⟨hx1,rfl⟩
     rw [List.take_length]
     refine Ok.eq (inF _ _ _)<|Ok.eq (k8 _ _) ?_
     cases z:ps.all (rdB m) with
     | false=>exact Ok.pos rfl<|Ok.ret ⟨rfl,hx1⟩
     | true=>
      rw [Bool.true_and]
      obtain ⟨rs,rfl,g⟩:=a0y (f:=d8) (q:=GR m) (λd h=>rd_iff.mp h) z
      have hnd:∀ i (hi:i<rs.length),(rs.map d8).getD i .non=d8 rs[i]:=λi hi=>by rw [List.getD_eq_getElem?_getD,k4 (List.getElem?_eq_getElem hi)];rfl
      have sm:∀ i (hi:i<rs.length),rs[i].flatten.length<64/\rs[i].length<=60:=λi hi=>by
       have:(rs[i].map k9).length<=10:=hw (d8 rs[i]) (List.mem_map.mpr ⟨_,List.getElem_mem hi,rfl⟩)
       rw [List.length_map] at this
       have:=O5 m6 (g _ (List.getElem_mem hi)).bk
       omega
      rw [List.length_map] at l1 l4 ⊢
      refine Ok.neg (by decide)<|Ok.nxt<|Ok.cg (c4r ..)<|Ok.eq (Z3) ?_
      rw [List.length_map]
      refine Ok.eq (a5y (by omega) (by omega) S1)<|Ok.bind ((Ok.for_ (n:=rs.length-1) (λi ρ S'=>Ex S S'/\(∀ j,j<i->D8 (rs.map d8) j=true)/\∃ o1 o2:Option D,ρ=[some (.int (m:Int)),some (.tup (rs.map d8)),o1,o2]) (λ_ _=>False) (λd' S'=>Ex S S'/\d'=.bl false/\(List.range (rs.length-1)).all (D8 (rs.map d8))=false) (λρ S' _=>b0y _ S') ?_ (rs.length-1) 0 _ _ (by omega) ⟨hx1,λj z=>by omega,_,_,rfl⟩).mono ?_)
      ·rintro i ρ S' hi ⟨hx,sb,o1,o2,rfl⟩
       have i1:i<rs.length:=by omega
       have i2:i+1<rs.length:=by omega
       refine ⟨.int ((i+1:Nat):Int),_,b40 hi S',rfl,?_⟩
       unfold a59
       rw [a40]
       refine Ok.first<|Ok.cg (a9d ..)<|Ok.eq (c1s i S')<|Ok.eq (b3d S' (k4 (List.getElem?_eq_getElem i1)))<|Ok.bind ((b0r (sm i i1).1 (sm i i1).2 (k+1) S').mono ?_)
       rintro _ S2 ⟨rfl,hx2⟩
       refine Ok.nxt<|Ok.cg (b1x ..)<|nx_bind<|Ok.eq (b3d S2 (k4 (List.getElem?_eq_getElem i2)))<|Ok.bind ((b0r (sm (i+1) i2).1 (sm (i+1) i2).2 (k+1) S2).mono ?_)
       rintro _ S3 ⟨rfl,hx3⟩
       generalize ha:srt rs[i].flatten=as
       generalize hb:srt rs[i+1].flatten=cs
       have lc:cs.length<64:=by rw [<- hb,(b4 _).length_eq];exact (sm (i+1) i2).1
       have c:=N5 (l:=cs) (h:=D.int) (g:=D.int) (p:=λx=>!decide (x∈as)) (t:=λd1=>bind (b6 .NotIn d1 (.lst (as.map D.int))) λx5=>bind (asB x5) λz6=>ret z6) (f:=λd=>ret d) (S:=S3) (C4 (by omega)) (λx _=>by
        rw [a3 (show b6 .NotIn (.int x) (.lst (as.map D.int)) S3=_ from inN true x as S3),a3 (k8 _ S3)];rfl) (λ_ _ _=>rfl)
       refine Ok.eq (show k5 (.lst (cs.map D.int)) S3=.ok (A3 (cs.map D.int),cs.length+1) S3 by show L3.R.ok (_,(cs.map D.int).length+1) S3=_;rw [List.length_map])<|Ok.of c<|Ok.eq (T7 _ S3)<|Ok.eq (k8 _ S3) ?_
       have key:(∀ x∈cs,x∈as)↔D8 (rs.map d8) i=true:=by
        rw [sub_iff,hnd i i1,hnd (i+1) i2,X7,X7,<- ha,<- hb]
        exact ⟨λh x hx=>(b4 _).mem_iff.mp (h x ((b4 _).mem_iff.mpr hx)),λh x hx=>(b4 _).mem_iff.mpr (h x ((b4 _).mem_iff.mp hx))⟩
       have EX:=(hx.trans hx2).trans hx3
       cases e:(cs.filter λx=>!decide (x∈as)).isEmpty with
       | true=>
        have e:=List.filter_eq_nil_iff.mp (List.isEmpty_iff.mp e)
        refine Ok.neg (by decide)<|Ok.ret ⟨EX,λj hj=>?_,_,_,rfl⟩
        by_cases w:j=i
        ·subst w
         exact key.mp λx hx=>by simpa using e x hx
        ·exact sb j (by omega)
       | false=>
        refine Ok.pos rfl<|Ok.ret ⟨EX,rfl,?_⟩
        rw [List.all_eq_false]
        refine ⟨i,List.mem_range.mpr hi,λw=>?_⟩
        have w:=key.mpr w
        rw [List.filter_eq_nil_iff.mpr λx hx=>by simp [w x hx]] at e
        cases e
      ·intro fl S' q
       cases fl with
       | nx ρ=>
        rcases q with ⟨hx,sb,o1,o2,rfl⟩ | q
        ·refine Ok.nxt<|Ok.cg (c4a ..)<|Ok.ret ⟨?_,hx⟩
         rw [List.all_eq_true.mpr λj hj=>sb j (List.mem_range.mp hj)]
        ·exact q.elim
       | rt d=>
        obtain ⟨hx,rfl,e⟩:=q
        rw [e]
        exact Ok.ret ⟨rfl,hx⟩
       | bk ρ=>exact q.elim
       | ct ρ=>exact q.elim
   ·rw [decide_eq_false l4,decide_eq_false (show ¬ (ps.length:Int)<=4 by omega)]
    exact Ok.pos rfl<|Ok.ret ⟨rfl,Ex.refl S⟩
  ·rw [decide_eq_false l1,decide_eq_false (show ¬ (1:Int)<=(ps.length:Int) by omega)]
   exact Ok.neg (by decide)<|Ok.pos rfl<|Ok.ret ⟨rfl,Ex.refl S⟩
 | scr _=>exact pl.elim
 | ref _=>exact pl.elim
 | _=>exact Ok.first<|Ok.cg (c2u ..)<|Ok.eq (a:=.bl false) rfl<|Ok.eq (a:=false) rfl<|Ok.pos rfl<|Ok.ret ⟨rfl,Ex.refl S⟩
end
mutual
noncomputable def wd:D->Nat
 | .tup ds=>max ds.length (wds ds)
 | _=>0
noncomputable def wds:List D->Nat
 | []=>0
 | d :: ds=>max (wd d) (wds ds)
end
theorem G3:∀ {ds:List D} {d:D},d∈ds->wd d<=wds ds
 | e :: ds,d,h=>by
  show wd d<=max (wd e) (wds ds)
  rcases List.mem_cons.mp h with z | z
  ·subst z;omega
  ·have:=G3 z;omega
theorem L6 {n:Nat}:∀ {ds:List D},(∀ d∈ds,wd d<=n)->wds ds<=n
 | [],_=>Nat.zero_le _
 | d :: ds,h=>by
  show max (wd d) (wds ds)<=n
  have:=h d (List.mem_cons_self ..)
  have:=L6 λe he=>h e (List.mem_cons_of_mem _ he)
  omega
theorem A1 (ds:List D):wd (.tup ds)=max ds.length (wds ds):=rfl
theorem n4 {ns:List Int} {p N m:Nat} {S:Sto} (h:Ft ns p (N+1) S) (hm:0<m) (hm2:m<1000000) (k:Nat):Ok (rn (k+1) W3 [.ref p,.int (m:Int)]) S λd S'=>∃ r:Nat,d=.int (r:Int)/\r<m/\Ft ns p N S'/\S'.length=S.length/\∀ q,q≠p->S'[q]?=S[q]?:=by
 rw [rn,c8 (fd:=b1i) rfl,b5o]
 exact b2a h hm hm2
def Kp (p:Nat) (S S':Sto):Prop:=S'.length=S.length/\∀ q,q≠p->S'[q]?=S[q]?
theorem Kp.tr {p:Nat} {S T U:Sto} (a:Kp p S T) (b:Kp p T U):Kp p S U:=⟨b.1.trans a.1,λq h=>(b.2 q h).trans (a.2 q h)⟩
theorem a6i {ns:List Int} {p N m:Nat} {S:Sto} {ds:List D} (h:Ft ns p (N+1) S) (hm:0<m) (hl:ds.length=m) (hm2:m<1000000) (k:Nat):Ok (bind (rn (k+1) W3 [.ref p,.int (m:Int)]) λi=>bind (ixD (.lst ds) i) ret) S λd S'=>d∈ds/\Ft ns p N S'/\Kp p S S':=by
 refine Ok.bind ((n4 h hm (by omega) k).mono ?_)
 rintro _ S1 ⟨r,rfl,hr,f1,l1,k1⟩
 have hr':r<ds.length:=by omega
 exact Ok.eq (b3k S1 (List.getElem?_eq_getElem hr')) (Ok.ret ⟨List.getElem_mem hr',f1,l1,k1⟩)
noncomputable def odds:List D:=[.non,.bl true,.bl false,.int (-1),.int 0,.int 1,.int 2,.int 5,.int 6,.int 1000000000000000000000000000000,.str "a",.str "",.tup [],.lst [],.tup [.int 0],.lst [.int 0],.tup [.tup [.int 0]],.tup [.tup [.int 0,.int 1]],.tup [.int 1,.int 0],.lst [.str "a"],.tup [.lst [.int 0]]]
theorem b31 (C:Cf) (p:D):runK Rs Γ C a4x [p]=bind (C W3 [p,.int 21]) λi=>bind (ixD (.lst odds) i) ret:=by kernel_rfl
structure Odd (d:D):Prop where
 pl:Pln 0 d
 dp:dp d<=2
 sz:sz d<=200
 wd:wd d<=2
theorem b0k:(odds.all λd=>smB 2 200 d&&decide (wd d<=2))=true:=by decide +kernel
theorem a1v {ns:List Int} {p N:Nat} {S:Sto} (h:Ft ns p (N+1) S) (k:Nat):Ok (rn (k+2) b41 [.ref p]) S λd S'=>Odd d/\Ft ns p N S'/\Kp p S S':=by
 rw [rn,c8 (fd:=a4x) rfl,b31]
 refine (a6i (m:=21) h (by omega) rfl (by omega) k).mono ?_
 rintro d S' ⟨hd,f,g⟩
 have:=List.all_eq_true.mp b0k d hd
 rw [Bool.and_eq_true,decide_eq_true_eq] at this
 obtain ⟨a,b,c⟩:=a04 this.1
 exact ⟨⟨a,b,c,this.2⟩,f,g⟩
structure Bt (j:Nat) (d d':D):Prop where
 pl:Pln (j+2) d'
 dp:dp d'<=dp d+2
 sz:sz d'<=2 * sz d+500
 wd:wd d'<=wd d+2
theorem Bt.odd {j:Nat} {d o:D} (h:Odd o):Bt j d o:=⟨h.pl.ups,by have:=h.dp;omega,by have:=h.sz;omega,by have:=h.wd;omega⟩
theorem up2 {j:Nat} {d:D} (h:Pln j d):Pln (j+2) d:=Pln.up _ (Pln.up _ h)
theorem c2y {j:Nat} {ds:List D} (h:Plns j ds):Plns (j+2) ds:=Plns.up _ (Plns.up _ h)
theorem isi (d:D) (b:Bool) (x:String) (S:Sto) (h:v7 x (λ_=>false) d=ret (.bl b)):v7 x (λ_=>false) d S=.ok (.bl b) S:=by rw [h];rfl
section
variable {ns:List Int} {p N j:Nat} {S:Sto} {d:D} (F:Ft ns p (N+3) S) (k:Nat)
include F
theorem P5 (h1:v7 "tuple" (λ_=>false) d=ret (.bl false)) (h2:v7 "int" (λ_=>false) d=ret (.bl false)):Ok (rn (k+3) a5j [.ref p,d]) S λd' S'=>Bt j d d'/\Ft ns p N S'/\Kp p S S':=by
 rw [rn,c8 (fd:=Ab) rfl,a07,a0x]
 refine Ok.first<|Ok.cg (b0o ..)<|Ok.eq (isi _ _ _ _ h1)<|Ok.eq (a:=false) rfl<|Ok.neg (by decide)<|Ok.nxt<|Ok.cg (a86 ..)<|Ok.bind ((n4 (N:=N+1) (m:=7) (F.less (by omega)) (by omega) (by omega) (k+1)).mono ?_)
 rintro _ S1 ⟨w,rfl,hw,f1,l1,k1⟩
 refine Ok.nxt<|Ok.cg (a9g ..)<|Ok.eq (isi _ _ _ _ h1)<|Ok.eq (a:=false) rfl<|Ok.neg (by decide)<|Ok.nxt<|Ok.cg (a94 ..)<|Ok.eq (isi _ _ _ _ h2)<|Ok.eq (a:=false) rfl<|Ok.neg (by decide)<|Ok.nxt<|Ok.cg (a95 ..)<|Ok.bind ((a1v (N:=N) f1 k).mono ?_)
 rintro o S2 ⟨ho,f2,g2⟩
 exact Ok.ret ⟨Bt.odd ho,f2,Kp.tr ⟨l1,k1⟩ g2⟩
theorem a3x {x5 x6 x7 x8:D} (h1:v7 "tuple" (λ_=>false) d=ret (.bl false)) (h2:v7 "int" (λ_=>false) d=ret (.bl true)) (e5:∀ S,y8 d (.int 1) S=.ok x5 S) (e6:∀ S,a1k d (.int 1) S=.ok x6 S) (e7:∀ S,b6 .Eq d (.int 1) S=.ok x7 S) (e8:∀ S,b5l d S=.ok x8 S) (b:∀ x∈[x5,x6,x7,x8,.tup [d]],Bt j d x):Ok (rn (k+3) a5j [.ref p,d]) S λd' S'=>Bt j d d'/\Ft ns p N S'/\Kp p S S':=by
 rw [rn,c8 (fd:=Ab) rfl,a07,a0x]
 refine Ok.first<|Ok.cg (b0o ..)<|Ok.eq (isi _ _ _ _ h1)<|Ok.eq (a:=false) rfl<|Ok.neg (by decide)<|Ok.nxt<|Ok.cg (a86 ..)<|Ok.bind ((n4 (N:=N+1) (m:=7) (F.less (by omega)) (by omega) (by omega) (k+1)).mono ?_)
 rintro _ S1 ⟨w,rfl,hw,f1,l1,k1⟩
 refine Ok.nxt<|Ok.cg (a9g ..)<|Ok.eq (isi _ _ _ _ h1)<|Ok.eq (a:=false) rfl<|Ok.neg (by decide)<|Ok.nxt<|Ok.cg (a94 ..)<|Ok.eq (isi _ _ _ _ h2)<|Ok.eq (a:=true) rfl<|Ok.pos rfl<|Ok.eq (a63 _ _ S1)<|Ok.eq (k8 _ S1) ?_
 by_cases q:(1:Int)<(w:Int)
 ·have hr:w-2<[x5,x6,x7,x8,.tup [d]].length:=by show w-2<5;omega
  exact Ok.pos (decide_eq_true q)<|Ok.eq (e5 S1)<|Ok.eq (e6 S1)<|Ok.eq (e7 S1)<|Ok.eq (e8 S1)<|Ok.eq (show a1k (.int (w:Int)) (.int 2) S1=.ok (.int ((w-2:Nat):Int)) S1 from b0a (a:=w) (b:=2) (by omega) S1)<|Ok.eq (b3k S1 (List.getElem?_eq_getElem hr))<|Ok.ret ⟨b _ (List.getElem_mem hr),f1.less (by omega),l1,k1⟩
 ·refine Ok.neg (by rw [decide_eq_false q];exact Bool.false_ne_true)<|Ok.nxt<|Ok.cg (a95 ..)<|Ok.bind ((a1v (N:=N) f1 k).mono ?_)
  rintro o S2 ⟨ho,f2,g2⟩
  exact Ok.ret ⟨Bt.odd ho,f2,Kp.tr ⟨l1,k1⟩ g2⟩
end
theorem a4f (b:Bool):(a19 b).length<=5/\Asc (a19 b):=by cases b <;> exact ⟨by decide +kernel,by unfold Asc;decide +kernel⟩
theorem b3q {ds:List D} {a:Nat} (h:a<=ds.length):(u9 ds (some (a:Int)) (some ((a+1:Nat):Int))).length<=1:=by
 have e1:HT.sIx ds.length 0 (some (a:Int))=a:=by
  show (if (a:Int)<0 then ((a:Int)+(ds.length:Int)).toNat else min (a:Int).toNat ds.length)=a
  rw [if_neg (by omega)];simp;omega
 have e2:HT.sIx ds.length ds.length (some ((a+1:Nat):Int))<=a+1:=by
  show (if ((a+1:Nat):Int)<0 then (((a+1:Nat):Int)+(ds.length:Int)).toNat else min ((a+1:Nat):Int).toNat ds.length)<=a+1
  rw [if_neg (by omega)];simp;omega
 unfold u9
 rw [e1,List.length_take]
 omega
theorem a0z {j:Nat} {ds es:List D} (pl:Plns j ds) (sub:∀ d∈es,d∈ds) (hz:szs es<=2 * szs ds) (hl:es.length<=ds.length+2):Bt j (.tup ds) (.tup es):=by
 have D0:dp (.tup ds)=dps ds+1:=rfl
 have Z0:sz (.tup ds)=szs ds+3:=rfl
 refine ⟨(c2y pl).sub sub,by have:=b2y sub;show dps _+1<=_;omega,by show szs _+3<=_;omega,?_⟩
 rw [A1,A1]
 have:wds es<=wds ds:=L6 λd hd=>G3 (sub d hd)
 omega
theorem b84 {j:Nat} {ds es:List D} {o:D} (pl:Plns j ds) (ho:Odd o) (sub:∀ d∈es,d∈ds\/d=o) (hz:szs es<=szs ds+210) (hl:es.length<=ds.length+2):Bt j (.tup ds) (.tup es):=by
 have D0:dp (.tup ds)=dps ds+1:=rfl
 have Z0:sz (.tup ds)=szs ds+3:=rfl
 refine ⟨Plns.of λd hd=>?_,?_,by show szs _+3<=_;omega,?_⟩
 ·rcases sub d hd with q | rfl
  ·exact up2 (pl.mem d q)
  ·exact ho.pl.ups
 ·have:dps es<=dps ds+2:=P8 λd hd=>by
   rcases sub d hd with q | rfl
   ·have:=G2 q;omega
   ·have:=ho.dp;omega
  show dps _+1<=_;omega
 ·rw [A1,A1]
  have:wds es<=wds ds+2:=L6 λd hd=>by
   rcases sub d hd with q | rfl
   ·have:=G3 q;omega
   ·have:=ho.wd;omega
  omega
theorem b18 {ds:List D} {a:Nat} (h:a<=ds.length):(u9 ds (some ((a+1:Nat):Int)) none).length<=ds.length-a:=by
 have e1:a<=HT.sIx ds.length 0 (some ((a+1:Nat):Int)):=by
  show a<=(if ((a+1:Nat):Int)<0 then (((a+1:Nat):Int)+(ds.length:Int)).toNat else min ((a+1:Nat):Int).toNat ds.length)
  rw [if_neg (by omega)];simp;omega
 unfold u9
 rw [List.length_take,List.length_drop]
 omega
section
variable {ns:List Int} {p N j:Nat} {S:Sto} {ds:List D} (F:Ft ns p (N+3) S) (pl:Plns j ds) (hz:szs ds<=100000) (k:Nat)
include F pl hz
theorem rest_ok:Ok (nxt (evK Rs Γ (rn (k+2)) 40) E3 [nth Ab.body 1,nth Ab.body 2,nth Ab.body 3,nth Ab.body 4] endD (.nx [some (.ref p),some (.tup ds),none,none,none])) S λd' S'=>Bt j (.tup ds) d'/\Ft ns p N S'/\Kp p S S':=by
 have len:=T9 ds
 refine Ok.nxt<|Ok.cg (a86 ..)<|Ok.bind ((n4 (N:=N+2) (m:=7) (F.less (by omega)) (by omega) (by omega) (k+1)).mono ?_)
 rintro _ S1 ⟨w,rfl,hw,f1,l1,k1⟩
 refine Ok.nxt<|Ok.cg (a9g ..)<|Ok.eq (a:=.bl true) rfl<|Ok.eq (a:=true) rfl<|Ok.pos rfl<|Ok.eq (a63 _ _ S1)<|Ok.eq (k8 _ S1) ?_
 by_cases q:(0:Int)<(w:Int)
 ·refine Ok.pos (decide_eq_true q) ?_
  rw [a2d]
  refine Ok.first<|Ok.cg (a8r ..)<|Ok.eq (Z3)<|Ok.eq (show y8 (.int (ds.length:Int)) (.int 1) S1=.ok (.int ((ds.length+1:Nat):Int)) S1 from P6 ds.length 1 S1)<|Ok.bind ((n4 (N:=N+1) (m:=ds.length+1) f1 (by omega) (by omega) (k+1)).mono ?_)
  rintro _ S2 ⟨a,rfl,ha,f2,l2,k2⟩
  have ha:a<=ds.length:=by omega
  have iM:∀ (i:Int) (S:Sto),C7 (.int i) S=.ok (some i) S:=λi S=>rfl
  have sT:∀ S:Sto,slD (.tup ds) none (some (a:Int)) S=.ok (.tup (ds.take a)) S:=λS=>by
   show L3.R.ok (D.tup (u9 ds none (some (a:Int)))) S=_
   rw [X8 ha]
  have sD:∀ S:Sto,slD (.tup ds) (some (a:Int)) none S=.ok (.tup (ds.drop a)) S:=λS=>by
   show L3.R.ok (D.tup (u9 ds (some (a:Int)) none)) S=_
   rw [a24 ha]
  have a1:∀ S:Sto,y8 (.int (a:Int)) (.int 1) S=.ok (.int ((a+1:Nat):Int)) S:=λS=>P6 a 1 S
  generalize hm:u9 ds (some (a:Int)) (some ((a+1:Nat):Int))=mid
  have lm:mid.length<=1:=by rw [<- hm];exact b3q ha
  have sm:mid.Sublist ds:=by rw [<- hm];exact a6f ..
  generalize hr:u9 ds (some ((a+1:Nat):Int)) none=rst
  have sr:rst.Sublist ds:=by rw [<- hr];exact a6f ..
  have lr:=sr.length_le
  have zt:=b1e ds a
  have zm:=a6w sm
  have cat:∀ {xs ys:List D} {S:Sto},xs.length+ys.length<=sizeLine->y8 (.tup xs) (.tup ys) S=.ok (.tup (xs++ys)) S:=λh=>cat_tup h
  have lt:(ds.take a).length<=ds.length:=by rw [List.length_take];omega
  have ld:(ds.drop a).length+(ds.take a).length=ds.length:=by rw [List.length_take,List.length_drop];omega
  have sl:=sizeLine_eq
  refine Ok.nxt<|Ok.cg (a7q ..)<|Ok.eq (a:=.lst ds) (S1:=S2) rfl<|Ok.eq (iM _ S2)<|Ok.eq (sT S2)<|Ok.eq (a1 S2)<|Ok.eq (iM _ S2)<|Ok.eq (show slD (.tup ds) (some ((a+1:Nat):Int)) none S2=.ok (.tup rst) S2 by rw [<- hr];rfl)<|Ok.eq (cat (by rw [sl];omega))<|Ok.eq (iM _ S2)<|Ok.eq (sT S2)<|Ok.eq (iM _ S2)<|Ok.eq (a1 S2)<|Ok.eq (iM _ S2)<|Ok.eq (show slD (.tup ds) (some (a:Int)) (some ((a+1:Nat):Int)) S2=.ok (.tup mid) S2 by rw [<- hm];rfl)<|Ok.eq (cat (by rw [sl];omega))<|Ok.eq (iM _ S2)<|Ok.eq (sD S2)<|Ok.eq (cat (by rw [List.length_append,sl];omega))<|Ok.eq (a:=.int (-1)) (S1:=S2) rfl<|Ok.eq (show a2k (.tup ds) (.int (-1)) S2=.ok (.tup ds.reverse) S2 from rfl) ?_
  refine Ok.nxt<|Ok.cg (a8h ..)<|Ok.eq (iM _ S2)<|Ok.eq (sT S2)<|Ok.bind ((a1v (N:=N) f2 k).mono ?_)
  rintro o S3 ⟨ho,f3,g3⟩
  refine Ok.eq (cat (by rw [sl];show _+1<=_;omega))<|Ok.eq (iM _ S3)<|Ok.eq (sD S3)<|Ok.eq (cat (by rw [List.length_append,sl];show _+1+_<=_;omega)) ?_
  refine Ok.eq (show y8 (.lst [.lst ds,.tup (ds.take a++rst),.tup (ds.take a++mid++ds.drop a),.tup ds.reverse]) (.lst [.tup (ds.take a++[o]++ds.drop a),.tup []]) S3=.ok (.lst [.lst ds,.tup (ds.take a++rst),.tup (ds.take a++mid++ds.drop a),.tup ds.reverse,.tup (ds.take a++[o]++ds.drop a),.tup []]) S3 by kernel_rfl)<|Ok.eq (show a1k (.int (w:Int)) (.int 1) S3=.ok (.int ((w-1:Nat):Int)) S3 from b0a (a:=w) (b:=1) (by omega) S3) ?_
  have hi:w-1<[D.lst ds,.tup (ds.take a++rst),.tup (ds.take a++mid++ds.drop a),.tup ds.reverse,.tup (ds.take a++[o]++ds.drop a),.tup []].length:=by show w-1<6;omega
  refine Ok.eq (b3k S3 (List.getElem?_eq_getElem hi))<|Ok.ret ⟨?_,f3,Kp.tr (Kp.tr ⟨l1,k1⟩ ⟨l2,k2⟩) g3⟩
  have hd:=List.getElem_mem hi
  generalize [D.lst ds,.tup (ds.take a++rst),.tup (ds.take a++mid++ds.drop a),.tup ds.reverse,.tup (ds.take a++[o]++ds.drop a),.tup []][w-1]=d' at hd
  have D0:dp (.tup ds)=dps ds+1:=rfl
  have Z0:sz (.tup ds)=szs ds+3:=rfl
  have mt:∀ d∈ds.take a,d∈ds:=λd h=>List.mem_of_mem_take h
  have md:∀ d∈ds.drop a,d∈ds:=λd h=>List.mem_of_mem_drop h
  simp only [List.mem_cons,List.not_mem_nil,or_false] at hd
  rcases hd with rfl | rfl | rfl | rfl | rfl | rfl
  ·exact ⟨c2y pl,by show dps ds+1<=_;omega,by show szs ds+3<=_;omega,Nat.zero_le _⟩
  ·refine a0z pl (λd hd=>?_) ?_ ?_
   ·rcases List.mem_append.mp hd with z | z
    ·exact mt d z
    ·exact sr.subset z
   ·rw [u5];have:=a6w sr;omega
   ·rw [List.length_append,<- hr,List.length_take];have:=b18 ha;omega
  ·refine a0z pl (λd hd=>?_) ?_ ?_
   ·rcases List.mem_append.mp hd with z | z
    ·rcases List.mem_append.mp z with z | z
     ·exact mt d z
     ·exact sm.subset z
    ·exact md d z
   ·rw [u5,u5];omega
   ·rw [List.length_append,List.length_append];omega
  ·exact a0z pl (λd hd=>List.mem_reverse.mp hd) (by rw [a62];omega) (by rw [List.length_reverse];omega)
  ·refine b84 pl ho (λd hd=>?_) ?_ ?_
   ·rcases List.mem_append.mp hd with z | z
    ·rcases List.mem_append.mp z with z | z
     ·exact .inl (mt d z)
     ·exact .inr (List.mem_singleton.mp z)
    ·exact .inl (md d z)
   ·rw [u5,u5]
    show szs _+(sz o+2+0)+szs _<=_
    have:=ho.sz
    omega
   ·rw [List.length_append,List.length_append];show _+1+_<=_;omega
  ·exact a0z pl (λd hd=>by cases hd) (Nat.zero_le _) (Nat.zero_le _)
 ·refine Ok.neg (by rw [decide_eq_false q];exact Bool.false_ne_true)<|Ok.nxt<|Ok.cg (a94 ..)<|Ok.eq (a:=.bl false) rfl<|Ok.eq (a:=false) rfl<|Ok.neg (by decide)<|Ok.nxt<|Ok.cg (a95 ..)<|Ok.bind ((a1v (N:=N) (f1.less (by omega)) k).mono ?_)
  rintro o S2 ⟨ho,f2,g2⟩
  exact Ok.ret ⟨Bt.odd ho,f2,Kp.tr ⟨l1,k1⟩ g2⟩
end
theorem a1d {ns:List Int} {p:Nat}:∀ (k:Nat) (d:D) (j N:Nat) (S:Sto),Pln j d->dp d<=k->dp d<=3+j->j<=30->sz d<=100000->Ft ns p (N+4 * (k+1)) S->Ok (rn (k+3) a5j [.ref p,d]) S λd' S'=>Bt j d d'/\Ft ns p N S'/\Kp p S S'
 | k,.non,j,N,S,pl,hd,hdj,hj,hz,h=>P5 (h.less (by omega)) k rfl rfl
 | k,.lst ds,j,N,S,pl,hd,hdj,hj,hz,h=>P5 (h.less (by omega)) k rfl rfl
 | k,.str x,j,N,S,pl,hd,hdj,hj,hz,h=>P5 (h.less (by omega)) k rfl rfl
 | k,.bl b,j,N,S,pl,hd,hdj,hj,hz,h=>by
  refine a3x (h.less (by omega)) k rfl rfl (x5:=.int (a0a b+1)) (x6:=.int (a0a b-1)) (x7:=.bl b) (x8:=.str (a19 b)) (λS=>rfl) (λS=>rfl) (λS=>by cases b <;> rfl) (λS=>rfl) λx hx=>?_
  have Z0:sz (.bl b)=5:=rfl
  have bi:∀ i:Int,i.natAbs<=10->Pln (j+2) (.int i):=λi h=>by show i.natAbs<=y3 (j+2);unfold y3;omega
  simp only [List.mem_cons,List.not_mem_nil,or_false] at hx
  rcases hx with rfl | rfl | rfl | rfl | rfl
  ·exact ⟨bi _ (by cases b <;> decide),Nat.zero_le _,by show 60<=_;omega,Nat.zero_le _⟩
  ·exact ⟨bi _ (by cases b <;> decide),Nat.zero_le _,by show 60<=_;omega,Nat.zero_le _⟩
  ·exact ⟨trivial,Nat.zero_le _,by omega,Nat.zero_le _⟩
  ·exact ⟨⟨by have:=(a4f b).1;omega,(a4f b).2⟩,Nat.zero_le _,by have:=(a4f b).1;show 10 * _+2<=_;omega,Nat.zero_le _⟩
  ·exact ⟨⟨trivial,trivial⟩,by show max 0 0+1<=_;omega,by show 5+2+0+3<=_;omega,by show max 1 (max 0 0)<=_;omega⟩
 | k,.int i,j,N,S,pl,hd,hdj,hj,hz,h=>by
  have pl:i.natAbs<=y3 j:=pl
  have lg:=of_decide_eq_true (a50 pl (by omega))
  have Z0:sz (.int i)=60:=rfl
  have hl:(Str.ofString (toString i)).length<=41:=by
   have e:=int_text_length_le10 (k:=40) (a:=i) (by decide) (by unfold y3 at pl;omega)
   rw [PySem.ofString_length];omega
  refine a3x (h.less (by omega)) k rfl rfl (x5:=.int (i+1)) (x6:=.int (i-1)) (x7:=.bl (decide (i=1))) (x8:=.str (Str.ofString (toString i))) (λS=>rfl) (λS=>rfl) (λS=>rfl) (λS=>by
   show (if i.natAbs.log2<1920 then ret (D.str (toString i)) else bad) S=_
   rw [if_pos lg];rfl) λx hx=>?_
  simp only [List.mem_cons,List.not_mem_nil,or_false] at hx
  rcases hx with rfl | rfl | rfl | rfl | rfl
  ·exact ⟨by show (i+1).natAbs<=y3 (j+2);unfold y3 at *;omega,Nat.zero_le _,by show 60<=_;omega,Nat.zero_le _⟩
  ·exact ⟨by show (i-1).natAbs<=y3 (j+2);unfold y3 at *;omega,Nat.zero_le _,by show 60<=_;omega,Nat.zero_le _⟩
  ·exact ⟨trivial,Nat.zero_le _,by show 5<=_;omega,Nat.zero_le _⟩
  ·exact ⟨⟨by omega,b5b i⟩,Nat.zero_le _,by show 10 * _+2<=_;omega,Nat.zero_le _⟩
  ·exact ⟨⟨by show i.natAbs<=y3 (j+2);unfold y3 at *;omega,trivial⟩,by show max 0 0+1<=_;omega,by show 60+2+0+3<=_;omega,by show max 1 (max 0 0)<=_;omega⟩
 | k,.tup ds,j,N,S,pl,hd,hdj,hj,hz,h=>by
  have pl:Plns j ds:=pl
  have hd:dps ds+1<=k:=hd
  have hdj:dps ds+1<=3+j:=hdj
  have hz:szs ds+3<=100000:=hz
  have len:=T9 ds
  have D0:dp (.tup ds)=dps ds+1:=rfl
  have Z0:sz (.tup ds)=szs ds+3:=rfl
  rw [rn,c8 (fd:=Ab) rfl,a07,a0x]
  refine Ok.first<|Ok.cg (b0o ..)<|Ok.eq (a:=.bl true) rfl<|Ok.eq (a:=true) rfl<|Ok.pos rfl<|Ok.eq (a5d (j:=j) (N:=100000) ⟨pl,hdj,hz⟩ (by omega) S)<|Ok.eq (k8 _ S) ?_
  by_cases he:ds=[]
  ·subst he
   exact Ok.neg (by simp)<|rest_ok (h.less (by omega)) pl (by omega) k
  ·have hp:0<ds.length:=List.length_pos_iff.mpr he
   refine Ok.pos (by simp [he])<|Ok.bind ((n4 (m:=5) (N:=N+4 * k+3) (h.less (by omega)) (by omega) (by omega) (k+1)).mono ?_)
   rintro _ S1 ⟨q,rfl,hq,f1,l1,k1⟩
   have g1:Kp p S S1:=⟨l1,k1⟩
   refine Ok.eq (a63 _ _ S1)<|Ok.eq (k8 _ S1) ?_
   by_cases hz2:(0:Int)<(q:Int)
   ·refine Ok.pos (decide_eq_true hz2)<|Ok.eq (Z3)<|Ok.bind ((n4 (m:=ds.length) (N:=N+4 * k) (f1.less (by omega)) hp (by omega) (k+1)).mono ?_)
    rintro _ S2 ⟨r,rfl,hr,f2,l2,k2⟩
    have g2:Kp p S1 S2:=⟨l2,k2⟩
    have er:ds[r]?=some ds[r]:=List.getElem?_eq_getElem hr
    refine Ok.eq (show C7 (.int (r:Int)) S2=.ok (some (r:Int)) S2 from rfl)<|Ok.eq (show slD (.tup ds) none (some (r:Int)) S2=.ok (.tup (ds.take r)) S2 by
     show L3.R.ok (D.tup (u9 ds none (some (r:Int)))) S2=_
     rw [X8 (by omega)])<|Ok.eq (b3d S2 er) ?_
    obtain ⟨k',rfl⟩:∃ k',k=k'+1:=⟨k-1,by omega⟩
    have hm:=G2 (List.getElem_mem hr)
    have za:=b1r er
    refine Ok.bind ((a1d k' ds[r] j N S2 (pl.mem _ (List.getElem_mem hr)) (by omega) (by omega) hj (by omega) (f2.less (by omega))).mono ?_)
    rintro y S3 ⟨hy,f3,g3⟩
    have cat:∀ {xs ys:List D} {S:Sto},xs.length+ys.length<=sizeLine->y8 (.tup xs) (.tup ys) S=.ok (.tup (xs++ys)) S:=λh=>cat_tup h
    refine Ok.eq (cat (by rw [List.length_take,sizeLine_eq];simp;omega))<|Ok.eq (show y8 (.int (r:Int)) (.int 1) S3=.ok (.int ((r+1:Nat):Int)) S3 from P6 r 1 S3)<|Ok.eq (show C7 (.int ((r+1:Nat):Int)) S3=.ok (some ((r+1:Nat):Int)) S3 from rfl)<|Ok.eq (show slD (.tup ds) (some ((r+1:Nat):Int)) none S3=.ok (.tup (ds.drop (r+1))) S3 by
     show L3.R.ok (D.tup (u9 ds (some ((r+1:Nat):Int)) none)) S3=_
     rw [a24 (by omega)])<|Ok.eq (cat (by rw [List.length_append,List.length_take,List.length_drop,sizeLine_eq];simp;omega))<|Ok.ret ⟨?_,f3,g1.tr (g2.tr g3)⟩
    have mem:∀ d∈ds.take r++[y]++ds.drop (r+1),d∈ds\/d=y:=λd hd=>by
     rcases List.mem_append.mp hd with q | q
     ·rcases List.mem_append.mp q with q | q
      ·exact .inl (List.mem_of_mem_take q)
      ·exact .inr (List.mem_singleton.mp q)
     ·exact .inl (List.mem_of_mem_drop q)
    have ln:(ds.take r++[y]++ds.drop (r+1)).length=ds.length:=by
     rw [List.length_append,List.length_append,List.length_take,List.length_drop]
     show min r ds.length+1+_=_
     omega
    refine ⟨Plns.of λd hd=>?_,?_,?_,?_⟩
    ·rcases mem d hd with q | rfl
     ·exact up2 (pl.mem d q)
     ·exact hy.pl
    ·have:dps (ds.take r++[y]++ds.drop (r+1))<=dps ds+2:=P8 λd hd=>by
      rcases mem d hd with q | rfl
      ·have:=G2 q;omega
      ·have:=hy.dp;omega
     show dps _+1<=_;omega
    ·have:=hy.sz
     show szs _+3<=_
     rw [u5,u5]
     show szs _+(sz y+2+0)+szs _+3<=_
     omega
    ·rw [A1,A1,ln]
     have:wds (ds.take r++[y]++ds.drop (r+1))<=wds ds+2:=L6 λd hd=>by
      rcases mem d hd with q | rfl
      ·have:=G3 q;omega
      ·have:=hy.wd
       have:=G3 (List.getElem_mem hr)
       omega
     omega
   ·refine Ok.neg (by rw [decide_eq_false hz2];exact Bool.false_ne_true) ?_
    exact (rest_ok (f1.less (by omega)) pl (by omega) k).mono λd' S' h=>⟨h.1,h.2.1,g1.tr h.2.2⟩
 | _,.scr _,_,_,_,pl,_,_,_,_,_=>pl.elim
 | _,.ref _,_,_,_,pl,_,_,_,_,_=>pl.elim
theorem J6 {ns:List Int} {p N:Nat} {S:Sto} (h:Ft ns p N S):p<S.length:=by
 obtain ⟨a,l,t,e,_⟩:=h
 exact (List.getElem?_eq_some_iff.mp e).1
theorem a56:∀ {l:List Int} {j:Nat} (h:j<l.length),(l[j] :: l.eraseIdx j).Perm l
 | a :: l,0,_=>.refl _
 | a :: l,j+1,h=>by
  show (l[j]'(by simpa using h) :: a :: l.eraseIdx j).Perm (a :: l)
  exact (List.Perm.swap ..).trans ((a56 (by simpa using h)).cons a)
theorem b23 {ns:List Int} {p N:Nat} {S:Sto} {hs:List Int} (h:Ft ns p (N+6) S) (hl:hs.length<=6) (k:Nat):Ok (rn (k+2) c01 [.ref p,.lst (hs.map D.int)]) S λd S'=>∃ os:List Int,d=.lst (os.map D.int)/\os.Perm hs/\Ft ns p N S'/\Tk p S S':=by
 rw [rn,c8 (fd:=b7x) rfl,b8h]
 have hp:=J6 h
 refine Ok.eq (show listP (.lst (hs.map D.int)) S=.ok (.ref S.length) (S++[.lst (hs.map D.int)]) from rfl)<|nx_bind<|Ok.eq (c02 _ _) ?_
 rw [List.length_map]
 refine Ok.eq (a00 (by omega) _) ?_
 refine (Ok.comp (n:=hs.length) (λi S' es=>∃ os lf:List Int,es=os.map D.int/\os.length=i/\(os++lf).Perm hs/\Ft ns p (N+(6-i)) S'/\S'.length=S.length+1/\S'[S.length]?=some (.lst (lf.map D.int))/\∀ q,q<S.length->q≠p->S'[q]?=S[q]?) (λS' es _=>R7 _ S') ?_ ?_).mono ?_
 ·rintro i S' es hi ⟨os,lf,rfl,h1,h2,h5,h6,h7,h8⟩
  have ln:=h2.length_eq
  rw [List.length_append] at ln
  refine ⟨.int (i:Int),a1l hi S',Ok.ret ?_⟩
  rw [if_pos rfl]
  refine Ok.eq (Q2 h7) (Ok.eq (c2g h7) ?_)
  rw [List.length_map]
  refine Ok.bind ((n4 (m:=lf.length) (N:=N+(6-(i+1))) (h5.less (by omega)) (by omega) (by omega) k).mono ?_)
  rintro _ S1 ⟨r,rfl,hr,f1,l1,k1⟩
  have hg:lf[r]?=some lf[r]:=List.getElem?_eq_getElem hr
  have e7:S1[S.length]?=some (.lst (lf.map D.int)):=by rw [k1 _ (by omega)];exact h7
  refine Ok.eq (c2b e7 (k4 hg) (by omega)) (Ok.ret ?_)
  refine ⟨?_,os++[lf[r]],lf.eraseIdx r,by simp,by simp [h1],?_,?_,by simp [l1,h6],?_,?_⟩
  ·rw [List.length_map,h1];exact C4 (by omega)
  ·refine List.Perm.trans ?_ h2
   rw [List.append_assoc]
   refine List.Perm.append_left os ?_
   exact a56 hr
  ·refine f1.keep ?_
   rw [List.getElem?_set_ne (by omega)]
  ·rw [List.getElem?_set_self (by omega),Y8]
  ·intro q hq hqp
   rw [List.getElem?_set_ne (by omega),k1 q hqp,h8 q hq hqp]
 ·refine ⟨[],hs,rfl,rfl,by simp,(h.less (by omega)).keep (by rw [List.getElem?_append_left hp]),by simp,by rw [List.getElem?_append_right (Nat.le_refl _)];simp,λq hq _=>by rw [List.getElem?_append_left hq]⟩
 ·rintro es S' ⟨os,lf,rfl,h1,h2,h5,h6,h7,h8⟩
  have ln:=h2.length_eq
  rw [List.length_append] at ln
  have:lf=[]:=List.length_eq_zero_iff.mp (by omega)
  subst this
  rw [List.append_nil] at h2
  exact Ok.ret ⟨os,rfl,h2,h5.less (by omega),by omega,h8⟩
noncomputable def gl (g:Nat) (bl:List (List Int)):O:=.lst ((List.range bl.length).map λj=>D.ref (g+1+j))
noncomputable def bs (bl:List (List Int)):Sto:=bl.map λb=>O.lst (b.map D.int)
noncomputable def Gs (T U:Sto) (bl:List (List Int)):Sto:=T++gl (T.length+U.length) bl :: (U++bs bl)
theorem b3v (T U:Sto) (bl:List (List Int)):(Gs T U bl)[T.length]?=some (gl (T.length+U.length) bl):=by
 unfold Gs
 rw [List.getElem?_append_right (Nat.le_refl _)];simp
theorem b8s {T U:Sto} {bl:List (List Int)} {j:Nat} {b:List Int} (h:bl[j]?=some b):(Gs T U bl)[T.length+U.length+1+j]?=some (.lst (b.map D.int)):=by
 unfold Gs bs
 rw [List.getElem?_append_right (by omega),show T.length+U.length+1+j-T.length=(U.length+j)+1 by omega,List.getElem?_cons_succ,List.getElem?_append_right (by omega),show U.length+j-U.length=j by omega,k4 h]
theorem a5h (T U:Sto) (bl:List (List Int)):(Gs T U bl).length=T.length+U.length+1+bl.length:=by
 unfold Gs bs
 rw [List.length_append,List.length_cons,List.length_append,List.length_map];omega
theorem b7r {T U:Sto} {bl:List (List Int)} {q:Nat} (h:q<T.length):(Gs T U bl)[q]?=T[q]?:=by
 unfold Gs
 rw [List.getElem?_append_left h]
theorem b8i (T U:Sto) (bl:List (List Int)):(Gs T U bl++[O.lst []]).set T.length (.lst ((List.range bl.length).map (λj=>D.ref (T.length+U.length+1+j))++[.ref (Gs T U bl).length]))=Gs T U (bl++[[]]):=by
 rw [a5h]
 unfold Gs gl bs
 rw [List.append_assoc,List.set_append_right _ _ (Nat.le_refl _)]
 simp [List.range_succ]
theorem b8u (T U:Sto) (bl:List (List Int)) (b:List Int) (h:Int):(Gs T U (bl++[b])).set (T.length+U.length+1+bl.length) (.lst (b.map D.int++[.int h]))=Gs T U (bl++[b++[h]]):=by
 unfold Gs gl bs
 rw [List.set_append_right _ _ (by omega)]
 rw [show T.length+U.length+1+bl.length-T.length=(U.length+bl.length)+1 by omega,List.set_cons_succ,List.set_append_right _ _ (by omega)]
 simp [show U.length+bl.length-U.length=bl.length by omega,List.set_append_right]
theorem b0t (n:Nat) {S:Sto} {k:Nat} {ds:List D} (e:S[k]?=some (.lst ds)):d9 (n+1) S (.ref k)=(f9 (d9 n S) ds).map .list:=by simp only [d9,e]
noncomputable def pL (b:List Int):PyData:=.list (b.map .int)
theorem a6a {α β γ:Type} {f:β->Option γ} {g:α->β} {q:α->γ}:∀ {l:List α},(∀ a∈l,f (g a)=some (q a))->f9 f (l.map g)=some (l.map q)
 | [],_=>rfl
 | a :: l,h=>by simp only [List.map_cons,f9,h a (List.mem_cons_self ..),a6a λb hb=>h b (List.mem_cons_of_mem _ hb)]
theorem a6n {α:Type} {q:α->PyData}:∀ {l:List α},(∀ a∈l,(q a).canLay0=true)->PyData.canLayAll0 (l.map q)=true
 | [],_=>rfl
 | a :: l,h=>by simp only [List.map_cons,PyData.canLayAll0,h a (List.mem_cons_self ..),a6n λb hb=>h b (List.mem_cons_of_mem _ hb),Bool.and_self]
theorem c3e (T U:Sto) (bl:List (List Int)):b6 .Eq (.ref T.length) (.lst []) (Gs T U bl)=.ok (.bl bl.isEmpty) (Gs T U bl):=by
 show eqP false (.ref T.length) (.lst []) (Gs T U bl)=_
 have m:f9 (d9 63 (Gs T U bl)) ((List.range bl.length).map λj=>D.ref (T.length+U.length+1+j))=some ((List.range bl.length).map λj=>pL (bl.getD j [])):=by
  refine a6a λj hj=>?_
  have hj:j<bl.length:=List.mem_range.mp hj
  have e:=b8s (T:=T) (U:=U) (List.getElem?_eq_getElem hj)
  rw [b0t 62 e,N3 61]
  have:bl.getD j []=bl[j]:=by simp [hj]
  rw [this];rfl
 have e:d9 64 (Gs T U bl) (.ref T.length)=some (.list ((List.range bl.length).map λj=>pL (bl.getD j []))):=by
  rw [b0t 63 (b3v T U bl),m];rfl
 unfold eqP
 rw [e]
 show (if PyData.canLay0 (.list ((List.range bl.length).map λj=>pL (bl.getD j [])))=true/\PyData.canLay0 (.list [])=true/\min (PyData.depth (.list ((List.range bl.length).map λj=>pL (bl.getD j [])))) (PyData.depth (.list []))<=60 then ret (D.bl (PyData.eqv (.list ((List.range bl.length).map λj=>pL (bl.getD j []))) (.list []))) else bad) (Gs T U bl)=_
 have hd:PyData.depth (.list [])<=60:=by simp [PyData.depth,PyData.depthAll]
 rw [if_pos ⟨by simp only [PyData.canLay0];exact a6n λj _=>by unfold pL;simp only [PyData.canLay0];exact P0 _,rfl,by omega⟩]
 cases bl with
 | nil=>rfl
 | cons b bl=>
  show R.ok (D.bl (PyData.eqv (.list ((List.range (bl.length+1)).map λj=>pL ((b :: bl).getD j []))) (.list []))) _=_
  rw [List.range_succ_eq_map]
  rfl
theorem b0e {S:Sto} {n:Nat} {ds:List D} {d:D} (e:S[n]?=some (.lst ds)) (h:ds.getLast?=some d):ixD (.ref n) (.int (-1)) S=.ok d S:=by
 have:=b4u S h
 have a:atI ds (-1)=some d:=by
  cases q:atI ds (-1) with
  | none=>
   have t:ixD (.tup ds) (.int (-1)) S=V9 (atI ds (-1)) S:=rfl
   rw [t,q] at this;cases this
  | some x=>
   have t:ixD (.tup ds) (.int (-1)) S=V9 (atI ds (-1)) S:=rfl
   rw [t,q] at this;cases this;rfl
 simp only [ixD,e,a];rfl
theorem b63 (T U:Sto) (bl:List (List Int)) (hb:bl.length<=60) {β:Type} (κ:M β):bind (lstOf (.ref T.length)) (λ_=>bind (w9 []) λe=>bind (J9 (.ref T.length) [e]) λ_=>κ) (Gs T U bl)=κ (Gs T U (bl++[[]])):=by
 have e:=b3v T U bl
 have nw:w9 [] (Gs T U bl)=.ok (.ref (Gs T U bl).length) (Gs T U bl++[.lst []]):=rfl
 have e2:(Gs T U bl++[O.lst []])[T.length]?=some (gl (T.length+U.length) bl):=by rw [List.getElem?_append_left (by rw [a5h];omega)];exact e
 rw [a3 (Q2 e),a3 nw,a3 (a2j e2 (by rw [List.length_map,List.length_range];exact C4 (by omega))),b8i]
theorem a4g:∀ bl:List (List Int),((bl.map srt).flatten).Perm bl.flatten
 | []=>.refl _
 | b :: bl=>by
  rw [List.map_cons,List.flatten_cons,List.flatten_cons]
  exact (b4 b).append (a4g bl)
theorem a2w {ns:List Int} {p N m:Nat} {T U:Sto} {bl:List (List Int)} (h:Ft ns p (N+1) T) (hm:0<m) (hm2:m<1000000) (k:Nat):Ok (rn (k+1) W3 [.ref p,.int (m:Int)]) (Gs T U bl) λd S'=>∃ (r:Nat) (T':Sto),d=.int (r:Int)/\r<m/\S'=Gs T' U bl/\T'.length=T.length/\Ft ns p N T'/\∀ q,q≠p->T'[q]?=T[q]?:=by
 have h1:Ft ns p (N+1) (Gs T U bl):=h.keep (b7r (J6 h))
 refine (n4 h1 hm hm2 k).mono ?_
 rintro _ S' ⟨r,rfl,hr,f,l,kq⟩
 obtain ⟨T',e,l',k',kp⟩:=a38 (T:=T) (R:=gl (T.length+U.length) bl :: (U++bs bl)) (J6 h) l kq
 refine ⟨r,T',rfl,hr,?_,l',f.keep kp,k'⟩
 rw [e];unfold Gs;rw [l']
structure SR (qs:List Int) (m:Nat) (r:List (List Int)):Prop where
 fl:r.flatten.length=m
 le:r.length<=m
 mem:∀ x∈r.flatten,x∈qs
theorem Z6 {ns:List Int} {p N m:Nat} {S:Sto} {hs qs:List Int} (h:Ft ns p (N+7) S) (hl:qs.length<=6) (hm:m<=qs.length) (k:Nat):Ok (nxt (evK Rs Γ (rn (k+2)) 40) y7 [nth Aa.body 3,nth Aa.body 4,nth Aa.body 5,nth Aa.body 6] endD (.nx [some (.ref p),some (.lst (hs.map D.int)),some (.lst (qs.map D.int)),some (.int (m:Int)),none,none,none])) S λd S'=>∃ r:List (List Int),d=d8 r/\SR qs m r/\Ft ns p N S'/\Tk p S S':=by
 have hp:=J6 h
 refine Ok.nxt<|Ok.cg (c05 ..)<|Ok.eq (show w9 [] S=.ok (.ref S.length) (Gs S [] []) from rfl) ?_
 refine Ok.nxt<|Ok.cg (c3d ..)<|Ok.bind ((a2w (N:=N+6) (m:=2) h (by omega) (by omega) (k+1)).mono ?_)
 rintro _ _ ⟨w,T,rfl,hw,rfl,lT,FT,kT0⟩
 have kT:∀ q,q<S.length->q≠p->T[q]?=S[q]?:=λq _ hq=>kT0 q hq
 generalize hU:([]:Sto)=U
 have os_:∃ os,os=qs.take m:=⟨_,rfl⟩
 obtain ⟨os,eo⟩:=os_
 have lo:os.length=m:=by rw [eo,List.length_take];omega
 refine Ok.eq (P6 2 w _)<|Ok.nxt<|Ok.cg (c2n ..)<|Ok.eq (show C7 (.int (m:Int)) _=.ok (some (m:Int)) _ from rfl)<|Ok.eq (show slD (.lst (qs.map D.int)) none (some (m:Int)) (Gs T U [])=.ok (.lst (os.map D.int)) (Gs T U []) by
  show L3.R.ok (D.lst (u9 (qs.map D.int) none (some (m:Int)))) _=_
  rw [X8 (by rw [List.length_map];exact hm),<- List.map_take,eo]) ?_
 refine Ok.eq (show k5 (.lst (os.map D.int)) (Gs T U [])=.ok (A3 (os.map D.int),(os.map D.int).length+1) (Gs T U []) from rfl) ?_
 rw [List.length_map,lo,<- lT]
 refine Ok.bind ((Ok.for_ (n:=m) (λi ρ S'=>∃ (T':Sto) (bl:List (List Int)) (o:Option D),ρ=[some (.ref p),some (.lst (hs.map D.int)),some (.lst (qs.map D.int)),some (.int (m:Int)),some (.ref T.length),some (.int ((2+w:Nat):Int)),o]/\S'=Gs T' U bl/\T'.length=T.length/\bl.flatten=os.take i/\(∀ b∈bl,b≠[])/\bl.length<=i/\Ft ns p (N+(6-i)) T'/\∀ q,q≠p->T'[q]?=T[q]?) (λ_ _=>False) (λ_ _=>False) ?_ ?_ m 0 _ _ (by omega) ⟨T,[],none,rfl,rfl,rfl,by simp,by simp,by simp,FT,λ_ _=>rfl⟩).mono ?_)
 ·intro ρ S' _
  show some (os.map D.int)[m]?=some none
  rw [List.getElem?_eq_none (by rw [List.length_map,lo];exact Nat.le_refl _)]
 ·rintro i ρ S' hi ⟨T',bl,o,rfl,rfl,lT',fl,ne,bi,fT',kT'⟩
  have hi':i<os.length:=by rw [lo];exact hi
  have tk:os.take (i+1)=os.take i++[os[i]]:=List.take_succ_eq_append_getElem hi'
  refine ⟨.int os[i],_,by show some (os.map D.int)[i]?=_;rw [k4 (List.getElem?_eq_getElem hi')],rfl,?_⟩
  unfold a2o
  rw [a3y]
  have fin:∀ (T2:Sto) (b2:List (List Int)) (b:List Int),T2.length=T.length->(b2++[b]).flatten=os.take i->(∀ b∈b2,b≠[])->(b2++[b]).length<=i+1->Ft ns p (N+(6-(i+1))) T2->(∀ q,q≠p->T2[q]?=T[q]?)->Ok (nxt (evK Rs Γ (λi ds=>rn (k+2) i ds) 39) y7 [nth w6 1] ret (.nx [some (.ref p),some (.lst (hs.map D.int)),some (.lst (qs.map D.int)),some (.int (m:Int)),some (.ref T.length),some (.int ((2+w:Nat):Int)),some (.int os[i])])) (Gs T2 U (b2++[b])) (FlI (λρ S'=>∃ (T':Sto) (bl:List (List Int)) (o:Option D),ρ=[some (.ref p),some (.lst (hs.map D.int)),some (.lst (qs.map D.int)),some (.int (m:Int)),some (.ref T.length),some (.int ((2+w:Nat):Int)),o]/\S'=Gs T' U bl/\T'.length=T.length/\bl.flatten=os.take (i+1)/\(∀ b∈bl,b≠[])/\bl.length<=i+1/\Ft ns p (N+(6-(i+1))) T'/\∀ q,q≠p->T'[q]?=T[q]?) (λ_ _=>False) (λ_ _=>False)):=λT2 b2 b l2 f2 n2 c2 d2 q2=>by
   have hb:b.length<=60:=by
    have:=congrArg List.length f2
    rw [List.flatten_append,List.length_append,List.length_take] at this
    simp at this
    omega
   have e:=b3v T2 U (b2++[b])
   have eb:=b8s (T:=T2) (U:=U) (bl:=b2++[b]) (j:=b2.length) (b:=b) (by simp)
   rw [<- l2]
   refine Ok.nxt<|Ok.cg (a70 ..)<|Ok.eq (a:=.int (-1)) (S1:=Gs T2 U (b2++[b])) (by kernel_rfl)<|Ok.eq (b0e (d:=.ref (T2.length+U.length+1+b2.length)) e (by rw [List.length_append];simp [List.range_succ]))<|Ok.eq (Q2 eb)<|Ok.eq (a2j eb (by rw [List.length_map];exact C4 (by omega))) ?_
   rw [b8u]
   refine Ok.ret ⟨T2,b2++[b++[os[i]]],_,rfl,rfl,rfl,?_,?_,?_,d2,q2⟩
   ·rw [tk,<- f2];simp
   ·intro c hc
    rcases List.mem_append.mp hc with z | z
    ·exact n2 c z
    ·rw [List.mem_singleton.mp z];simp
   ·simpa using c2
  have fresh:∀ (T2:Sto),T2.length=T.length->Ft ns p (N+(6-(i+1))) T2->(∀ q,q≠p->T2[q]?=T[q]?)->Ok (bind (lstOf (.ref T.length)) λ_=>bind (w9 []) λe=>bind (J9 (.ref T.length) [e]) λ_=>(nxt (evK Rs Γ (λi ds=>rn (k+2) i ds) 39) y7 [nth w6 1] ret (.nx [some (.ref p),some (.lst (hs.map D.int)),some (.lst (qs.map D.int)),some (.int (m:Int)),some (.ref T.length),some (.int ((2+w:Nat):Int)),some (.int os[i])]))) (Gs T2 U bl) (FlI (λρ S'=>∃ (T':Sto) (bl:List (List Int)) (o:Option D),ρ=[some (.ref p),some (.lst (hs.map D.int)),some (.lst (qs.map D.int)),some (.int (m:Int)),some (.ref T.length),some (.int ((2+w:Nat):Int)),o]/\S'=Gs T' U bl/\T'.length=T.length/\bl.flatten=os.take (i+1)/\(∀ b∈bl,b≠[])/\bl.length<=i+1/\Ft ns p (N+(6-(i+1))) T'/\∀ q,q≠p->T'[q]?=T[q]?) (λ_ _=>False) (λ_ _=>False)):=λT2 l2 d2 q2=>by
   have e:=λκ:M Fl=>b63 T2 U bl (by omega) κ
   rw [l2] at e
   refine Ok.cgS (m':=λ_=>(nxt (evK Rs Γ (λi ds=>rn (k+2) i ds) 39) y7 [nth w6 1] ret (.nx [some (.ref p),some (.lst (hs.map D.int)),some (.lst (qs.map D.int)),some (.int (m:Int)),some (.ref T.length),some (.int ((2+w:Nat):Int)),some (.int os[i])])) (Gs T2 U (bl++[[]]))) (e _) ?_
   exact fin T2 bl [] l2 (by simp [fl]) ne (by simpa using bi) d2 q2
  have eq:=c3e T' U bl
  rw [lT'] at eq
  refine Ok.first<|Ok.cg (a7k ..)<|Ok.eq eq<|Ok.eq (k8 _ _) ?_
  cases hb:bl with
  | nil=>
   rw [show List.isEmpty ([]:List (List Int))=true from rfl,if_pos rfl]
   rw [hb] at fresh
   exact fresh T' lT' (fT'.less (by omega)) kT'
  | cons b0 bt=>
   rw [show List.isEmpty (b0 :: bt)=false from rfl,if_neg Bool.false_ne_true]
   rw [<- hb]
   refine Ok.bind ((a2w (N:=N+(6-(i+1))) (m:=2+w) (fT'.less (by omega)) (by omega) (by omega) (k+1)).mono ?_)
   rintro _ _ ⟨c,T2,rfl,hc,rfl,l2,f2,k2⟩
   have l3:T2.length=T.length:=by rw [l2,lT']
   have k3:∀ q,q≠p->T2[q]?=T[q]?:=λq hq=>by rw [k2 q hq,kT' q hq]
   refine Ok.eq (b1d _ _ _)<|Ok.eq (k8 _ _) ?_
   by_cases hz:(c:Int)=0
   ·rw [decide_eq_true hz,if_pos rfl]
    exact fresh T2 l3 f2 k3
   ·rw [decide_eq_false hz,if_neg Bool.false_ne_true]
    have hne:bl≠[]:=by rw [hb];exact List.cons_ne_nil _ _
    have e2:bl=bl.dropLast++[bl.getLast hne]:=(List.dropLast_concat_getLast hne).symm
    have:=fin T2 bl.dropLast (bl.getLast hne) l3 (by rw [<- e2];exact fl) (λb hb=>ne b (List.dropLast_subset _ hb)) (by rw [<- e2];omega) f2 k3
    rw [<- e2] at this
    exact this
 ·intro fl S' q
  cases fl with
  | rt d=>exact q.elim
  | bk ρ=>exact q.elim
  | ct ρ=>exact q.elim
  | nx ρ=>
   rcases q with ⟨T',bl,o,rfl,rfl,lT',fl,ne,bi,fT',kT'⟩ | q
   ·rw [<- lT']
    have eg:=b3v T' U bl
    rw [<- lo,List.take_length] at fl
    refine Ok.nxt<|Ok.cg (c2h ..)<|nx_bind<|Ok.eq (show k5 (.ref T'.length) (Gs T' U bl)=.ok (a1b T'.length,bl.length+1) (Gs T' U bl) by
     simp only [k5,eg,gl,List.length_map,List.length_range]) ?_
    have fll:bl.flatten.length=m:=by rw [fl,lo]
    have c:=M0 (src:=a1b T'.length) (l:=List.range bl.length) (h:=λj=>D.ref (T'.length+U.length+1+j)) (g:=λj=>k9 (srt (bl.getD j []))) (p:=λ_=>true) (t:=λ_=>ret true) (f:=λd=>bind (v3 d) λl=>bind (K3 l) λx=>ret x) (S:=Gs T' U bl) (λi=>by rw [b05 eg]) (by rw [List.length_range];exact C4 (by omega)) (λ_ _=>rfl) (λj hj _=>by
     have hj:j<bl.length:=List.mem_range.mp hj
     have eb:=b8s (T:=T') (U:=U) (List.getElem?_eq_getElem hj)
     have lb:bl[j].length<64:=by
      have:bl[j].length<=bl.flatten.length:=(List.sublist_flatten_of_mem (List.getElem_mem hj)).length_le
      omega
     have eg:bl.getD j []=bl[j]:=by simp [hj]
     rw [a3 (W4 eb lb),eg]
     rfl)
    rw [List.length_range] at c
    refine Ok.of c<|Ok.eq (a:=.tup _) rfl<|Ok.ret ⟨bl.map srt,?_,⟨?_,?_,?_⟩,(fT'.less (by omega)).keep (b7r (J6 fT')),?_,?_⟩
    ·unfold d8
     rw [List.map_map]
     congr 1
     rw [List.filter_eq_self.mpr (λ_ _=>rfl)]
     apply List.ext_getElem?
     intro i
     simp only [List.getElem?_map]
     by_cases hi:i<bl.length
     ·rw [List.getElem?_range hi,List.getElem?_eq_getElem hi]
      simp [hi]
     ·rw [List.getElem?_eq_none (by simpa using hi),List.getElem?_eq_none (by simpa using hi)]
      rfl
    ·rw [(a4g bl).length_eq,fll]
    ·rw [List.length_map];exact bi
    ·intro x hx
     have hx:=(a4g bl).mem_iff.mp hx
     rw [fl,eo] at hx
     exact List.mem_of_mem_take hx
    ·rw [a5h];omega
    ·intro q hq hqp
     rw [b7r (by omega),kT' q hqp,kT q hq hqp]
   ·exact q.elim
theorem a08 (m:Nat):(rgL m).length=m:=by unfold rgL;rw [List.length_map,List.length_range]
theorem SR.mono {qs hs:List Int} {m:Nat} {r:List (List Int)} (h:SR qs m r) (s:∀ x∈qs,x∈hs):SR hs m r:=⟨h.fl,h.le,λx hx=>s x (h.mem x hx)⟩
theorem a3m {ns:List Int} {p N:Nat} {S:Sto} {hs:List Int} (h:Ft ns p (N+16) S) (hl:hs.length<=6) (h0:0<hs.length) (k:Nat):Ok (rn (k+3) b8w [.ref p,.lst (hs.map D.int)]) S λd S'=>∃ (m:Nat) (r:List (List Int)),d=d8 r/\SR hs m r/\0<m/\m<=6/\Ft ns p N S'/\Tk p S S':=by
 rw [rn,c8 (fd:=Aa) rfl,b50,b3f]
 refine Ok.first<|Ok.cg (c0l ..)<|Ok.bind ((b23 (N:=N+10) (h.less (by omega)) hl k).mono ?_)
 rintro _ S1 ⟨os,rfl,po,f1,t1⟩
 have lo:=po.length_eq
 refine Ok.nxt<|Ok.cg (c1a ..)<|Ok.eq (B3 _ _)<|Ok.nxt<|Ok.cg (c1u ..)<|Ok.bind ((n4 (N:=N+9) (m:=2) f1 (by omega) (by omega) (k+1)).mono ?_)
 rintro _ S2 ⟨c,rfl,hc,f2,l2,k2⟩
 have t2:Tk p S S2:=t1.trans ⟨by omega,λq _ hq=>k2 q hq⟩
 refine Ok.eq (b1d _ _ S2)<|Ok.eq (k8 _ _) ?_
 by_cases hz:(c:Int)=0
 ·refine Ok.pos (decide_eq_true hz)<|Ok.eq (B3 _ _)<|Ok.bind ((n4 (N:=N+8) (m:=os.length) f2 (by omega) (by omega) (k+1)).mono ?_)
  rintro _ S3 ⟨e,rfl,he,f3,l3,k3⟩
  have t3:Tk p S S3:=t2.trans ⟨by omega,λq _ hq=>k3 q hq⟩
  refine Ok.eq (P6 1 e S3) ?_
  refine (Z6 (hs:=hs) (N:=N) (m:=1+e) (f3.less (by omega)) (by omega) (by omega) k).mono ?_
  rintro _ S4 ⟨r,rfl,R,f4,t4⟩
  exact ⟨1+e,r,rfl,R.mono λx hx=>po.mem_iff.mp hx,by omega,by omega,f4,t3.trans t4⟩
 ·refine Ok.neg (by rw [decide_eq_false hz];exact Bool.false_ne_true) ?_
  refine (Z6 (hs:=hs) (N:=N) (m:=os.length) (f2.less (by omega)) (by omega) (by omega) k).mono ?_
  rintro _ S4 ⟨r,rfl,R,f4,t4⟩
  exact ⟨os.length,r,rfl,R.mono λx hx=>po.mem_iff.mp hx,by omega,by omega,f4,t2.trans t4⟩
structure RS (m:Nat) (r:List (List Int)):Prop where
 fl:r.flatten.length<=6
 le:r.length<=6
 bd:∀ x∈r.flatten,x∈rgL m
noncomputable def b6m (rs:List (List (List Int))):D:=.tup (rs.map d8)
theorem a8b {ns:List Int} {p N m:Nat} {S:Sto} {t:Nat} (h:Ft ns p (N+65) S) (h0:0<m) (m6:m<=6) (t0:0<t) (t4:t<=4) (k:Nat):Ok (rn (k+4) b8d [.ref p,.int (m:Int),.int (t:Int)]) S λd S'=>∃ rs:List (List (List Int)),d=b6m rs/\0<rs.length/\rs.length<=4/\(∀ r∈rs,RS m r)/\Ft ns p N S':=by
 rw [rn,c8 (fd:=Ac) rfl,b2t,b4c]
 have hp:=J6 h
 refine Ok.first<|Ok.cg (c2a ..)<|Ok.eq (lrg m6 S)<|Ok.nxt<|Ok.cg (c11 ..)<|Ok.eq (show w9 [] S=.ok (.ref S.length) (S++[.lst []]) from rfl) ?_
 have F0:Ft ns p (N+65) (S++[.lst []]):=h.keep (by rw [List.getElem?_append_left hp])
 refine Ok.nxt<|Ok.cg (c2w ..)<|Ok.bind ((n4 (N:=N+64) (m:=t) F0 t0 (by omega) (k+2)).mono ?_)
 rintro _ S1 ⟨c,rfl,hc,F1,l1,k1⟩
 have e1:S1[S.length]?=some (.lst []):=by rw [k1 _ (by omega)];simp
 refine Ok.eq (P6 1 c S1)<|Ok.eq (a00 (n:=1+c) (by omega) S1)<|Ok.bind ((Ok.for_ (n:=1+c) (λi ρ S'=>∃ (rs:List (List (List Int))) (hs:List Int) (o:Option D),rs.length=i/\(∀ r∈rs,RS m r)/\0<hs.length/\hs.length<=6/\(∀ x∈hs,x∈rgL m)/\Ft ns p (N+16 * (4-i)) S'/\S'[S.length]?=some (.lst (rs.map d8))/\ρ=[some (.ref p),some (.int (m:Int)),some (.int (t:Int)),some (.lst (hs.map D.int)),some (.ref S.length),o]) (λ_ _=>False) (λ_ _=>False) (λρ S' _=>R7 _ S') ?_ (1+c) 0 _ _ (by omega) ⟨[],rgL m,_,rfl,by simp,by rw [a08];exact h0,by rw [a08];exact m6,λx hx=>hx,F1.less (by omega),e1,rfl⟩).mono ?_)
 ·rintro i ρ S' hi ⟨rs,hs,o,rl,rg,hs0,hs6,hsm,F,eq,rfl⟩
  have lt:=(List.getElem?_eq_some_iff.mp eq).1
  refine ⟨.int (i:Int),_,a1l hi S',rfl,?_⟩
  unfold a3w
  rw [a3b]
  refine Ok.first<|Ok.cg (a7r ..)<|Ok.eq (Q2 eq)<|Ok.bind ((a3m (N:=N+16 * (4-(i+1))) (F.less (by omega)) hs6 hs0 k).mono ?_)
  rintro _ S2 ⟨z,r,rfl,R,z0,z6,F2,t2⟩
  have eq2:S2[S.length]?=some (.lst (rs.map d8)):=by rw [t2.2 _ lt (by omega)];exact eq
  have lt2:=(List.getElem?_eq_some_iff.mp eq2).1
  refine Ok.eq (a2j eq2 (by rw [List.length_map];exact C4 (by omega))) ?_
  have eq3:(S2.set S.length (.lst (rs.map d8++[d8 r])))[S.length]?=some (.lst (rs.map d8++[d8 r])):=by rw [List.getElem?_set_self lt2]
  refine Ok.nxt<|Ok.cg (a7y ..)<|Ok.eq (a:=.int (-1)) (S1:=S2.set S.length (.lst (rs.map d8++[d8 r]))) rfl<|Ok.eq (b0e eq3 (by simp))<|Ok.bind ((b0r (r:=r) (by have:=R.fl;omega) (by have:=R.le;omega) (k+2) _).mono ?_)
  rintro _ S3 ⟨rfl,hx⟩
  have F2':Ft ns p (N+16 * (4-(i+1))) (S2.set S.length (.lst (rs.map d8++[d8 r]))):=F2.keep (by rw [List.getElem?_set_ne (by omega)])
  have rin:∀ x∈r.flatten,x∈rgL m:=λx hx=>hsm x (R.mem x hx)
  refine Ok.ret ⟨rs++[r],srt r.flatten,_,by rw [List.length_append,rl];rfl,λq hq=>?_,?_,?_,λx hx=>rin x ((b4 _).mem_iff.mp hx),F2'.keep (hx.at (J6 F2')),?_,rfl⟩
  ·rcases List.mem_append.mp hq with w | w
   ·exact rg q w
   ·rw [List.mem_singleton.mp w];exact ⟨by have:=R.fl;omega,by have:=R.le;omega,rin⟩
  ·rw [(b4 _).length_eq,R.fl];exact z0
  ·rw [(b4 _).length_eq,R.fl];exact z6
  ·rw [hx.at (List.getElem?_eq_some_iff.mp eq3).1,eq3,List.map_append];rfl
 ·rintro fl S2 hf
  cases fl with
  | rt d=>exact hf.elim
  | bk ρ=>exact hf.elim
  | ct ρ=>exact hf.elim
  | nx ρ=>
   rcases hf with ⟨rs,hs,o,rl,rg,hs0,hs6,hsm,F,eq,rfl⟩ | hf
   ·exact Ok.nxt<|Ok.cg (c3b ..)<|Ok.eq (c07 eq)<|Ok.ret ⟨rs,rfl,by omega,by omega,rg,F.less (by omega)⟩
   ·exact hf.elim
noncomputable def sizes:List (Nat×Nat):=[(6,1),(6,2),(4,3),(3,4),(2,4),(5,2),(1,4),(4,2),(5,3)]
theorem b0p (C:Cf) (p:D):runK Rs Γ C b17 [p]=bind (C W3 [p,.int 9]) λi=>bind (ixD (.lst (sizes.map λab=>.tup [.int (ab.1:Int),.int (ab.2:Int)])) i) ret:=by kernel_rfl
theorem a8o:∀ ab∈sizes,0<ab.1/\ab.1<=6/\0<ab.2/\ab.2<=4:=by decide
theorem b3y {ns:List Int} {p N:Nat} {S:Sto} (h:Ft ns p (N+1) S) (k:Nat):Ok (rn (k+2) b7f [.ref p]) S λd S'=>∃ m t:Nat,d=.tup [.int (m:Int),.int (t:Int)]/\0<m/\m<=6/\0<t/\t<=4/\Ft ns p N S':=by
 rw [rn,c8 (fd:=b17) rfl,b0p]
 refine (a6i (m:=9) h (by omega) rfl (by omega) k).mono ?_
 rintro d S' ⟨hd,f,g⟩
 obtain ⟨ab,hab,rfl⟩:=List.mem_map.mp hd
 obtain ⟨a,b,c,e⟩:=a8o ab hab
 exact ⟨ab.1,ab.2,rfl,a,b,c,e,f⟩
structure GT (d:D):Prop where
 any:∃ j,j<=40/\Any j 50000 d
 nar:Nar d
theorem b67 (p:D):(els p).length<=wd p:=by
 cases p with
 | tup ds=>rw [A1];show ds.length<=_;omega
 | _=>exact Nat.zero_le _
theorem a4b {d:D} (h:wd d<=10):Nar d:=λp hp=>by
 cases d with
 | tup ds=>
  have hp:p∈ds:=hp
  have:=G3 hp
  have:=b67 p
  rw [A1] at h
  omega
 | _=>cases hp
theorem b0g {d:D} (g:GT d) {m:Nat} (m6:m<=6) (k:Nat) (S:Sto):Ok (rn (k+7) b2j [.int (m:Int),d]) S λd' S'=>d'=.bl true/\Ex S S':=by
 obtain ⟨j,hj,a⟩:=g.any
 rw [rn,c8 (fd:=b1m) rfl,b4e]
 have rb:∀ S,D7 (.bl (okB m d)) S=.ok (.str (py (.bl (okB m d))).shown) S:=λS=>Sml.repr (n:=1) (N:=10) Sml.bl (S:=S)
 refine Ok.eq (U0 a hj (by omega) S)<|Ok.eq (b2d a hj (by omega) m6 g.nar k S)<|Ok.eq (rb S)<|Ok.bind ((c1r a hj (by omega) m6 g.nar (k+3) S).mono ?_)
 rintro _ S1 ⟨rfl,hx⟩
 exact Ok.eq (rb S1)<|Ok.eq (a6q _ S1)<|Ok.eq (a:=true) rfl<|Ok.pos rfl<|Ok.eq (U0 a hj (by omega) S1)<|Ok.eq (a6q _ S1)<|Ok.ret ⟨rfl,hx⟩
theorem a65 {d:D} (g:GT d) {ms:List Nat} (h:∀ m∈ms,m<=6) (hl:ms.length<=10) (k:Nat) (S:Sto):Ok (f7 (A3 (ms.map λ(m:Nat)=>D.int (m:Int))) (λd1=>bind (rn (k+7) b2j [d1,d]) λx3=>bind (i8 x3) λz4=>ret (!z4)) (λd1=>ret d1) (ms.length+1) 0 []) S λes S'=>es=[]/\Ex S S':=by
 refine (Ok.comp (n:=ms.length) (λi S' es=>es=[]/\Ex S S') ?_ ?_ ⟨rfl,Ex.refl S⟩).mono λes S' q=>q
 ·intro S' es _
  show some (ms.map λ(m:Nat)=>D.int (m:Int))[ms.length]?=some none
  rw [List.getElem?_eq_none (by simp)]
 ·rintro i S' es hi ⟨rfl,hx⟩
  refine ⟨.int (ms[i]:Int),by show some (ms.map λ(m:Nat)=>D.int (m:Int))[i]?=_;rw [k4 (List.getElem?_eq_getElem hi)],?_⟩
  refine Ok.bind ((b0g g (h _ (List.getElem_mem hi)) k S').mono ?_)
  rintro _ S2 ⟨rfl,hx2⟩
  refine Ok.eq (a:=true) rfl<|Ok.ret ?_
  rw [if_neg (by decide)]
  exact ⟨rfl,hx.trans hx2⟩
noncomputable def statics:List D:=[.non,(.tup []),(.lst []),(.tup [(.tup [])]),(.tup [(.tup [(.tup [])])]),(.tup [(.tup [(.tup [(.int 0)])])]),(.tup [(.tup [(.int 0)])]),(.tup [(.lst [(.tup [(.int 0)])])]),(.tup [(.tup [(.lst [(.int 0)])])]),(.str "a"),(.bl true),(.tup [(.tup [(.tup [(.tup [(.int 0)])])])]),
 (.tup [(.tup [(.tup [(.int 0),(.int 0)])])]),(.tup [(.tup [(.tup [(.int 0)]),(.tup [(.int 0)])])]),(.tup [(.tup [(.tup [(.int 1),(.int 0)])])]),(.tup [(.tup [(.tup [(.bl true)])])]),(.tup [(.tup [(.tup [.int (-1)])])]),(.tup [(.tup [(.tup [(.int 0)]),(.tup [])])]),
 (.tup [(.tup []),(.tup [(.tup [(.int 0)])])]),(.tup [(.tup [(.tup [(.int 1)])]),(.tup [(.tup [(.int 0)])])]),(.tup [(.tup [(.tup [(.int 0),(.int 1)])]),(.tup [(.tup [(.int 1)])]),(.tup [(.tup [(.int 1)])]),(.tup [(.tup [(.int 1)])])]),(.tup [(.tup [(.tup [(.int 0)])]),(.tup [(.tup [(.int 0)])]),(.tup [(.tup [(.int 0)])]),(.tup [(.tup [(.int 0)])]),(.tup [(.tup [(.int 0)])])])]
theorem a3v:(statics.all λd=>smB 8 5000 d&&decide (wd d<=10))=true:=by decide +kernel
theorem Z8 {n N:Nat} {d:D} (h:Sml n N d) (hn:n<=8) (hN:N<=50000) (hw:Nar d):GT d:=⟨⟨5,by omega,h.pl.ups,by have:=h.dp;omega,by have:=h.sz;omega⟩,hw⟩
theorem a4a:∀ d∈statics,GT d:=λd hd=>by
 have:=List.all_eq_true.mp a3v d hd
 rw [Bool.and_eq_true,decide_eq_true_eq] at this
 exact Z8 (n:=8) (N:=5000) ⟨(a04 this.1).1,(a04 this.1).2.1,(a04 this.1).2.2⟩ (by omega) (by omega) (a4b this.2)
theorem c1x {m:Nat} {x:Int} (h:x∈rgL m):∃ i:Nat,i<m/\x=(i:Int):=by
 unfold rgL at h
 obtain ⟨i,hi,e⟩:=List.mem_map.mp h
 exact ⟨i,List.mem_range.mp hi,e.symm⟩
section
variable {m:Nat} (m6:m<=6) {r:List (List Int)} (R:RS m r)
include R
theorem a9k {b:List Int} (hb:b∈r):b.length<=6:=Nat.le_trans (List.sublist_flatten_of_mem hb).length_le R.fl
theorem c4n:wd (d8 r)<=6:=by
 unfold d8
 rw [A1,List.length_map]
 have:wds (r.map k9)<=6:=L6 λd hd=>by
  obtain ⟨b,hb,rfl⟩:=List.mem_map.mp hd
  unfold k9
  rw [A1,List.length_map]
  have:=a9k R hb
  have:wds (b.map D.int)<=0:=L6 λd hd=>by
   obtain ⟨x,_,rfl⟩:=List.mem_map.mp hd
   exact Nat.zero_le _
  omega
 have:=R.le
 omega
include m6
theorem c37:Sml 2 2265 (d8 r):=by
 refine Sml.tup (n:=1) (N:=375) (m:=6) (.map λb hb=>?_) (by rw [List.length_map];exact R.le)
 refine Sml.tup (n:=0) (N:=60) (m:=6) (.map λx hx=>?_) (by rw [List.length_map];exact a9k R hb)
 obtain ⟨i,hi,rfl⟩:=c1x (R.bd x (List.mem_flatten.mpr ⟨b,hb,hx⟩))
 exact .nat (by omega)
end
theorem a1n {m:Nat} {ds:List D} (h:∀ d∈ds,∃ r,d=d8 r/\RS m r):Nar (.tup ds):=λp hp=>by
 obtain ⟨r,rfl,R⟩:=h p hp
 have:=R.le
 show (r.map k9).length<=10
 rw [List.length_map];omega
theorem Z9 {m t:Nat} (m6:m<=6) {ds:List D} (h:∀ d∈ds,∃ r,d=d8 r/\RS m r) (hl:ds.length<=t):Sml 3 ((2265+2) * t+3) (.tup ds)/\Sml 3 ((2265+2) * t+3) (.lst ds):=by
 have s:Smls 2 2265 ds:=λd hd=>by
  obtain ⟨r,rfl,R⟩:=h d hd
  exact c37 m6 R
 exact ⟨Sml.tup s hl,Sml.lst s hl⟩
theorem c1g {m:Nat} {ds:List D} (h:∀ d∈ds,∃ r,d=d8 r/\RS m r) (hl:ds.length<=6):wd (.tup ds)<=6:=by
 rw [A1]
 have:wds ds<=6:=L6 λd hd=>by
  obtain ⟨r,rfl,R⟩:=h d hd
  exact c4n R
 omega
theorem b3b (ns:List Int) (S:Sto) (k:Nat):∃ ms:List Int,rn (k+1) b69 [.scr (ns.map D.int)] S=.ok (.ref S.length) (S++[d6 ms 0 0 0]):=by
 obtain ⟨ms,em⟩:=b0c ns
 refine ⟨ms,?_⟩
 rw [rn,c8 (fd:=b1u) rfl,b5a,a3 (show slD (.scr (ns.map D.int)) none (some 63) S=.ok (.lst (u9 (ns.map D.int) none (some 63))) S from rfl),em]
 rfl
theorem b80 (ns:List Int):∃ S',rn 9 b1h [.scr (ns.map D.int)] []=.ok (.bl true) S':=by
 suffices h:Ok (rn 9 b1h [.scr (ns.map D.int)]) [] λd _=>d=.bl true by
  obtain ⟨d,S',e,rfl⟩:=h
  exact ⟨S',e⟩
 rw [rn,c8 (fd:=law_F) rfl,b4l,b38]
 obtain ⟨ms,ew⟩:=b3b ns [] 7
 refine Ok.first<|Ok.cg (c09 ..)<|Ok.eq ew ?_
 have F0:Ft ms 0 900 ([]++[d6 ms 0 0 0]):=⟨0,0,0,by simp,by omega,by omega,by omega,by omega⟩
 generalize ([]++[d6 ms 0 0 0]:Sto)=S0 at F0
 show Ok (nxt _ _ _ _ (.nx [some (.scr (ns.map D.int)),some (.ref 0),none,none,none,none,none,none,none,none])) S0 _
 refine Ok.nxt<|Ok.cg (c3c ..)<|Ok.nxt<|Ok.cg (c0z ..)<|Ok.eq (a:=.int (-1)) (S1:=S0) rfl<|Ok.eq (a:=.lst (statics.take 18)) (S1:=S0) (by kernel_rfl)<|Ok.nxt<|Ok.cg (c2f ..)<|Ok.eq (a:=.lst (statics.take 20)) (S1:=S0) (by kernel_rfl)<|Ok.nxt<|Ok.cg (c1k ..)<|Ok.eq (a:=.tup [(.tup [(.tup [(.int 0)])]),(.tup [(.tup [(.int 0)])]),(.tup [(.tup [(.int 0)])]),(.tup [(.tup [(.int 0)])]),(.tup [(.tup [(.int 0)])])]) (S1:=S0) (by kernel_rfl)<|Ok.eq (a:=.lst statics) (S1:=S0) (by kernel_rfl)<|Ok.eq (show k5 (.lst statics) S0=.ok (A3 statics,statics.length+1) S0 from rfl)<|Ok.bind ((Ok.for_ (n:=statics.length) (λi ρ S'=>Ft ms 0 900 S'/\∃ (o3 o4 o5 o6 o7 o8 o9 o10:Option D),ρ=[some (.scr (ns.map D.int)),some (.ref 0),o3,o4,o5,o6,o7,o8,o9,o10]) (λ_ _=>False) (λ_ _=>False) ?_ ?_ statics.length 0 _ _ (by omega) ⟨F0,_,_,_,_,_,_,_,_,rfl⟩).mono ?_)
 ·intro ρ S' _
  show some statics[statics.length]?=some none
  rw [List.getElem?_eq_none (Nat.le_refl _)]
 ·rintro i ρ S hi ⟨F,o3,o4,o5,o6,o7,o8,o9,o10,rfl⟩
  refine ⟨statics[i],_,by show some statics[i]?=_;rw [List.getElem?_eq_getElem hi],rfl,?_⟩
  have g:=a4a _ (List.getElem_mem hi)
  generalize statics[i]=d at g
  unfold a3z
  rw [a3j]
  refine Ok.first<|Ok.cg (a8c ..)<|nx_bind<|Ok.eq (show k5 (.tup [(.int 1),(.int 2),(.int 6)]) S=.ok (A3 ([1,2,6].map λ(m:Nat)=>D.int (m:Int)),[1,2,6].length+1) S from rfl)<|(a65 g (ms:=[1,2,6]) (by decide) (by decide) 1 S).mono ?_
  rintro _ S1 ⟨rfl,hx⟩
  exact Ok.eq (show b6 .NotEq (.lst []) (.lst []) S1=.ok (.bl false) S1 from T7 [] S1)<|Ok.eq (k8 _ S1)<|Ok.neg (by decide)<|Ok.ret ⟨F.keep (hx.at (J6 F)),_,_,_,_,_,_,_,_,rfl⟩
 rintro fl S1 hf
 cases fl with
 | rt d=>exact hf.elim
 | bk ρ=>exact hf.elim
 | ct ρ=>exact hf.elim
 | nx ρ=>
  rcases hf with ⟨F,o3,o4,o5,o6,o7,o8,o9,o10,rfl⟩ | hf
  ·refine Ok.nxt<|Ok.cg (c1q ..)<|Ok.eq (a00 (n:=4) (by omega) _)<|Ok.bind ((Ok.for_ (n:=4) (λi ρ S'=>Ft ms 0 (210 * (4-i)) S'/\∃ (o3 o4 o5 o6 o7 o8 o9 o10:Option D),ρ=[some (.scr (ns.map D.int)),some (.ref 0),o3,o4,o5,o6,o7,o8,o9,o10]) (λ_ _=>False) (λ_ _=>False) (λρ S' _=>R7 4 S') ?_ 4 0 _ _ (by omega) ⟨F.less (by omega),_,_,_,_,_,_,_,_,rfl⟩).mono ?_)
   ·rintro i ρ S hi ⟨F,o3,o4,o5,o6,o7,o8,o9,o10,rfl⟩
    refine ⟨.int (i:Int),_,a1l hi S,rfl,?_⟩
    unfold a3c
    rw [a30]
    generalize hN:210 * (4-(i+1))=N
    refine Ok.first<|Ok.cg (a7j ..)<|Ok.bind ((b3y (N:=N+201) (F.less (by omega)) 6).mono ?_)
    rintro _ S1 ⟨m,t,rfl,m0,m6,t0,t4,F1⟩
    refine Ok.eq (a:=.nx [some (.scr (ns.map D.int)),some (.ref 0),o3,o4,some (.int (m:Int)),some (.int (i:Int)),some (.int (t:Int)),o8,o9,o10]) (S1:=S1) rfl<|Ok.nxt<|Ok.cg (a7o ..)<|Ok.bind ((a8b (N:=N+136) F1 m0 m6 t0 t4 4).mono ?_)
    rintro _ S2 ⟨rs,rfl,r0,r4,rg,F2⟩
    unfold b6m
    have all0:∀ d∈rs.map d8,∃ r,d=d8 r/\RS m r:=λd hd=>by
     obtain ⟨r,hr,rfl⟩:=List.mem_map.mp hd
     exact ⟨r,rfl,rg r hr⟩
    have l0:0<(rs.map d8).length:=by rw [List.length_map];exact r0
    have l4:(rs.map d8).length<=4:=by rw [List.length_map];exact r4
    generalize rs.map d8=ds at all0 l0 l4
    have ml:R4 (.tup ds) (.int 5) S2=.ok (.tup (List.replicate 5 ds).flatten) S2:=by
     show (if (ds≠[]/\1<=(5:Int)/\(5:Int)<2 ^ 63)/\ds.length * (5:Int).toNat<=sizeLine then ret (D.tup (List.replicate (5:Int).toNat ds).flatten) else bad) S2=_
     rw [if_pos ⟨⟨List.length_pos_iff.mp l0,by decide,by decide⟩,by rw [sizeLine_eq];show ds.length * 5<=_;omega⟩];rfl
    refine Ok.nxt<|Ok.cg (a8t ..)<|Ok.eq ml<|Ok.eq (a:=.int (-1)) (S1:=S2) rfl<|Ok.eq (show a2k (.tup ds) (.int (-1)) S2=.ok (.tup ds.reverse) S2 from rfl)<|Ok.eq (a:=.lst ds) (S1:=S2) rfl<|Ok.eq (lrg m6 S2)<|Ok.bind ((a3m (N:=N+120) F2 (by rw [a08];exact m6) (by rw [a08];exact m0) 5).mono ?_)
    rintro _ S3 ⟨z,r,rfl,R,z0,z6,F3,t3⟩
    have Rr:RS m r:=⟨by have:=R.fl;omega,by have:=R.le;omega,R.mem⟩
    refine Ok.eq (cat_tup (by rw [sizeLine_eq];show _+1<=_;omega)) ?_
    have g1:GT (.tup ds):=Z8 (Z9 m6 all0 l4).1 (by omega) (by omega) (a1n all0)
    have a5:∀ d∈(List.replicate 5 ds).flatten,∃ r,d=d8 r/\RS m r:=λd hd=>by
     obtain ⟨l,hl,h⟩:=List.mem_flatten.mp hd
     rw [(List.mem_replicate.mp hl).2] at h
     exact all0 d h
    have l5:(List.replicate 5 ds).flatten.length<=20:=by
     show (ds++(ds++(ds++(ds++(ds++[]))))).length<=20
     simp only [List.length_append,List.length_nil]
     omega
    have g2:GT (.tup (List.replicate 5 ds).flatten):=Z8 (Z9 m6 a5 l5).1 (by omega) (by omega) (a1n a5)
    have ar:∀ d∈ds.reverse,∃ r,d=d8 r/\RS m r:=λd hd=>all0 d (List.mem_reverse.mp hd)
    have g3:GT (.tup ds.reverse):=Z8 (Z9 m6 ar (t:=4) (by rw [List.length_reverse];exact l4)).1 (by omega) (by omega) (a1n ar)
    have g4:GT (.lst ds):=Z8 (Z9 m6 all0 l4).2 (by omega) (by omega) (λp hp=>by cases hp)
    have aa:∀ d∈ds++[d8 r],∃ r,d=d8 r/\RS m r:=λd hd=>by
     rcases List.mem_append.mp hd with w | w
     ·exact all0 d w
     ·exact ⟨r,List.mem_singleton.mp w,Rr⟩
    have g5:GT (.tup (ds++[d8 r])):=Z8 (Z9 m6 aa (t:=5) (by rw [List.length_append];show _+1<=_;omega)).1 (by omega) (by omega) (a1n aa)
    have sm0:=(Z9 m6 all0 l4).1
    have wd0:=c1g all0 (by omega)
    have nw:w9 [D.tup ds,.tup (List.replicate 5 ds).flatten,.tup ds.reverse,.lst ds,.tup (ds++[d8 r])] S3=.ok (.ref S3.length) (S3++[.lst [D.tup ds,.tup (List.replicate 5 ds).flatten,.tup ds.reverse,.lst ds,.tup (ds++[d8 r])]]):=rfl
    generalize hT:[D.tup ds,.tup (List.replicate 5 ds).flatten,.tup ds.reverse,.lst ds,.tup (ds++[d8 r])]=T0 at nw ⊢
    have gT:∀ d∈T0,GT d:=by
     rw [<- hT]
     intro d hd
     simp only [List.mem_cons,List.not_mem_nil,or_false] at hd
     rcases hd with rfl | rfl | rfl | rfl | rfl
     ·exact g1
     ·exact g2
     ·exact g3
     ·exact g4
     ·exact g5
    have lT:T0.length=5:=by rw [<- hT];rfl
    refine Ok.eq nw ?_
    have hp3:=J6 F3
    have F4:Ft ms 0 (N+120) (S3++[.lst T0]):=F3.keep (by rw [List.getElem?_append_left hp3])
    have e4:(S3++[O.lst T0])[S3.length]?=some (.lst T0):=by simp
    generalize hS4:S3++[O.lst T0]=S4 at F4 e4
    generalize hq:S3.length=q at e4 hp3
    let P1:D->Prop:=λd=>GT d/\Pln 2 d/\dp d<=5/\sz d<=19000/\wd d<=8
    refine Ok.nxt<|Ok.cg (a78 ..)<|Ok.eq (a00 (n:=4) (by omega) _)<|Ok.bind ((Ok.for_ (n:=4) (λj ρ S'=>Ft ms 0 (N+24+24 * (4-j)) S'/\(∃ es:List D,S'[q]?=some (.lst (T0++es))/\es.length=j/\∀ d∈es,P1 d)/\∃ (o4 o10:Option D),ρ=[some (.scr (ns.map D.int)),some (.ref 0),o3,o4,some (.int (m:Int)),some (.int (i:Int)),some (.int (t:Int)),some (.tup ds),some (.ref q),o10]) (λ_ _=>False) (λ_ _=>False) (λρ S' _=>R7 4 S') ?_ 4 0 _ _ (by omega) ⟨F4.less (by omega),⟨[],by rw [List.append_nil];exact e4,rfl,by simp⟩,_,_,rfl⟩).mono ?_)
    ·rintro j ρ S5 hj ⟨F5,⟨es,e5,le,pe⟩,o4,o10,rfl⟩
     have lq:=(List.getElem?_eq_some_iff.mp e5).1
     refine ⟨.int (j:Int),_,a1l hj S5,rfl,?_⟩
     unfold M1
     rw [R3]
     refine Ok.first<|Ok.cg (Y0 ..)<|Ok.eq (Q2 e5)<|Ok.bind ((a1d 5 (.tup ds) 0 (N+24+24 * (4-(j+1))) S5 sm0.pl (by have:=sm0.dp;omega) sm0.dp (by omega) (by have:=sm0.sz;omega) (F5.less (by omega))).mono ?_)
     rintro d' S6 ⟨B,F6,K6⟩
     have b1:=B.dp
     have b2:=B.sz
     have b3:=B.wd
     have c1:=sm0.dp
     have c2:=sm0.sz
     have e6:S6[q]?=some (.lst (T0++es)):=by rw [K6.2 q (by omega)];exact e5
     have l6:=(List.getElem?_eq_some_iff.mp e6).1
     refine Ok.eq (a2j e6 (by rw [List.length_append];exact C4 (by omega)))<|Ok.ret ⟨F6.keep (by rw [List.getElem?_set_ne (by omega)]),⟨es++[d'],by rw [List.getElem?_set_self l6,List.append_assoc],by rw [List.length_append,le];rfl,λd hd=>?_⟩,_,_,rfl⟩
     rcases List.mem_append.mp hd with w | w
     ·exact pe d w
     ·rw [List.mem_singleton.mp w]
      exact ⟨⟨⟨2,by omega,B.pl,by omega,by omega⟩,a4b (by omega)⟩,B.pl,by omega,by omega,by omega⟩
    rintro fl S5 hf
    cases fl with
    | rt d=>exact hf.elim
    | bk ρ=>exact hf.elim
    | ct ρ=>exact hf.elim
    | nx ρ=>
     rcases hf with ⟨F5,⟨es,e5,le,pe⟩,o4,o10,rfl⟩ | hf
     ·obtain ⟨d0,hd0,ed0⟩:∃ d0,(T0++es).getLast?=some d0/\d0∈es:=by
       have ne:es≠[]:=List.length_pos_iff.mp (by omega)
       refine ⟨es.getLast ne,?_,List.getLast_mem ne⟩
       have h:=List.dropLast_concat_getLast ne
       generalize es.getLast ne=x at h ⊢
       rw [<- h,<- List.append_assoc];simp
      obtain ⟨_,p1,p2,p3,p4⟩:=pe d0 ed0
      refine Ok.nxt<|Ok.cg (a7t ..)<|Ok.eq (Q2 e5)<|Ok.eq (a:=.int (-1)) (S1:=S5) rfl<|Ok.eq (b0e e5 hd0)<|Ok.bind ((a1d 5 d0 2 N S5 p1 p2 (by omega) (by omega) (by omega) (F5.less (by omega))).mono ?_)
      rintro d' S6 ⟨B,F6,K6⟩
      have b1:=B.dp
      have b2:=B.sz
      have b3:=B.wd
      have e6:S6[q]?=some (.lst (T0++es)):=by rw [K6.2 q (by omega)];exact e5
      have l6:=(List.getElem?_eq_some_iff.mp e6).1
      refine Ok.eq (a2j e6 (by rw [List.length_append];exact C4 (by omega))) ?_
      have F7:Ft ms 0 N (S6.set q (.lst (T0++es++[d']))):=F6.keep (by rw [List.getElem?_set_ne (by omega)])
      have e7:(S6.set q (.lst (T0++es++[d'])))[q]?=some (.lst (T0++es++[d'])):=by rw [List.getElem?_set_self l6]
      have gA:∀ d∈T0++es++[d'],GT d:=λd hd=>by
       rcases List.mem_append.mp hd with w | w
       ·rcases List.mem_append.mp w with w | w
        ·exact gT d w
        ·exact (pe d w).1
       ·rw [List.mem_singleton.mp w]
        exact ⟨⟨4,by omega,B.pl,by omega,by omega⟩,a4b (by omega)⟩
      generalize T0++es++[d']=A at F7 e7 gA
      generalize S6.set q (.lst A)=S7 at F7 e7
      refine Ok.nxt<|Ok.cg (a8g ..)<|Ok.eq (show k5 (.ref q) S7=.ok (a1b q,A.length+1) S7 by simp only [k5,e7])<|Ok.bind ((Ok.for_ (n:=A.length) (λj ρ S'=>Ft ms 0 N S'/\S'[q]?=some (.lst A)/\∃ (o4 o10:Option D),ρ=[some (.scr (ns.map D.int)),some (.ref 0),o3,o4,some (.int (m:Int)),some (.int (i:Int)),some (.int (t:Int)),some (.tup ds),some (.ref q),o10]) (λ_ _=>False) (λ_ _=>False) ?_ ?_ A.length 0 _ _ (by omega) ⟨F7,e7,_,_,rfl⟩).mono ?_)
      ·rintro ρ S' ⟨_,e8,_⟩
       show a1b q A.length S'=_
       rw [b05 e8,List.getElem?_eq_none (Nat.le_refl _)]
      ·rintro j ρ S8 hj ⟨F8,e8,o4,o10,rfl⟩
       refine ⟨A[j],_,by show a1b q j S8=_;rw [b05 e8,List.getElem?_eq_getElem hj],rfl,?_⟩
       have g:=gA _ (List.getElem_mem hj)
       generalize A[j]=d at g
       unfold M6
       rw [Q9]
       have mx:b1z [.int 1,.int ((m:Int)-1)] S8=.ok (.int ((max 1 (m-1):Nat):Int)) S8:=by
        show L3.R.ok (D.int (if (m:Int)-1 > 1 then (m:Int)-1 else 1)) S8=_
        have:(if (m:Int)-1 > 1 then (m:Int)-1 else 1)=((max 1 (m-1):Nat):Int):=by split <;> omega
        rw [this]
       refine Ok.first<|Ok.cg (Y4 ..)<|nx_bind<|Ok.eq (b60 m S8)<|Ok.eq mx<|Ok.eq (show k5 (.tup [.int (m:Int),.int ((max 1 (m-1):Nat):Int),(.int 6)]) S8=.ok (A3 ([m,max 1 (m-1),6].map λ(m:Nat)=>D.int (m:Int)),[m,max 1 (m-1),6].length+1) S8 from rfl)<|(a65 g (ms:=[m,max 1 (m-1),6]) (λx hx=>by
        simp only [List.mem_cons,List.not_mem_nil,or_false] at hx
        rcases hx with rfl | rfl | rfl <;> omega) (by show 3<=10;omega) 1 S8).mono ?_
       rintro _ S9 ⟨rfl,hx⟩
       exact Ok.eq (show b6 .NotEq (.lst []) (.lst []) S9=.ok (.bl false) S9 from T7 [] S9)<|Ok.eq (k8 _ S9)<|Ok.neg (by decide)<|Ok.ret ⟨F8.keep (hx.at (J6 F8)),by rw [hx.at (List.getElem?_eq_some_iff.mp e8).1];exact e8,_,_,rfl⟩
      ·rintro fl S8 hf
       cases fl with
       | rt d=>exact hf.elim
       | bk ρ=>exact hf.elim
       | ct ρ=>exact hf.elim
       | nx ρ=>
        rcases hf with ⟨F8,e8,o4,o10,rfl⟩ | hf
        ·exact Ok.ret ⟨F8,_,_,_,_,_,_,_,_,rfl⟩
        ·exact hf.elim
     ·exact hf.elim
   rintro fl S2 hf
   cases fl with
   | rt d=>exact hf.elim
   | bk ρ=>exact hf.elim
   | ct ρ=>exact hf.elim
   | nx ρ=>
    rcases hf with ⟨F,o3,o4,o5,o6,o7,o8,o9,o10,rfl⟩ | hf
    ·exact Ok.nxt<|Ok.cg (c2t ..)<|Ok.ret rfl
    ·exact hf.elim
  ·exact hf.elim
end L3.K40
section
namespace L3.K40
open PySem PySem.Spec PyProof.Rows L2 Hn
theorem all_mk {l:PySem.W.OpenLaw} {w:World} {K:PySem.W.Frag} {h:Heap} {mg:Str->Option Value} {fa g0 g1 g2 g3 g4 g5 g6 g7 g8 g9 g10 g11 g12 g13 g14 g15 g16 g17 g18 g19 g20 g21:Addr} (X:K.In h) (G:h.Ns mainGlobals mg) (hfa:mg "law" = some (.ref fa))
  {tC0:Tok}
  (rjk:a27 K g21=false)
  (rbl:(bnames.all λx=>(Γ.gl.lookup x).isSome||isNo (PySem.W.nsIn K mainGlobals x))=true)
  (dg0:GF K "is_whole" (top 1) g0)
  (dg1:GF K "is_within" (top 2) g1)
  (dg2:GF K "are_rising_hands" (top 3) g2)
  (dg3:GF K "are_rounds" (top 6) g3)
  (dg4:GF K "is_round" (top 7) g4)
  (dg5:GF K "is_block" (top 8) g5)
  (dg6:GF K "hands_of_round" (top 9) g6)
  (dg7:GF K "_law_tape" (top 11) g7)
  (dg8:GF K "_law_draw" (top 12) g8)
  (dg9:GF K "_law_shuffled" (top 13) g9)
  (dg10:GF K "_law_hands" (top 14) g10)
  (dg11:GF K "_law_round" (top 15) g11)
  (dg12:GF K "_law_rounds" (top 16) g12)
  (dg13:GF K "_law_size" (top 17) g13)
  (dg14:GF K "_law_whole" (top 18) g14)
  (dg15:GF K "_law_rises" (top 19) g15)
  (dg16:GF K "_law_is_round" (top 20) g16)
  (dg17:GF K "_law_are_rounds" (top 21) g17)
  (dg18:GF K "_law_odd" (top 22) g18)
  (dg19:GF K "_law_bent" (top 23) g19)
  (dg20:GF K "_law_right" (top 24) g20)
  (dg21:GF K "law" (top 25) g21)
  (aC0:PySem.W.nsIn K mainGlobals "MOST_ROUNDS" = some (some (.int 4 tC0))) :
  ∃ fd:FuncData,(∀ (s:Shared) (v:Value),BindsTo s fd ⟨[v],[]⟩ [("_law_script",v)])/\∀ base:Heap,K.In base->base.Ns mainGlobals mg->FnOk l.prog w K mg base CX0 12 fa fd ["_law_script"] (a1w K):=by
 have e:=hfa.symm.trans (PySem.W.mg_of X G dg21.a)
 cases e
 have RB:RowB K Γ [] fa:=⟨rfl,rjk,rfl,rfl,rfl,rfl,rbl⟩
 obtain ⟨_,⟨oc,od,kV,dc,pm,an,cd,ct,sl,rfl,lk,hc⟩,kp⟩:=dg21.f
 have FL:=b2f lk hc kp
 refine ⟨PySem.W.fnOf "law" "law" (w8 (top 25)) (k7 (top 25)) (b8 (top 25)) .none kV dc pm an cd ct,λs v=>.of_eq rfl,λbase KB GB=>?_⟩
 let T:Tx:=⟨l.prog,w,K,mg,base,a03 [] fa⟩
 have st:TxSt T Γ:=by
  refine RB.st (T:=T) X G rfl (λx d e=>?_) (λx c fs e=>?_) (λx kvs e=>?_)
  ·have m:=L2.mem_of_lookup e
   simp only [Γ,List.mem_cons,List.not_mem_nil,or_false,Prod.mk.injEq,L3.G.val.injEq,reduceCtorEq,and_false,false_or] at m
   rcases m with ⟨rfl,rfl⟩
   ·exact ⟨_,.int 4,PySem.W.mg_of X G aC0,⟨_,rfl⟩,λμ H=>.int _⟩
  ·have m:=L2.mem_of_lookup e
   simp [Γ] at m
  ·have m:=L2.mem_of_lookup e
   simp [Γ] at m
 have fs:b1l T Γ Tb:=by
  refine c0u ?_
  refine And.intro (fe X G (T:=T) dg0 (by decide +kernel) (λ_ _ _ _ _ _ us hl=>match us,hl with | [_],_=>rfl) rfl rfl) ?_
  refine And.intro (fe X G (T:=T) dg1 (by decide +kernel) (λ_ _ _ _ _ _ us hl=>match us,hl with | [_,_,_],_=>rfl) rfl rfl) ?_
  refine And.intro (fe X G (T:=T) dg2 (by decide +kernel) (λ_ _ _ _ _ _ us hl=>match us,hl with | [_,_],_=>rfl) rfl rfl) ?_
  refine And.intro (fe X G (T:=T) dg3 (m:=["cell"]) (by decide +kernel) (λ_ _ _ _ _ _ us hl=>match us,hl with | [_,_],_=>rfl) rfl rfl) ?_
  refine And.intro (fe X G (T:=T) dg4 (by decide +kernel) (λ_ _ _ _ _ _ us hl=>match us,hl with | [_,_],_=>rfl) rfl rfl) ?_
  refine And.intro (fe X G (T:=T) dg5 (by decide +kernel) (λ_ _ _ _ _ _ us hl=>match us,hl with | [_,_],_=>rfl) rfl rfl) ?_
  refine And.intro (fe X G (T:=T) dg6 (by decide +kernel) (λ_ _ _ _ _ _ us hl=>match us,hl with | [_],_=>rfl) rfl rfl) ?_
  refine And.intro (fe X G (T:=T) dg7 (m:=["return"]) (by decide +kernel) (λ_ _ _ _ _ _ us hl=>match us,hl with | [_],_=>rfl) rfl rfl) ?_
  refine And.intro (fe X G (T:=T) dg8 (by decide +kernel) (λ_ _ _ _ _ _ us hl=>match us,hl with | [_,_],_=>rfl) rfl rfl) ?_
  refine And.intro (fe X G (T:=T) dg9 (m:=["_law_left"]) (by decide +kernel) (λ_ _ _ _ _ _ us hl=>match us,hl with | [_,_],_=>rfl) rfl rfl) ?_
  refine And.intro (fe X G (T:=T) dg10 (m:=["_law_found"]) (by decide +kernel) (λ_ _ _ _ _ _ us hl=>match us,hl with | [_],_=>rfl) rfl rfl) ?_
  refine And.intro (fe X G (T:=T) dg11 (m:=["_law_groups","[]"]) (by decide +kernel) (λ_ _ _ _ _ _ us hl=>match us,hl with | [_,_],_=>rfl) rfl rfl) ?_
  refine And.intro (fe X G (T:=T) dg12 (m:=["_law_found"]) (by decide +kernel) (λ_ _ _ _ _ _ us hl=>match us,hl with | [_,_,_],_=>rfl) rfl rfl) ?_
  refine And.intro (fe X G (T:=T) dg13 (by decide +kernel) (λ_ _ _ _ _ _ us hl=>match us,hl with | [_],_=>rfl) rfl rfl) ?_
  refine And.intro (fe X G (T:=T) dg14 (by decide +kernel) (λ_ _ _ _ _ _ us hl=>match us,hl with | [_,_,_],_=>rfl) rfl rfl) ?_
  refine And.intro (fe X G (T:=T) dg15 (by decide +kernel) (λ_ _ _ _ _ _ us hl=>match us,hl with | [_],_=>rfl) rfl rfl) ?_
  refine And.intro (fe X G (T:=T) dg16 (m:=["_law_met"]) (by decide +kernel) (λ_ _ _ _ _ _ us hl=>match us,hl with | [_,_],_=>rfl) rfl rfl) ?_
  refine And.intro (fe X G (T:=T) dg17 (by decide +kernel) (λ_ _ _ _ _ _ us hl=>match us,hl with | [_,_],_=>rfl) rfl rfl) ?_
  refine And.intro (fe X G (T:=T) dg18 (by decide +kernel) (λ_ _ _ _ _ _ us hl=>match us,hl with | [_],_=>rfl) rfl rfl) ?_
  refine And.intro (fe X G (T:=T) dg19 (m:=["b+"]) (by decide +kernel) (λ_ _ _ _ _ _ us hl=>match us,hl with | [_,_],_=>rfl) rfl rfl) ?_
  refine And.intro (fe X G (T:=T) dg20 (by decide +kernel) (λ_ _ _ _ _ _ us hl=>match us,hl with | [_,_],_=>rfl) rfl rfl) ?_
  refine And.intro (fe X G (T:=T) dg21 (m:=["_law_things"]) (by decide +kernel) (λ_ _ _ _ _ _ us hl=>match us,hl with | [_],_=>rfl) rfl rfl) ?_
  trivial
 have ok:=b47 (Rs:=Rs) (T:=T) (k:=8) (i:=21) (fd:=u6 (top 25) ["_law_things"]) (b34 st fs 8) rfl FL rfl rfl (W2 (by decide +kernel))
 exact FnOk.imp ok (a71 b80)
theorem walk {l:PySem.W.OpenLaw} {q:Program} {loose:List Str} {XP:(Str->Option Value)->Heap->Prop} {YP:World->Heap->Prop} {d:DefRec} {K:Params->PySem.W.Frag} (hn:l.most=some 63) (hdf:d.params.defaults=[])
  (hY:∀ (w:World) (h:Heap),YP w h->(K w.params).In h)
  (F:∀ (w:World) (mg:Str->Option Value) (fa:Addr) (h:Heap),(K w.params).In h->h.Ns mainGlobals mg->mg d.name=some (.ref fa) ->
   ∃ fd:FuncData,(∀ (s:Shared) (u:Value),BindsTo s fd ⟨[u],[]⟩ [("_law_script",u)])/\∀ base:Heap,(K w.params).In base->base.Ns mainGlobals mg->FnOk l.prog w (K w.params) mg base CX0 12 fa fd ["_law_script"] (a1w (K w.params))) :
  PySem.W.WalkO q loose XP YP l.row.toRowW d [] (λf vs=>PySem.call f vs):=
 L2.walk_of (n:=63) (k:=12) (x:="_law_script") (CX:=λ_=>CX0) (sp:=λw=>a1w (K w.params)) hn (by decide) hdf ⟨λ_=>rfl,by decide,by decide,rfl⟩ hY F (λ_ _ a ns hl _ hS=>⟨a,ns,rfl,hS,λ_=>rfl⟩) λ_ _ _ _ _ z=>z
end L3.K40
open PySem PySem.W PyProof.Rows
set_option maxRecDepth 100000 in
set_option maxHeartbeats 0 in
theorem PySem.Challenge.cw_handnames_k40_rounds_of_any_thing_holds : PySem.Challenge.rw_handnames_k40_rounds_of_any_thing.Holds := by
 w_on;o_law;k_head;(case hw=>w_witness2)
 k_fill
 refine L3.K40.walk (l:=PySem.Challenge.rw_handnames_k40_rounds_of_any_thing) rfl rfl (λw h Y=>PySem.W.kIn_of Y) ?F
 case F=>
  intro w mg fa h KX G hmg
  refine' L3.K40.all_mk KX G hmg ?_ ?_ ?_ ?_ ?_ ?_ ?_ ?_ ?_ ?_ ?_ ?_ ?_ ?_ ?_ ?_ ?_ ?_ ?_ ?_ ?_ ?_ ?_ ?_ ?_
  rotate_left 23
  iterate 2 kernel_rfl
  iterate 22 (refine' L3.gf_mk ?a ?l ?c ?k;(case a=>k_is);(case l=>k_is);(case c=>k_is);(case k=>k_is))
  (k_is)
end
