import PyProof.Rows.All
import Wide.All
import OpenK.AllK
import Wide.FinOn
import Lean
import PyProof.EqAt
import PyProof.EqKinds
import PyProof.TupleCall
import PyProof.CompUse
import PyProof.P3Eq
import PyProof.NeData
import PyProof.P3In
import PyProof.EnumMake
import PyProof.Draws
import PyProof.ConsumeWalk
import PyProof.Rows.SetFrom
import PyProof.SetRoads
import PyProof.Rows.SortWalk
import PyProof.ListRange
import PyProof.WalksMore
import PySem.Challenge.RW_handnames_k12_stands_of_nets_judged
set_option Elab.async false
set_option linter.all false
set_option maxRecDepth 100000
set_option maxHeartbeats 4000000
namespace PySem.W.Fast
def tw2980742582731675701:=0
def tw11423237584731067324:=0
def tw3599051790034178747:=0
def tw3139043501306554945:=0
def tw17470539954847718752:=0
def tw13169914973650412959:=0
def tw636811365710540436:=0
def tw10310772450087509813:=0
def tw16035913146379756127:=0
def tw13994313510982938551:=0
def tw14456283441068237838:=0
def tw17231379501548026794:=0
def tw6413930220931163168:=0
def tw3050161231252990852:=0
def tw8321123203017329489:=0
def tw11053715554695687357:=0
def tw16134582462683909716:=0
def tw12536812325217373365:=0
def tw3667022460378823254:=0
def tw5339043036513627963:=0
def tw13600594207117451604:=0
def tw15061561840974381149:=0
def tw10399308027285141788:=0
def tw10592603481284374393:=0
def tw8402489393848323322:=0
def tw14324455018442496640:=0
def tw4916587655688100082:=0
def tw11781786745234476349:=0
def tw3767642752040456915:=0
def tw10871190844823628810:=0
def tw13635595256266275586:=0
def tw5074578998306668286:=0
def tw712026962104346984:=0
def tw10558663055045064754:=0
def tw5612222700100769822:=0
def tw11176803752010502252:=0
def tw17517229798560291158:=0
def tw6202335049550918043:=0
def tw16477146768089711262:=0
def tw12821324178813008351:=0
def tw15219596199596569245:=0
def tw15099777917467627766:=0
def tw14248874719054896856:=0
def tw2230689578705900440:=0
def tw16593139802274644890:=0
def tw12641614131092731038:=0
def tw2740701155024462250:=0
def tw17731089987097775496:=0
def tw11960364176327987525:=0
def tw8604956529437417399:=0
def tw6508425110455167331:=0
def tw747458576432407582:=0
def tw4548213478174439171:=0
def tw17651821186755016240:=0
def tw9060343839561222263:=0
def tw1566766990079841046:=0
def tw12842305987128069309:=0
def tw12706634793635057309:=0
def tw2676435606129960487:=0
def tw16072507824525879201:=0
def tw814875185304934510:=0
def tw6001076544437288231:=0
def tw9138716189964349068:=0
def tw11690898519359451331:=0
def tw1160444247043894233:=0
def tw17588691832778225915:=0
def tw17537463027994348440:=0
def tw965300504521706740:=0
def tw12756480046613009100:=0
def tw17142775454735896402:=0
def tw11911561064887888017:=0
def tw4953626594253224657:=0
def tw13621601578590399549:=0
def tw13857588929516544300:=0
def tw13615823822505529975:=0
def tw17822837548541518489:=0
def tw15917073819653029411:=0
def tw13683784941672934963:=0
def tw17034769522400541896:=0
def tw11369262240888097454:=0
def tw2469263139630618048:=0
def tw13004544184412293934:=0
def tw14853808501916170237:=0
def tw12809545046378443740:=0
def tw3163953810428892241:=0
def tw18021666081488018480:=0
def tw16578701496878381266:=0
def tw449183774295879070:=0
def tw9230901021747326217:=0
def tw11886684433938098395:=0
def tw16542518237124400876:=0
def tw8677015926076342041:=0
def tw17904892398170939144:=0
def tw5985747485318619960:=0
def tw9380545552071374160:=0
def tw14959083454759795614:=0
def tw1304767001104061271:=0
def tw2217911969438737317:=0
def tw18045994042588198456:=0
def tw15292559028534045161:=0
def tw112764481893842513:=0
def tw8674461070077061171:=0
def tw13093989960362416662:=0
def tw4888112451350519373:=0
def tw11868863264935238128:=0
def tw1990707245024123410:=0
def tw8689138102027979089:=0
def tw708365108468199831:=0
def tw16120369119759481551:=0
def tw15328091732460904413:=0
def tw12148755147967056017:=0
def tw5442420572705457718:=0
def tw10976019286164229697:=0
def tw15982186786786317234:=0
def tw2020729827500203308:=0
def tw5202736634370868733:=0
def tw8448868824788575927:=0
def tw2545538688958005816:=0
def tw5092920766896968752:=0
def tw10286970534033248945:=0
def tw9234865728150310109:=0
def tw8977109551557077334:=0
def tw17634278482804063971:=0
def tw6634268906201458337:=0
def tw4350346728470980757:=0
def tw10799690068509051848:=0
def tw7941825488545704936:=0
def tw4521793261564828692:=0
def tw17661091909313732941:=0
def tw16065653441911613342:=0
def tw12583855358118051072:=0
def tw3124476948819883597:=0
def tw13635452125214903473:=0
def tw14085813078737114924:=0
def tw16814724916172538406:=0
def tw9208073806192860394:=0
def tw13961240903129478391:=0
def tw2765404552493472434:=0
def tw4069693277677562130:=0
def tw569866754003258088:=0
def tw3699423518360954150:=0
def tw4071736541394825005:=0
def tw5791628810550611666:=0
def tw7448698522866823405:=0
def tw6122196787841384448:=0
def tw12350210645729388446:=0
def tw479271460523293130:=0
def tw2481463775484089207:=0
def tw14959163099515894463:=0
def tw16408173021337933822:=0
def tw15035730619925176617:=0
def tw17044418415815210137:=0
def tw17534078545785965632:=0
def tw4363091305572076360:=0
def tw11175977854413663471:=0
def tw12600524935320530495:=0
def tw172578668486336110:=0
def tw748972461558025788:=0
def tw8109292490710184264:=0
def tw12676694630078314102:=0
def tw1816076029871680424:=0
def tw4506096961902079857:=0
def tw12010990630719285515:=0
def tw9959348305774506404:=0
def tw6344186141255427121:=0
def tw9647568838780379859:=0
def tw12766153565673715529:=0
def tw513547635288200506:=0
def tw15630015608572004446:=0
def tw9739536064252844431:=0
def tw16608039396289314893:=0
def tw7110200524768546411:=0
def tw12104716801264913200:=0
def tw11948215281485077745:=0
def tw11906597633995606507:=0
def tw5281339402294901850:=0
def tw5858148201787884279:=0
def tw8986513543156391303:=0
def tw2880357373454460625:=0
def tw18360938733472544947:=0
def tw14529156855986582879:=0
def tw17593773851035839132:=0
def tw13112049940765352817:=0
def tw9304549505538124271:=0
def tw9702657299053332664:=0
def tw12668102017053974009:=0
def tw15394192157802480914:=0
def tw5850939019412071399:=0
def tw15410453749653203049:=0
def tw11588479967167415776:=0
def tw2751439732361778636:=0
def tw14137332773017396220:=0
def tw11329955672623948506:=0
def tw11939716758113749173:=0
def tw11551798239239366485:=0
def tw18324074702883885338:=0
def tw15775307109142755208:=0
def tw13709045171603854862:=0
def tw14397122950273566857:=0
def tw5760585315893048067:=0
def tw12953960121128721406:=0
def tw1035351797978037647:=0
def tw3224898631969575450:=0
def tw17972532542646538758:=0
def tw7471162209189396305:=0
def tw2649192063592834490:=0
def tw15805428711507172139:=0
def tw13353760837899516401:=0
def tw6345891598419279933:=0
def tw729188792424312240:=0
def tw976684210663261507:=0
def tw3597698049581444978:=0
def tw4736601978938885496:=0
end PySem.W.Fast
namespace L2
open PySem PySem.Spec PyProof.Rows
noncomputable abbrev Key:=Sum Int Str
noncomputable def a24:Key->Value->Bool
 | .inl k,v=>Value.isInt k v
 | .inr x,v=>Value.isStrOf x v
noncomputable def d3f (w:World):Key->Int
 | .inl k=>hashInt k
 | .inr x=>hashStr w x
theorem k4:∀ {k:Key} {v:Value},a24 k v=true->(∃ i t,k=Sum.inl i/\v=Value.int i t)\/(∃ x t,k=Sum.inr x/\v=Value.str x t)
 | .inl i,v,h=>by
  obtain ⟨t,e⟩:=Value.isInt_shape (k:=i) (v:=v) h
  exact .inl ⟨i,t,rfl,e⟩
 | .inr x,v,h=>by
  obtain ⟨t,e⟩:=Value.isStrOf_shape (x:=x) (v:=v) h
  exact .inr ⟨x,t,rfl,e⟩
theorem b08 (i:Int) (t:Tok):a24 (.inl i) (.int i t)=true:=by simp [a24,Value.isInt]
theorem b0e (x:Str) (t:Tok):a24 (.inr x) (.str x t)=true:=by simp [a24,Value.isStrOf]
theorem c33 (a b:Int):decide ((Sum.inl a:Key)=Sum.inl b)=(a==b):=by
 by_cases e:a=b
 ·subst e;simp
 ·have h:¬ (Sum.inl a:Key)=Sum.inl b:=λq=>e (Sum.inl.inj q)
  rw [decide_eq_false h]
  exact (beq_eq_false_iff_ne.mpr e).symm
theorem c25 (a b:Str):decide ((Sum.inr a:Key)=Sum.inr b)=decide (a=b):=by
 by_cases e:a=b
 ·subst e;simp
 ·have h:¬ (Sum.inr a:Key)=Sum.inr b:=λq=>e (Sum.inr.inj q)
  rw [decide_eq_false h,decide_eq_false e]
theorem c4i (a:Int) (b:Str):decide ((Sum.inl a:Key)=Sum.inr b)=false:=decide_eq_false (λq=>nomatch q)
theorem c4p (a:Str) (b:Int):decide ((Sum.inr a:Key)=Sum.inl b)=false:=decide_eq_false (λq=>nomatch q)
noncomputable def i5 (prog:Program) (w:World):PySem.KeyKind prog w Key where
 is:=a24
 hash:=d3f w
 inj:=λv a b ha hb=>by
  rcases k4 ha with ⟨i,t,rfl,rfl⟩ | ⟨x,t,rfl,rfl⟩
  ·rcases k4 hb with ⟨j,u,rfl,e⟩ | ⟨y,u,rfl,e⟩
   ·injection e with e1 _;rw [e1]
   ·exact nomatch e
  ·rcases k4 hb with ⟨j,u,rfl,e⟩ | ⟨y,u,rfl,e⟩
   ·exact nomatch e
   ·injection e with e1 _;rw [e1]
 byValue:=λk v h=>by
  rcases k4 h with ⟨i,t,rfl,rfl⟩ | ⟨x,t,rfl,rfl⟩ <;> rfl
 pyHash:=λhv h=>by
  rcases k4 hv with ⟨i,t,rfl,rfl⟩ | ⟨x,t,rfl,rfl⟩
  ·exact wpAny_pyHash_int h
  ·exact wpAny_pyHash_str h
 eqBool:=λhu hv h=>by
  rcases k4 hu with ⟨i,t,rfl,rfl⟩ | ⟨x,t,rfl,rfl⟩
  ·rcases k4 hv with ⟨j,u,rfl,rfl⟩ | ⟨y,u,rfl,rfl⟩
   ·rw [c33] at h;exact wpAny_eqBool_int h
   ·rw [c4i] at h;exact SeqAt.EqAt.int_str i t y u _ _ _ _ h
  ·rcases k4 hv with ⟨j,u,rfl,rfl⟩ | ⟨y,u,rfl,rfl⟩
   ·rw [c4p] at h;exact SeqAt.EqAt.str_int x t j u _ _ _ _ h
   ·rw [c25] at h;exact wpAny_eqBool_str h
 «strs»:=λk x t v h=>by
  rcases k4 h with ⟨i,u,rfl,e⟩ | ⟨y,u,rfl,e⟩
  ·exact nomatch e
  ·injection e with e1 _
   subst e1
   cases v <;> rfl
theorem a5z (prog:Program) (w:World) (i:Int) (t:Tok):(i5 prog w).is (.inl i) (.int i t)=true:=b08 i t
theorem a40 (prog:Program) (w:World) (x:Str) (t:Tok):(i5 prog w).is (.inr x) (.str x t)=true:=b0e x t
inductive V where
 | non | bl (b:Bool) | int (i:Int) | str (x:Str) | byt (b:Array UInt8) | flt (b:UInt64) | ref (a:Addr) | ty (n:String)
 deriving DecidableEq
def RelV:V->Value->Prop
 | .non,u=>u=Value.none
 | .bl b,u=>u=Value.bool b
 | .int i,u=>∃ t,u=Value.int i t
 | .str x,u=>∃ t,u=Value.str x t
 | .byt b,u=>∃ t,u=Value.bytes b t
 | .flt b,u=>∃ t,u=Value.float b t
 | .ref a,u=>u=Value.ref a
 | .ty n,u=>u=Value.type n
noncomputable abbrev Vals:List V->List Value->Prop:=Paired RelV
theorem Vals.length {xs:List V} {us:List Value} (r:Vals xs us):xs.length=us.length:=Paired.length r
theorem Vals.get:∀ {xs:List V} {us:List Value} {i:Nat} {x:V},Vals xs us->xs[i]?=some x->∃ u,us[i]?=some u/\RelV x u
 | _,_,_,_,.nil,e=>by simp at e
 | _,_,0,_,.cons r _,e=>by simp at e;subst e;exact ⟨_,rfl,r⟩
 | _,_,i+1,x,.cons _ t,e=>by
  obtain ⟨u,h1,h2⟩:=Vals.get (i:=i) (x:=x) t (by simpa using e)
  exact ⟨u,by simpa using h1,h2⟩
theorem Vals.set {x:V} {u:Value} (r:RelV x u):∀ {xs:List V} {us:List Value} (i:Nat),Vals xs us->Vals (xs.set i x) (us.set i u)
 | _,_,_,.nil=>.nil
 | _,_,0,.cons _ t=>.cons r t
 | _,_,i+1,.cons q t=>.cons q (Vals.set r i t)
theorem Vals.append:∀ {xs ys:List V} {us ws:List Value},Vals xs us->Vals ys ws->Vals (xs++ys) (us++ws)
 | _,_,_,_,.nil,s=>s
 | _,_,_,_,.cons r t,s=>.cons r (Vals.append t s)
theorem Vals.take:∀ {xs:List V} {us:List Value} (n:Nat),Vals xs us->Vals (xs.take n) (us.take n)
 | _,_,0,_=>.nil
 | _,_,_+1,.nil=>.nil
 | _,_,n+1,.cons r t=>.cons r (Vals.take n t)
theorem Vals.drop:∀ {xs:List V} {us:List Value} (n:Nat),Vals xs us->Vals (xs.drop n) (us.drop n)
 | _,_,0,r=>r
 | _,_,_+1,.nil=>.nil
 | _,_,n+1,.cons _ t=>Vals.drop n t
def RelO:Option V->Option Value->Prop
 | some v,some u=>RelV v u
 | none,none=>True
 | _,_=>False
def KV {κ:Type}:List (κ×V)->List (κ×Value)->Prop:=Paired λ(p:κ×V) (q:κ×Value)=>p.1=q.1/\RelV p.2 q.2
noncomputable def kV:Key->V
 | .inl i=>.int i
 | .inr x=>.str x
inductive HO where
 | lst (xs:List V)
 | tup (xs:List V)
 | dK (kvs:List (Key×V)) | dT (kvs:List (List Key×V))
 | set (S:Int->Bool) (n:Nat)
 | ins (C dx:Addr) (fs:List (Str×V))
 | own (x:Addr)
 | xd (fs:List (Str×V))
 | met (f x:Addr)
 | rng (lo hi:Int)
 | frz (o:Obj) (u:HO)
 | tbl (ps:Array Value)
 | ext (φ:Heap->Prop)
noncomputable abbrev Hp:=Addr->Option HO
noncomputable def upd (H:Hp) (a:Addr) (o:HO):Hp:=λb=>if b=a then some o else H b
theorem c8 {H:Hp} {a:Addr} {o:HO}:upd H a o a=some o:=by unfold upd;rw [if_pos rfl]
theorem a9 {H:Hp} {a b:Addr} {o:HO} (h:b≠a):upd H a o b=H b:=by unfold upd;rw [if_neg h]
theorem b4h {H:Hp} {a b:Addr} {o u:HO} (h:H a=some o) (h':H b=some u) (d:o≠u):a≠b:=by
 intro e;subst e;rw [h] at h';exact d (Option.some.inj h')
theorem c9 {H:Hp} {a b:Addr} {o:HO} (h:H a=some o) (h':H b=none):a≠b:=by
 intro e;subst e;rw [h] at h';cases h'
def TupN (h:Heap) (a:Addr) (items:Array Value):Prop:=∃ o,h.get? a=some o/\o.cls=.type "tuple"/\∃ n,o.data=.seq items n/\o.dict=none
theorem TupN.is {h:Heap} {a:Addr} {items:Array Value} (x:TupN h a items):IsTup h a items:=let ⟨o,e,c,n,d,_⟩:=x;⟨o,e,c,n,d⟩
theorem TupN.new (h:Heap) (items:Array Value):TupN (h.push { cls:=.type "tuple",data:=.seq items }) h.objs.size items:=⟨_,Heap.get?_push_size _ rfl,rfl,_,rfl,rfl⟩
section
variable (P:Program) (w:World)
def ObjOk (H:Hp) (h:Heap) (a:Addr):HO->Prop
 | .lst xs=>xs.length<=sizeLine/\∃ (its:List Value) (n:Nat),Vals xs its/\h.get? a=some { cls:=.type "list",data:=.seq its.toArray n }
 | .tup xs=>xs.length<=sizeLine/\∃ its:List Value,Vals xs its/\TupN h a its.toArray
 | .dK kvs=>kvs.length<=sizeLine/\(a==sysModules)=false/\∃ vs,KV kvs vs/\h.DictOf (i5 P w) a vs
 | .dT kvs=>kvs.length<=sizeLine/\(a==sysModules)=false/\∃ xs:List (List Key×Addr×Value),
   Paired (λ(p:List Key×V) (q:List Key×Addr×Value)=>p.1=q.1/\H q.2.1=some (.tup (p.1.map kV))/\RelV p.2 q.2.2) kvs xs /\
   ∃ o es ep,h.get? a=some o/\o.ExactDict/\o.data=.dict es ep/\es.toList=xs.map (entryOfKey (tupleKind (i5 P w)))/\(xs.map (·.1)).Nodup
 | .set S n=>h.SetOf (intKind P w) a S n
 | .ins C dx fs=>H dx=some (.own a)/\fs.length<=1000/\dx≠a/\h.get? a=some (PySem.W.instObj C dx) /\
   ∃ mA,h.Ns1 dx mA/\(∀ f,RelO (fs.lookup f) (mA f))/\PySem.Within mA (fs.map (·.1))
 | .own _=>∃ o,h.get? a=some o
 | .xd fs=>∃ mA,h.Ns1 a mA/\∀ f,RelO (fs.lookup f) (mA f)
 | .rng lo hi=>∃ t u v,h.get? a=some { cls:=.type "range",data:=.fields #[.int lo t,.int hi u,.int 1 v] }
 | .frz o u=>h.get? a=some o/\ObjOk H h a u
 | .tbl ps=>h.get? a=some { cls:=.none,data:=.fields ps }
 | .met f x=>h.get? a=some (PySem.W.methodObj (.ref f) (.ref x))
 | .ext φ=>φ h/\(∃ o,h.get? a=some o)/\∀ h1 h2:Heap,φ h1->(∀ o,h1.get? a=some o->h2.get? a=some o)->φ h2
def HOk (H:Hp) (h:Heap):Prop:=∀ a o,H a=some o->ObjOk P w H h a o
end
section
variable {P:Program} {w:World} {H H':Hp} {h h':Heap} {a:Addr} {o:HO}
theorem ObjOk.lt (x:ObjOk P w H h a o):a<h.objs.size:=by
 cases o with
 | lst xs=>obtain ⟨_,_,_,_,e⟩:=x;exact Heap.lt_size e
 | tup xs=>obtain ⟨_,_,_,p⟩:=x;exact p.is.lt
 | dK kvs=>obtain ⟨_,_,_,_,o,_,_,e,_⟩:=x;exact Heap.lt_size e
 | dT kvs=>obtain ⟨_,_,_,_,o,_,_,e,_⟩:=x;exact Heap.lt_size e
 | set S n=>obtain ⟨o,_,_,_,e,_⟩:=x;exact Heap.lt_size e
 | ins C dx fs=>obtain ⟨_,_,_,e,_⟩:=x;exact Heap.lt_size e
 | own y=>obtain ⟨_,e⟩:=x;exact Heap.lt_size e
 | xd fs=>obtain ⟨_,⟨_,_,_,e,_⟩,_⟩:=x;exact Heap.lt_size e
 | rng lo hi=>obtain ⟨_,_,_,e⟩:=x;exact Heap.lt_size e
 | frz ob u=>obtain ⟨e,_⟩:=x;exact Heap.lt_size e
 | tbl ps=>exact Heap.lt_size (show h.get? a=some _ from x)
 | met f y=>exact Heap.lt_size (show h.get? a=some _ from x)
 | ext φ=>obtain ⟨_,⟨_,e⟩,_⟩:=x;exact Heap.lt_size e
theorem Paired.mapP {α β:Type} {F G:α->β->Prop}:∀ {l₁:List α} {l₂:List β},Paired F l₁ l₂->(∀ a b,F a b->G a b)->Paired G l₁ l₂
 | _,_,.nil,_=>.nil
 | _,_,.cons r t,f=>.cons (f _ _ r) (Paired.mapP t f)
theorem ObjOk.stay (x:ObjOk P w H h a o) (k:∀ b u,(b=a\/H b=some (.own a))->h.get? b=some u->h'.get? b=some u)
  (ho:∀ b,H b=some (.own a)->H' b=some (.own a)) (ht:∀ b xs,H b=some (.tup xs)->H' b=some (.tup xs)):ObjOk P w H' h' a o:=by
 induction o with
 | lst xs=>obtain ⟨z,its,n,r,e⟩:=x;exact ⟨z,its,n,r,k _ _ (.inl rfl) e⟩
 | tup xs=>obtain ⟨z,its,r,ob,e,c⟩:=x;exact ⟨z,its,r,ob,k _ _ (.inl rfl) e,c⟩
 | dK kvs=>obtain ⟨z,y,vs,r,ob,es,ep,e,c⟩:=x;exact ⟨z,y,vs,r,ob,es,ep,k _ _ (.inl rfl) e,c⟩
 | dT kvs=>
  obtain ⟨z,y,xs,r,ob,es,ep,e,c⟩:=x
  exact ⟨z,y,xs,Paired.mapP r λp q z=>⟨z.1,ht _ _ z.2.1,z.2.2⟩,ob,es,ep,k _ _ (.inl rfl) e,c⟩
 | set S n=>obtain ⟨ob,es,ep,t,e,c⟩:=x;exact ⟨ob,es,ep,t,k _ _ (.inl rfl) e,c⟩
 | ins C dx fs=>
  obtain ⟨d,z,ne,e,mA,⟨od,es,ep,e2,c⟩,r⟩:=x
  exact ⟨ho _ d,z,ne,k _ _ (.inl rfl) e,mA,⟨od,es,ep,k _ _ (.inr d) e2,c⟩,r⟩
 | own y=>obtain ⟨ob,e⟩:=x;exact ⟨ob,k _ _ (.inl rfl) e⟩
 | xd fs=>obtain ⟨mA,⟨od,es,ep,e,c⟩,r⟩:=x;exact ⟨mA,⟨od,es,ep,k _ _ (.inl rfl) e,c⟩,r⟩
 | rng lo hi=>obtain ⟨t,u,v,e⟩:=x;exact ⟨t,u,v,k _ _ (.inl rfl) e⟩
 | frz ob u ih=>obtain ⟨e,q⟩:=x;exact ⟨k _ _ (.inl rfl) e,ih q⟩
 | tbl ps=>
  have e:h.get? a=some { cls:=.none,data:=.fields ps }:=x
  show h'.get? a=some { cls:=.none,data:=.fields ps }
  exact k a _ (.inl rfl) e
 | met f y=>
  have e:h.get? a=some (PySem.W.methodObj (.ref f) (.ref y)):=x
  show h'.get? a=some (PySem.W.methodObj (.ref f) (.ref y))
  exact k a _ (.inl rfl) e
 | ext φ=>obtain ⟨p,⟨o,e⟩,st⟩:=x;exact ⟨st _ _ p λo q=>k _ _ (.inl rfl) q,⟨o,k _ _ (.inl rfl) e⟩,st⟩
theorem HOk.lt (x:HOk P w H h) (e:H a=some o):a<h.objs.size:=(x a o e).lt
theorem HOk.fresh (x:HOk P w H h) (e:h.objs.size<=a):H a=none:=by
 cases q:H a with
 | none=>rfl
 | some u=>exact absurd (Nat.lt_of_lt_of_le (x.lt q) e) (Nat.lt_irrefl _)
theorem HOk.kept (x:HOk P w H h) (k:∀ b u,h.get? b=some u->h'.get? b=some u):HOk P w H h':=λa o e=>
 (x a o e).stay (λb u _ q=>k b u q) (λ_ q=>q) λ_ _ q=>q
theorem HOk.laid (x:HOk P w H h) (k:∀ b u,h.get? b=some u->h'.get? b=some u) (hp:h.objs.size<=a) (new:ObjOk P w (upd H a o) h' a o):HOk P w (upd H a o) h':=λb u e=>by
 have hn:=x.fresh hp
 by_cases hb:b=a
 ·subst hb;rw [c8] at e;cases e;exact new
 ·rw [a9 hb] at e
  exact (x b u e).stay (λc v _ q=>k c v q) (λc q=>by rw [a9 (c9 q hn)];exact q) λc xs q=>by rw [a9 (c9 q hn)];exact q
end
def Rd (H:Hp) (a:Addr) (u:HO):Prop:=H a=some u\/∃ o,H a=some (.frz o u)
theorem Rd.ok {P:Program} {w:World} {H:Hp} {h:Heap} {a:Addr} {u:HO} (r:Rd H a u) (x:HOk P w H h):ObjOk P w H h a u:=by
 rcases r with r | ⟨o,r⟩
 ·exact x a u r
 ·obtain ⟨_,q⟩:=x a _ r
  exact q
def Mut:Option HO->Prop
 | some (.lst _)=>True
 | some (.dK _)=>True
 | some (.dT _)=>True
 | some (.set _ _)=>True
 | some (.ins _ _ _)=>True
 | some (.ext _)=>True
 | _=>False
section
variable {P:Program} {w:World} {H:Hp} {h h':Heap} {x e:Addr} {o':HO}
theorem HOk.write (ok:HOk P w H h) (mu:Mut (H x)) (he:e=x\/H e=some (.own x)) (k:∀ b u,b≠e->h.get? b=some u->h'.get? b=some u) (heo:∃ u,h'.get? e=some u)
  (new:ObjOk P w (upd H x o') h' x o'):HOk P w (upd H x o') h':=λb u q=>by
 have nown:∀ c y,H c=some (.own y)->c≠x:=λc y r z=>by subst z;rw [r] at mu;exact mu
 have ntup:∀ c xs,H c=some (.tup xs)->c≠x:=λc xs r z=>by subst z;rw [r] at mu;exact mu
 by_cases hb:b=x
 ·subst hb;rw [c8] at q;cases q;exact new
 ·rw [a9 hb] at q
  by_cases hbe:b=e
  ·have q':H b=some (.own x):=by
    rcases he with z | z
    ·exact absurd (hbe.trans z) hb
    ·rw [hbe];exact z
   rw [q] at q';cases q'
   obtain ⟨v,hv⟩:=heo
   exact ⟨v,by rw [hbe];exact hv⟩
  ·refine (ok b u q).stay (λc v hc r=>k c v ?_ r) (λc r=>by rw [a9 (nown c b r)];exact r) λc xs r=>by rw [a9 (ntup c xs r)];exact r
   rcases hc with rfl | hc
   ·exact hbe
   ·rintro rfl
    rcases he with z | z
    ·exact nown c b hc z
    ·rw [hc] at z;cases z;exact hb rfl
end
structure Un (fs ex:List Addr) (H H':Hp) (h h':Heap):Prop where
 keep:∀ b o,h.get? b=some o->H b=none->b∉fs->b∉ex->h'.get? b=some o
 slot:∀ b o,h.get? b=some o->H b=none->b∈fs->b∉ex->∃ sl,h'.get? b=some { o with slots:=sl }
 free:∀ b o,h.get? b=some o->H b=none->b∉ex->H' b=none
 there:∀ b o,h.get? b=some o->b∉ex->∃ o',h'.get? b=some o'
 tups:∀ b xs,H b=some (.tup xs)->H' b=some (.tup xs)
 frzs:∀ b o u,H b=some (.frz o u)->H' b=some (.frz o u)
 tbls:∀ b ps,H b=some (.tbl ps)->∃ more,H' b=some (.tbl (ps++more))
section
variable {fs fs' ex ex':List Addr} {H H1 H2:Hp} {h h1 h2 h':Heap} {a x e:Addr} {o:HO}
theorem Un.any (u:Un fs ex H H1 h h1) {b:Addr} {ob:Obj} (q:h.get? b=some ob) (n:H b=none) (hx:b∉ex):∃ sl,h1.get? b=some { ob with slots:=sl }:=by
 by_cases hb:b∈fs
 ·exact u.slot b ob q n hb hx
 ·exact ⟨ob.slots,u.keep b ob q n hb hx⟩
theorem Un.kept (k:∀ b u,h.get? b=some u->h'.get? b=some u):Un fs ex H H h h':=
 ⟨λb ob q _ _ _=>k b ob q,λb ob q _ _ _=>⟨ob.slots,k b ob q⟩,λ_ _ _ n _=>n,λb ob q _=>⟨ob,k b ob q⟩,λ_ _ q=>q,λ_ _ _ q=>q,λ_ ps q=>⟨#[],by rw [q];simp⟩⟩
theorem Un.refl:Un fs ex H H h h:=Un.kept λ_ _ q=>q
theorem Un.laid (k:∀ b u,h.get? b=some u->h'.get? b=some u) (hp:h.objs.size<=a) (hn:H a=none):Un fs ex H (upd H a o) h h' where
 keep:=λb u q _ _ _=>k b u q
 slot:=λb u q _ _ _=>⟨u.slots,k b u q⟩
 free:=λb u q n _=>by rw [a9 (Nat.ne_of_lt (Nat.lt_of_lt_of_le (Heap.lt_size q) hp))];exact n
 there:=λb u q _=>⟨u,k b u q⟩
 tups:=λb xs q=>by rw [a9 (c9 q hn)];exact q
 frzs:=λb u xs q=>by rw [a9 (c9 q hn)];exact q
 tbls:=λb ps q=>⟨#[],by rw [a9 (c9 q hn),q];simp⟩
theorem Un.write (mu:Mut (H x)) (he:e=x\/H e=some (.own x)) (k:∀ b u,b≠e->h.get? b=some u->h'.get? b=some u) (heo:∃ u,h'.get? e=some u):Un fs ex H (upd H x o) h h':=by
 have hx:∀ b,H b=none->b≠x:=λb n z=>by subst z;rw [n] at mu;exact mu
 have hb:∀ b,H b=none->b≠e:=λb n z=>by
  subst z
  rcases he with r | r
  ·exact hx b n r
  ·rw [n] at r;cases r
 have hm:∀ b u,H b=some u->¬ Mut (some u)->b≠x:=λb u q nm z=>by subst z;rw [q] at mu;exact nm mu
 refine ⟨λb u q n _ _=>k b u (hb b n) q,λb u q n _ _=>⟨u.slots,k b u (hb b n) q⟩,λb u q n _=>by rw [a9 (hx b n)];exact n,λb u q _=>?_,
  λb xs q=>by rw [a9 (hm b _ q λz=>z)];exact q,λb u xs q=>by rw [a9 (hm b _ q λz=>z)];exact q,λb ps q=>⟨#[],by rw [a9 (hm b _ q λz=>z),q];simp⟩⟩
 by_cases hbe:b=e
 ·subst hbe;exact heo
 ·exact ⟨u,k b u hbe q⟩
end
noncomputable def trk (h:Heap) (H:Hp):List Addr:=(List.range h.objs.size).filter λa=>(H a).isSome
noncomputable def a4e (h:Heap) (H:Hp):Heap:=PySem.W.hideAll h (trk h H)
theorem b1d (h:Heap) (H:Hp):(a4e h H).objs.size=h.objs.size:=PySem.W.hideAll_size _ _
theorem b2f {h:Heap} {H:Hp} {b:Addr} {o:Obj} (e:h.get? b=some o) (n:H b=none):(a4e h H).get? b=some o:=
 PySem.W.hideAll_get _ e λhm=>by
  have q:(H b).isSome=true:=(List.mem_filter.mp hm).2
  rw [n] at q;simp at q
theorem b9j {h:Heap} {H:Hp} {b:Addr} {o:Obj} (e:(a4e h H).get? b=some o):h.get? b=some o/\H b=none:=by
 have e':h.get? b=some o:=PySem.W.of_hideAll (trk h H) e
 refine ⟨e',?_⟩
 cases q:H b with
 | none=>rfl
 | some x=>
  have hm:b∈trk h H:=List.mem_filter.mpr ⟨List.mem_range.mpr (Heap.lt_size e'),by simp [q]⟩
  have z:(a4e h H).get? b=none:=PySem.W.hideAll_none (trk h H) hm
  rw [z] at e;cases e
structure Mod (K:PySem.W.Frag) (mg:Str->Option Value) (base:Heap):Prop where
 kin:K.In base
 glob:base.Ns mainGlobals mg
 blt:∃ mb,base.Ns builtinsNs mb/\∀ x:Str,x ≠ "__name__"->mb x=bootBuiltins x
 nolimit:base.NoLimit
structure Cx where
 prog:Program
 w:World
 K:PySem.W.Frag
 mg:Str->Option Value
 base:Heap
 A:Around
 N:List Str
 s₀:Shared
 H₀:Hp
 env:Env
 outer:List Env
 stack:List Env
 ex:List Addr
 fn:Str->Bool
 calm:Bool
 pn:List (Addr×Obj)
 xe:Value->Shared->Prop
noncomputable def frs (l:List Env):List Addr:=l.filterMap (·.frame)
noncomputable abbrev Cx.fs (X:Cx):List Addr:=frs X.outer
def Vis (sc:Scope) (x:Str):Prop:=sc.names.lookup x=some .local\/sc.names.lookup x=some .cell\/sc.names.lookup x=some .free
def Loc (sc:Scope) (x:Str):Prop:=sc.names.lookup x=some .local\/sc.names.lookup x=some .cell
def d2c (env:Env) (h:Heap) (m:Str->Option Value) (x:Str) (u:Value):Prop:=
 (env.kindOf x=some .local/\m x=some u)\/((env.kindOf x=some .cell\/env.kindOf x=some .free)/\∃ c,env.cells.lookup x=some c/\h.IsCell c (some u))
structure Cx.Ok (X:Cx):Prop where
 mod:Mod X.K X.mg X.base
 kind:X.env.scope.kind=.function
 glob:X.env.globals=mainGlobals
 blt:X.env.builtins=builtinsNs
 above:X.s₀.heap.objs.size<=X.env.locals
 inj:∀ x y c,X.env.cells.lookup x=some c->X.env.cells.lookup y=some c->x=y
 has:∀ x,(X.env.kindOf x=some .cell\/X.env.kindOf x=some .free)->∃ c,X.env.cells.lookup x=some c
 cab:∀ x c,X.fn x=true->X.env.cells.lookup x=some c->X.s₀.heap.objs.size<=c
 hd:X.calm=true->X.A.handled=none
 frames:X.A.frames=some X.stack
 stk:X.stack=X.outer\/(X.stack=X.env :: X.outer/\X.env.frame=some X.env.locals)
 exf:∀ b∈X.ex,b≠X.env.locals/\∀ x c,X.env.cells.lookup x=some c->c≠b
 bs:∀ b o,X.base.get? b=some o->X.s₀.heap.get? b=some o/\X.H₀ b=none
 bsz:X.base.objs.size<=X.s₀.heap.objs.size
 noex:∀ b o,X.base.get? b=some o->b∉X.ex
 exfs:∀ b∈X.ex,b∉X.fs
 funs:X.s₀.heap.FunFrames X.base X.outer
 frf:∀ b∈X.fs,X.H₀ b=none
structure Inv (X:Cx) (pins:List (Addr×Obj)) (σ:List (Option V)) (H:Hp) (s:Shared):Prop where
 ok:X.Ok
 os:s.os=X.s₀.os
 bare:AllBare s.gens
 base:Un X.fs X.ex X.H₀ H X.s₀.heap s.heap
 loc:∃ m,s.heap.Ns X.env.locals m/\∀ (i:Nat) (x:Str) (v:V),X.N[i]?=some x->σ[i]?=some (some v)->Vis X.env.scope x->∃ u,RelV v u/\d2c X.env s.heap m x u
 cell:∀ x c,X.env.cells.lookup x=some c->∃ v,s.heap.IsCell c v
 free:H X.env.locals=none
 freeC:∀ x c,X.env.cells.lookup x=some c->H c=none
 pin:∀ p∈X.pn++pins,s.heap.get? p.1=some p.2/\H p.1=none/\p.1≠X.env.locals/\p.1∉X.fs/\∀ v,p.2.data≠.cell v
 hok:HOk X.prog X.w H s.heap
 len:σ.length=X.N.length
section
variable {X:Cx} {pins:List (Addr×Obj)} {σ:List (Option V)} {H H':Hp} {s:Shared} {h':Heap}
theorem Cx.Ok.nofr (ok:X.Ok) {b:Addr} {o:Obj} (e:X.base.get? b=some o):b∉X.fs:=λhb=>by
 have:=(ok.funs.mem hb).1
 rw [e] at this;cases this
theorem Inv.bs (I:Inv X pins σ H s):∀ b o,X.base.get? b=some o->s.heap.get? b=some o/\H b=none:=λb o e=>
 ⟨I.base.keep b o (I.ok.bs b o e).1 (I.ok.bs b o e).2 (I.ok.nofr e) (I.ok.noex b o e),I.base.free b o (I.ok.bs b o e).1 (I.ok.bs b o e).2 (I.ok.noex b o e)⟩
theorem Inv.bk (I:Inv X pins σ H s):∀ b o,X.base.get? b=some o->s.heap.get? b=some o:=λb o e=>(I.bs b o e).1
theorem Inv.mod (I:Inv X pins σ H s):Mod X.K X.mg X.base:=I.ok.mod
theorem Inv.kIn (I:Inv X pins σ H s):X.K.In s.heap:=I.ok.mod.kin.keeps I.bk
theorem Inv.fr (I:Inv X pins σ H s):∃ m,Fr X.base X.env.locals s.heap m:=
 let ⟨m,hn,_⟩:=I.loc
 ⟨m,hn,I.bk,Nat.le_trans I.ok.bsz I.ok.above⟩
theorem Inv.lt (I:Inv X pins σ H s):X.env.locals<s.heap.objs.size:=let ⟨_,hn,_⟩:=I.loc;hn.lt
theorem Inv.sz (I:Inv X pins σ H s):X.s₀.heap.objs.size<=s.heap.objs.size:=Nat.le_trans I.ok.above (Nat.le_of_lt I.lt)
theorem Inv.nofs (I:Inv X pins σ H s) {a:Addr} (h:s.heap.objs.size<=a):a∉X.fs:=λhb=>by
 obtain ⟨_,o,ho,_⟩:=I.ok.funs.mem hb
 exact absurd (Nat.lt_of_lt_of_le (Heap.lt_size ho) (Nat.le_trans I.sz h)) (Nat.lt_irrefl _)
theorem Inv.cne (I:Inv X pins σ H s):∀ x c,X.env.cells.lookup x=some c->c≠X.env.locals:=λx c e z=>by
 obtain ⟨v,o,ho,hd⟩:=I.cell x c e
 obtain ⟨m,⟨o',es,ep,ho',hd',_⟩,_⟩:=I.loc
 rw [z,ho'] at ho;cases ho;rw [hd'] at hd;cases hd
theorem Inv.funs (I:Inv X pins σ H s):s.heap.FunFrames X.base X.outer:=by
 have all:∀ (l:List Env),(∀ b∈frs l,b∈X.fs)->X.s₀.heap.FunFrames X.base l->s.heap.FunFrames X.base l:=by
  intro l
  induction l with
  | nil=>intro _ _;trivial
  | cons env r ih=>
   intro hs hl
   obtain ⟨hk,⟨L,o,hf,hn,ho,hd⟩,hr⟩:=hl
   have hL:L∈X.fs:=hs L (by unfold frs;rw [List.filterMap_cons,hf];exact List.mem_cons_self)
   obtain ⟨sl,e⟩:=I.base.slot L o ho (I.ok.frf L hL) hL λz=>I.ok.exfs L z hL
   exact ⟨hk,⟨L,_,hf,hn,e,hd⟩,ih (λb hb=>hs b (by unfold frs;rw [List.filterMap_cons,hf];exact List.mem_cons_of_mem _ hb)) hr⟩
 exact all X.outer (λ_ hb=>hb) I.ok.funs
theorem Inv.stack (I:Inv X pins σ H s):s.heap.FunFrames X.base X.stack:=by
 rcases I.ok.stk with e | ⟨e,hf⟩
 ·rw [e];exact I.funs
 ·rw [e]
  obtain ⟨m,hn,_⟩:=I.loc
  refine .cons (by rw [I.ok.kind];decide) hf hn ?_ I.funs
  exact Heap.get?_none_of_le (Nat.le_trans I.ok.bsz I.ok.above)
theorem Inv.stkSub (I:Inv X pins σ H s):∀ b∈frs X.stack,b∈X.env.locals :: X.fs:=λb hb=>by
 rcases I.ok.stk with e | ⟨e,hf⟩
 ·rw [e] at hb;exact List.mem_cons_of_mem _ hb
 ·rw [e] at hb
  unfold frs at hb
  rw [List.filterMap_cons,hf] at hb
  exact hb
theorem Inv.stkFree (I:Inv X pins σ H s):∀ b∈frs X.stack,H b=none:=λb hb=>by
 rcases List.mem_cons.mp (I.stkSub b hb) with e | hb
 ·rw [e];exact I.free
 ·obtain ⟨_,o,ho,_⟩:=I.ok.funs.mem hb
  exact I.base.free b o ho (I.ok.frf b hb) λz=>I.ok.exfs b z hb
theorem Inv.step {g':Array GenState} {t':Nat} {d':Drawn} {ch:List Addr} (I:Inv X pins σ H s)
  (hch:∀ b∈ch,(b∈X.ex\/X.s₀.heap.objs.size<=b)/\b≠X.env.locals/\(∀ x c,X.env.cells.lookup x=some c->c≠b)/\∀ p∈X.pn++pins,p.1≠b)
  (keep:∀ b o,b≠X.env.locals->b∉X.fs->b∉ch->s.heap.get? b=some o->H b=none->h'.get? b=some o)
  (slot:∀ b o,b≠X.env.locals->b∈X.fs->b∉ch->s.heap.get? b=some o->H b=none->∃ sl,h'.get? b=some { o with slots:=sl }) (free:∀ b o,b∉ch->s.heap.get? b=some o->H b=none->H' b=none)
  (there:∀ b o,b∉ch->s.heap.get? b=some o->∃ o',h'.get? b=some o')
  (tups:∀ b xs,H b=some (.tup xs)->H' b=some (.tup xs)) (frzs:∀ b o u,H b=some (.frz o u)->H' b=some (.frz o u)) (tbls:∀ b ps,H b=some (.tbl ps)->∃ more,H' b=some (.tbl (ps++more)))
  (ns:∀ m,s.heap.Ns X.env.locals m->h'.Ns X.env.locals m) (hok:HOk X.prog X.w H' h') (hg:AllBare g') :
  Inv X pins σ H' { s with heap:=h',gens:=g',drawn:=d',toks:=t' }:=by
 have neL:∀ b o,X.s₀.heap.get? b=some o->b≠X.env.locals:=λb o e=>Nat.ne_of_lt (Nat.lt_of_lt_of_le (Heap.lt_size e) I.ok.above)
 have neC:∀ b o,X.s₀.heap.get? b=some o->b∉X.ex->b∉ch:=λb o e hx hb=>by
  rcases (hch b hb).1 with z | z
  ·exact hx z
  ·exact absurd (Nat.lt_of_lt_of_le (Heap.lt_size e) z) (Nat.lt_irrefl _)
 have cellK:∀ x c,X.env.cells.lookup x=some c->∀ v,s.heap.IsCell c v->h'.IsCell c v:=λx c e v ⟨o,ho,hd⟩=>by
  have nch:c∉ch:=λz=>(hch c z).2.2.1 x c e rfl
  by_cases hc:c∈X.fs
  ·obtain ⟨sl,q⟩:=slot c o (I.cne x c e) hc nch ho (I.freeC x c e)
   exact ⟨_,q,hd⟩
  ·exact ⟨o,keep c o (I.cne x c e) hc nch ho (I.freeC x c e),hd⟩
 refine ⟨I.ok,I.os,hg,⟨λb o e n hb hx=>?_,λb o e n hb hx=>?_,λb o e n hx=>?_,λb o e hx=>?_,λb xs e=>tups b xs (I.base.tups b xs e),λb o xs e=>frzs b o xs (I.base.frzs b o xs e),λb ps e=>?_⟩,?_,λx c e=>?_,?_,λx c e=>?_,λp hp=>?_,hok,I.len⟩
 ·exact keep b o (neL b o e) hb (neC b o e hx) (I.base.keep b o e n hb hx) (I.base.free b o e n hx)
 ·obtain ⟨sl,e1⟩:=I.base.slot b o e n hb hx
  obtain ⟨sl',e2⟩:=slot b _ (neL b o e) hb (neC b o e hx) e1 (I.base.free b o e n hx)
  exact ⟨sl',e2⟩
 ·obtain ⟨o',e1⟩:=I.base.there b o e hx
  exact free b o' (neC b o e hx) e1 (I.base.free b o e n hx)
 ·obtain ⟨o',e1⟩:=I.base.there b o e hx
  exact there b o' (neC b o e hx) e1
 ·obtain ⟨m1,e1⟩:=I.base.tbls b ps e
  obtain ⟨m2,e2⟩:=tbls b _ e1
  exact ⟨m1++m2,by rw [e2,Array.append_assoc]⟩
 ·obtain ⟨m,hn,hl⟩:=I.loc
  refine ⟨m,ns m hn,λi x v e1 e2 e3=>?_⟩
  obtain ⟨u,r,l⟩:=hl i x v e1 e2 e3
  refine ⟨u,r,?_⟩
  rcases l with l | ⟨k,c,e,z⟩
  ·exact .inl l
  ·exact .inr ⟨k,c,e,cellK x c e _ z⟩
 ·obtain ⟨v,z⟩:=I.cell x c e
  exact ⟨v,cellK x c e v z⟩
 ·obtain ⟨m,⟨o,_,_,ho,_⟩,_⟩:=I.loc
  exact free _ o (λz=>(hch _ z).2.1 rfl) ho I.free
 ·obtain ⟨v,o,ho,hd⟩:=I.cell x c e
  exact free c o (λz=>(hch c z).2.2.1 x c e rfl) ho (I.freeC x c e)
 ·obtain ⟨e,n,ne,nf,d⟩:=I.pin p hp
  have nch:p.1∉ch:=λz=>(hch p.1 z).2.2.2 p hp rfl
  exact ⟨keep p.1 p.2 ne nf nch e n,free p.1 p.2 nch e n,ne,nf,d⟩
theorem Inv.un {t':Nat} (I:Inv X pins σ H s) (u:Un X.fs [] H H' s.heap h') (hok:HOk X.prog X.w H' h'):Inv X pins σ H' { s with heap:=h',toks:=t' }:=by
 obtain ⟨m,⟨o,es,ep,ho,r⟩,_⟩:=id I.loc
 obtain ⟨sl,hL⟩:=u.any ho I.free (by simp)
 exact I.step (g':=s.gens) (d':=s.drawn) (ch:=[]) (λ_ z=>nomatch z) (λb o _ hb _ e n=>u.keep b o e n hb (by simp)) (λb o _ hb _ e n=>u.slot b o e n hb (by simp)) (λb o _ e n=>u.free b o e n (by simp)) (λb o _ e=>u.there b o e (by simp)) u.tups u.frzs u.tbls (λm' hm=>by
  obtain ⟨o',es',ep',ho',r'⟩:=hm
  rw [ho] at ho';cases ho'
  exact ⟨_,es',ep',hL,r'⟩) hok I.bare
theorem Inv.call {g':Array GenState} {t':Nat} {d':Drawn} {ch:List Addr} (I:Inv X pins σ H s) (u:Un (frs X.stack) ch H H' s.heap h') (hok:HOk X.prog X.w H' h') (hg:AllBare g')
  (hch:∀ b∈ch,(b∈X.ex\/X.s₀.heap.objs.size<=b)/\b≠X.env.locals/\(∀ x c,X.env.cells.lookup x=some c->c≠b)/\∀ p∈X.pn++pins,p.1≠b) :
  Inv X pins σ H' { s with heap:=h',gens:=g',drawn:=d',toks:=t' }:=by
 obtain ⟨m,⟨o,es,ep,ho,r⟩,_⟩:=id I.loc
 obtain ⟨sl,hL⟩:=u.any ho I.free λz=>(hch _ z).2.1 rfl
 exact I.step (ch:=ch) hch (λb o hL hb hc e n=>u.keep b o e n (λz=>(List.mem_cons.mp (I.stkSub b z)).elim hL hb) hc) (λb o _ _ hc e n=>u.any e n hc) (λb o hc e n=>u.free b o e n hc) (λb o hc e=>u.there b o e hc) u.tups u.frzs u.tbls (λm' hm=>by
  obtain ⟨o',es',ep',ho',r'⟩:=hm
  rw [ho] at ho';cases ho'
  exact ⟨_,es',ep',hL,r'⟩) hok hg
theorem Inv.turned {t':Nat} {it:Addr} (I:Inv X pins σ H s) (k:∀ b o,b≠it->s.heap.get? b=some o->h'.get? b=some o) (hn:H it=none) (hL:it≠X.env.locals)
  (h1:it∈X.ex\/X.s₀.heap.objs.size<=it) (h2:∀ x c,X.env.cells.lookup x=some c->c≠it) (h3:∀ p∈X.pn++pins,p.1≠it):Inv X pins σ H { s with heap:=h',toks:=t' }:=by
 have nit:∀ b u,H b=some u->b≠it:=λb u e z=>by rw [z,hn] at e;cases e
 refine I.step (g':=s.gens) (d':=s.drawn) (ch:=[it]) (λb hb=>?_) (λb o _ _ hc e _=>k b o (λz=>hc (by simp [z])) e) (λb o _ _ hc e _=>⟨o.slots,k b o (λz=>hc (by simp [z])) e⟩) (λ_ _ _ _ n=>n)
  (λb o hc e=>⟨o,k b o (λz=>hc (by simp [z])) e⟩) (λ_ _ e=>e) (λ_ _ _ e=>e) (λb ps e=>⟨#[],by rw [e];simp⟩) (λm hm=>?_) (λb u e=>?_) I.bare
 ·have e:b=it:=by simpa using hb
  subst e
  exact ⟨h1,hL,h2,h3⟩
 ·obtain ⟨o,es,ep,ho,r⟩:=hm
  exact ⟨o,es,ep,k _ o (Ne.symm hL) ho,r⟩
 ·refine (I.hok b u e).stay (λc v hc q=>k c v ?_ q) (λ_ q=>q) λ_ _ q=>q
  rcases hc with z | z
  ·rw [z];exact nit b u e
  ·exact nit c _ z
theorem Inv.tok (I:Inv X pins σ H s) (t:Nat):Inv X pins σ H { s with toks:=t }:=I.un (h':=s.heap) (t':=t) Un.refl I.hok
theorem Inv.kept {t':Nat} (I:Inv X pins σ H s) (k:∀ b u,s.heap.get? b=some u->h'.get? b=some u):Inv X pins σ H { s with heap:=h',toks:=t' }:=I.un (Un.kept k) (I.hok.kept k)
theorem Inv.laid {a:Addr} {o:HO} {t':Nat} (I:Inv X pins σ H s) (k:∀ b u,s.heap.get? b=some u->h'.get? b=some u) (hp:s.heap.objs.size<=a) (new:ObjOk X.prog X.w (upd H a o) h' a o) :
  Inv X pins σ (upd H a o) { s with heap:=h',toks:=t' }:=I.un (Un.laid k hp (I.hok.fresh hp)) (I.hok.laid k hp new)
theorem Inv.write {x e:Addr} {o:HO} {t':Nat} (I:Inv X pins σ H s) (mu:Mut (H x)) (he:e=x\/H e=some (.own x)) (k:∀ b u,b≠e->s.heap.get? b=some u->h'.get? b=some u) (heo:∃ u,h'.get? e=some u)
  (new:ObjOk X.prog X.w (upd H x o) h' x o):Inv X pins σ (upd H x o) { s with heap:=h',toks:=t' }:=I.un (Un.write mu he k heo) (I.hok.write mu he k heo new)
theorem Inv.weak {σ':List (Option V)} (I:Inv X pins σ H s) (hl:σ'.length=σ.length) (w:∀ (i:Nat) v,σ'[i]?=some (some v)->σ[i]?=some (some v)):Inv X pins σ' H s:=
 ⟨I.ok,I.os,I.bare,I.base,let ⟨m,hn,hl'⟩:=I.loc;⟨m,hn,λi x v e1 e2 e3=>hl' i x v e1 (w i v e2) e3⟩,I.cell,I.free,I.freeC,I.pin,I.hok,hl.trans I.len⟩
theorem Inv.pins_of {pins':List (Addr×Obj)} (I:Inv X pins σ H s) (h:∀ p∈pins',s.heap.get? p.1=some p.2/\H p.1=none/\p.1≠X.env.locals/\p.1∉X.fs/\∀ v,p.2.data≠.cell v):Inv X pins' σ H s:=
 ⟨I.ok,I.os,I.bare,I.base,I.loc,I.cell,I.free,I.freeC,λp hp=>(List.mem_append.mp hp).elim (λz=>I.pin p (List.mem_append_left _ z)) (h p),I.hok,I.len⟩
theorem a15 {N:List Str} (hN:N.Nodup) {i j:Nat} {x:Str} (a:N[i]?=some x) (b:N[j]?=some x):i=j:=by
 obtain ⟨h1,e1⟩:=List.getElem?_eq_some_iff.mp a
 obtain ⟨h2,e2⟩:=List.getElem?_eq_some_iff.mp b
 exact (List.getElem_inj hN).mp (e1.trans e2.symm)
theorem a2t {M:Model} {A:Around} {E:Value->Shared->Prop} {i:Nat} {x:Str} {v:V} {u:Value} {Q:Unit->Shared->Prop} (I:Inv X pins σ H s) (hN:X.N.Nodup) (hi:X.N[i]?=some x) (hx:Loc X.env.scope x) (r:RelV v u)
  (h:∀ s',Inv X pins (σ.set i (some v)) H s'->(∃ a,Heap.SameBut a s.heap s'.heap/\(a=X.env.locals\/X.env.cells.lookup x=some a))->Q () s') (hf:X.fn x=true\/X.env.scope.names.lookup x=some .local:=by first | exact .inl rfl | exact .inr rfl | assumption):wpAny M A (storeName X.env x u) Q E s:=by
 obtain ⟨m,hn,hl⟩:=id I.loc
 have hcls:(X.env.scope.kind==.class||(X.env.scope.kind==.module&&X.env.locals != X.env.globals))=false:=by rw [I.ok.kind];rfl
 have hiσ:i<σ.length:=by rw [I.len];exact (List.getElem?_eq_some_iff.mp hi).1
 have cne:=I.cne
 have tracked:∀ {a:Addr} {h':Heap},(∃ o,s.heap.get? a=some o/\H a=none)->Heap.SameBut a s.heap h'->HOk X.prog X.w H h':=λ{a h'} ha hs b ob e=>by
  obtain ⟨_,_,hfree⟩:=ha
  refine (I.hok b ob e).stay (λc w' hc q=>(hs.2 c ?_).trans q) (λ_ q=>q) λ_ _ q=>q
  rintro rfl
  rcases hc with rfl | hc
  ·rw [hfree] at e;cases e
  ·rw [hfree] at hc;cases hc
 rcases hx with hk | hk
 ·refine wpAny_storeName_local hk hn (λh' hn' hs=>?_) hcls
  obtain ⟨oL,_,_,hoL,_⟩:=id hn
  refine h _ ⟨I.ok,I.os,I.bare,⟨λb o e n hb hx=>?_,λb o e n hb hx=>?_,I.base.free,λb o e hx=>?_,I.base.tups,I.base.frzs,I.base.tbls⟩,⟨_,hn',λj y v' e1 e2 e3=>?_⟩,λy c e=>?_,I.free,I.freeC,λp hp=>?_,tracked ⟨oL,hoL,I.free⟩ hs,by simpa using I.len⟩ ⟨_,hs,.inl rfl⟩
  ·exact (hs.2 b (Nat.ne_of_lt (Nat.lt_of_lt_of_le (Heap.lt_size e) I.ok.above))).trans (I.base.keep b o e n hb hx)
  ·obtain ⟨sl,e1⟩:=I.base.slot b o e n hb hx
   exact ⟨sl,(hs.2 b (Nat.ne_of_lt (Nat.lt_of_lt_of_le (Heap.lt_size e) I.ok.above))).trans e1⟩
  ·obtain ⟨o',e1⟩:=I.base.there b o e hx
   exact ⟨o',(hs.2 b (Nat.ne_of_lt (Nat.lt_of_lt_of_le (Heap.lt_size e) I.ok.above))).trans e1⟩
  ·by_cases hj:j=i
   ·subst hj
    rw [hi] at e1;cases e1
    rw [List.getElem?_set_self hiσ] at e2
    cases e2
    exact ⟨u,r,.inl ⟨hk,by simp⟩⟩
   ·rw [List.getElem?_set_ne (Ne.symm hj)] at e2
    obtain ⟨u',r',q⟩:=hl j y v' e1 e2 e3
    refine ⟨u',r',?_⟩
    rcases q with ⟨k,e⟩ | ⟨k,c,e,z⟩
    ·refine .inl ⟨k,?_⟩
     have:y≠x:=λe=>hj (a15 hN e1 (e▸hi))
     simp [this,e]
    ·exact .inr ⟨k,c,e,z.sameBut hs (cne y c e)⟩
  ·obtain ⟨w',z⟩:=I.cell y c e
   exact ⟨w',z.sameBut hs (cne y c e)⟩
  ·obtain ⟨e,n,ne,nf,d⟩:=I.pin p hp
   exact ⟨(hs.2 p.1 ne).trans e,n,ne,nf,d⟩
 ·have hfn:X.fn x=true:=by
   rcases hf with z | z
   ·exact z
   ·rw [z] at hk;cases hk
  obtain ⟨c,hc⟩:=I.ok.has x (.inl hk)
  obtain ⟨w',z⟩:=I.cell x c hc
  refine wpAny_storeName_cell I.ok.kind hk hc z (λh' hc' hs=>?_)
  obtain ⟨oc,hoc,hocd⟩:=id z
  refine h { s with heap:=h' } ⟨I.ok,I.os,I.bare,⟨λb o e n hb hx=>?_,λb o e n hb hx=>?_,I.base.free,λb o e hx=>?_,I.base.tups,I.base.frzs,I.base.tbls⟩,⟨m,hn.sameBut hs (Ne.symm (cne x c hc)),λj y v' e1 e2 e3=>?_⟩,λy c' e=>?_,I.free,I.freeC,λp hp=>?_,tracked ⟨oc,hoc,I.freeC x c hc⟩ hs,by simpa using I.len⟩ ⟨c,hs,.inr hc⟩
  ·exact (hs.2 b (Nat.ne_of_lt (Nat.lt_of_lt_of_le (Heap.lt_size e) (I.ok.cab x c hfn hc)))).trans (I.base.keep b o e n hb hx)
  ·obtain ⟨sl,e1⟩:=I.base.slot b o e n hb hx
   exact ⟨sl,(hs.2 b (Nat.ne_of_lt (Nat.lt_of_lt_of_le (Heap.lt_size e) (I.ok.cab x c hfn hc)))).trans e1⟩
  ·obtain ⟨o',e1⟩:=I.base.there b o e hx
   exact ⟨o',(hs.2 b (Nat.ne_of_lt (Nat.lt_of_lt_of_le (Heap.lt_size e) (I.ok.cab x c hfn hc)))).trans e1⟩
  ·by_cases hj:j=i
   ·subst hj
    rw [hi] at e1;cases e1
    rw [List.getElem?_set_self hiσ] at e2
    cases e2
    exact ⟨u,r,.inr ⟨.inl hk,c,hc,hc'⟩⟩
   ·rw [List.getElem?_set_ne (Ne.symm hj)] at e2
    obtain ⟨u',r',q⟩:=hl j y v' e1 e2 e3
    refine ⟨u',r',?_⟩
    rcases q with q | ⟨k,c',e,z'⟩
    ·exact .inl q
    ·refine .inr ⟨k,c',e,z'.sameBut hs ?_⟩
     rintro rfl
     exact hj (a15 hN e1 (I.ok.inj _ _ _ e hc▸hi))
  ·by_cases hcc:c'=c
   ·subst hcc;exact ⟨_,hc'⟩
   ·obtain ⟨w2,z2⟩:=I.cell y c' e
    exact ⟨w2,z2.sameBut hs hcc⟩
  ·obtain ⟨e,n,ne,nf,d⟩:=I.pin p hp
   refine ⟨(hs.2 p.1 ?_).trans e,n,ne,nf,d⟩
   intro q
   rw [q,hoc] at e
   have q':oc=p.2:=Option.some.inj e
   exact d w' (by rw [<- q'];exact hocd)
theorem U7 {M:Model} {A:Around} {E:Value->Shared->Prop} {i:Nat} {x:Str} {v:V} {u:Value} {Q:Unit->Shared->Prop} (I:Inv X pins σ H s) (hN:X.N.Nodup) (hi:X.N[i]?=some x) (hx:Loc X.env.scope x) (r:RelV v u)
  (h:∀ s',Inv X pins (σ.set i (some v)) H s'->Q () s') (hf:X.fn x=true\/X.env.scope.names.lookup x=some .local:=by first | exact .inl rfl | exact .inr rfl | assumption):wpAny M A (storeName X.env x u) Q E s:=
 a2t I hN hi hx r (λs' I' _=>h s' I') hf
theorem Inv.call' {s':Shared} {ch:List Addr} (I:Inv X pins σ H s) (ho:s'.os=s.os) (u:Un (frs X.stack) ch H H' s.heap s'.heap) (hok:HOk X.prog X.w H' s'.heap) (hg:AllBare s'.gens)
  (hch:∀ b∈ch,(b∈X.ex\/X.s₀.heap.objs.size<=b)/\b≠X.env.locals/\(∀ x c,X.env.cells.lookup x=some c->c≠b)/\∀ p∈X.pn++pins,p.1≠b):Inv X pins σ H' s':=by
 obtain ⟨h',g',d',t',o'⟩:=s'
 have e:o'=s.os:=ho
 subst e
 exact I.call (g':=g') (t':=t') (d':=d') u hok hg hch
end
noncomputable abbrev XK:=Value->Option Addr->Hp->Prop
noncomputable abbrev St:=List (Option V)
noncomputable abbrev VK:=V->Hp->Prop
noncomputable abbrev TE:=St->Hp->VK->Prop
noncomputable abbrev TT:=St->Hp->(Bool->Hp->Prop)->Prop
noncomputable abbrev TA:=St->Hp->(List V->Hp->Prop)->Prop
structure Ends where
 nx:St->Hp->Prop
 rt:VK
 bk:St->Hp->Prop:=λ_ _=>False
 ct:St->Hp->Prop:=λ_ _=>False
noncomputable abbrev TS:=Ends->St->Hp->Prop
def EP (X:Cx) (pins:List (Addr×Obj)) (σ:St) (Q:VK) (u:Value) (s':Shared):Prop:=∃ v H',Inv X pins σ H' s'/\RelV v u/\Q v H'
def TP (X:Cx) (pins:List (Addr×Obj)) (σ:St) (Q:Bool->Hp->Prop) (b:Bool) (s':Shared):Prop:=∃ H',Inv X pins σ H' s'/\Q b H'
def AP (X:Cx) (pins:List (Addr×Obj)) (σ:St) (Q:List V->Hp->Prop) (us:List Value) (s':Shared):Prop:=∃ vs H',Inv X pins σ H' s'/\Vals vs us/\Q vs H'
def SP (X:Cx) (pins:List (Addr×Obj)) (D:Ends) (f:Flow) (s':Shared):Prop:=
 match f with
 | .next=>∃ σ' H',Inv X pins σ' H' s'/\D.nx σ' H'
 | .brk=>∃ σ' H',Inv X pins σ' H' s'/\D.bk σ' H'
 | .cont=>∃ σ' H',Inv X pins σ' H' s'/\D.ct σ' H'
 | .ret u=>∃ v σ' H',Inv X pins σ' H' s'/\RelV v u/\D.rt v H'
def PE (X:Cx) (e:Expr) (t:TE):Prop:=
 ∀ (pins:List (Addr×Obj)) (s:Shared) (σ:St) (H:Hp) (Q:VK),Inv X pins σ H s->t σ H Q->wpAny (model X.prog X.w) X.A (eval e X.env) (EP X pins σ Q) X.xe s
def PT (X:Cx) (e:Expr) (t:TT):Prop:=
 ∀ (pins:List (Addr×Obj)) (s:Shared) (σ:St) (H:Hp) (Q:Bool->Hp->Prop),Inv X pins σ H s->t σ H Q->wpAny (model X.prog X.w) X.A (isTrue e X.env (eval e X.env)) (TP X pins σ Q) X.xe s
def PW (X:Cx) (e:Expr) (t:TT):Prop:=
 ∀ (whole:Sem Value) (pins:List (Addr×Obj)) (s:Shared) (σ:St) (H:Hp) (Q:Bool->Hp->Prop),Inv X pins σ H s->t σ H Q->wpAny (model X.prog X.w) X.A (isTrue e X.env whole) (TP X pins σ Q) X.xe s
theorem PW.pt {X:Cx} {e:Expr} {t:TT} (h:PW X e t):PT X e t:=h _
def PA (X:Cx) (es:List Expr) (t:TA):Prop:=
 ∀ (pos:Pos) (pins:List (Addr×Obj)) (s:Shared) (σ:St) (H:Hp) (Q:List V->Hp->Prop),Inv X pins σ H s->t σ H Q->wpAny (model X.prog X.w) X.A (spliced (backTo pos (starEach es X.env))) (AP X pins σ Q) X.xe s
def PS (X:Cx) (st:Stmt) (t:TS):Prop:=
 ∀ (pins:List (Addr×Obj)) (s:Shared) (σ:St) (H:Hp) (D:Ends),Inv X pins σ H s->t D σ H->wpAny (model X.prog X.w) X.A (exec st X.env) (SP X pins D) X.xe s
def PSs (X:Cx) (st:List Stmt) (t:TS):Prop:=
 ∀ (pins:List (Addr×Obj)) (s:Shared) (σ:St) (H:Hp) (D:Ends),Inv X pins σ H s->t D σ H->wpAny (model X.prog X.w) X.A (execs st X.env) (SP X pins D) X.xe s
theorem thn {α:Type} {t:Sem α} {Q Q':α->Shared->Prop} {M:Model} {A:Around} {E:Value->Shared->Prop} {s:Shared} (h:wpAny M A t Q E s) (hQ:∀ a s,Q a s->Q' a s):wpAny M A t Q' E s:=wpAny_mono h hQ λ_ _ x=>x
section
variable {X:Cx}
def c2h (i:Nat):TE:=λσ H Q=>∃ v,σ[i]?=some (some v)/\Q v H
def tC (v:V):TE:=λ_ H Q=>Q v H
theorem b21 {i:Nat} {x:Str} {pos:Pos} (hN:X.N[i]?=some x) (hv:Vis X.env.scope x) (hd:(x==("__debug__" : Str))=false:=by decide) (hcd:(x==("__classdict__" : Str))=false:=by decide):PE X (.Name x pos) (c2h i):=by
 intro pins s σ H Q I h
 obtain ⟨v,e,h⟩:=h
 obtain ⟨m,hn,hl⟩:=I.loc
 obtain ⟨u,r,l⟩:=hl i x v hN e hv
 have fin:EP X pins σ Q u s:=⟨v,H,I,r,h⟩
 rcases l with ⟨hk,hm⟩ | ⟨hk,c,hc,hcell⟩
 ·exact wpAny_Name (wpAny_loadName_local I.ok.kind hk hn hm fin) hd
 ·rcases hk with hk | hk
  ·exact wpAny_Name (wpAny_loadName_cell I.ok.kind hk hc hcell fin) hd
  ·exact wpAny_Name (wpAny_loadName_free I.ok.kind hk hc hcell fin hcd) hd
theorem c18 {i j pos}:PE X (.Constant (.int i) j pos) (tC (.int i)):=λ_ _ _ H _ I h=>wpAny_Constant_int ⟨.int i,H,I.tok _,⟨_,rfl⟩,h⟩
theorem d0e {b j pos}:PE X (.Constant (.bool b) j pos) (tC (.bl b)):=λ_ _ _ H _ I h=>Constant_bool ⟨.bl b,H,I,rfl,h⟩
theorem c5r {j pos}:PE X (.Constant .none j pos) (tC .non):=λ_ _ _ H _ I h=>Constant_none ⟨.non,H,I,rfl,h⟩
theorem c2d {x j pos}:PE X (.Constant (.str x) j pos) (tC (.str x)):=λ_ _ _ H _ I h=>Calls.Constant_str ⟨.str x,H,I.tok _,⟨_,rfl⟩,h⟩
def Gl (X:Cx) (x:Str):Prop:=X.env.kindOf x=some .globalImplicit
theorem G5 {E:Value->Shared->Prop} {pins:List (Addr×Obj)} {s:Shared} {σ:St} {H:Hp} {x:Str} {u:Value} {pos:Pos} {Q:Value->Shared->Prop} (I:Inv X pins σ H s) (hg:Gl X x) (hm:X.mg x=some u) (h:Q u s)
  (hd:(x==("__debug__" : Str))=false:=by decide):wpAny (model X.prog X.w) X.A (eval (.Name x pos) X.env) Q E s:=
 Calls.Name_function_global I.ok.kind hg (Calls.loadGlobal_global (by rw [I.ok.glob];exact I.mod.glob.keeps I.bk) hm h) hd
theorem K9 {E:Value->Shared->Prop} {pins:List (Addr×Obj)} {s:Shared} {σ:St} {H:Hp} {x:Str} {u:Value} {pos:Pos} {Q:Value->Shared->Prop} (I:Inv X pins σ H s) (hg:Gl X x) (hm:X.mg x=none) (hv:bootBuiltins x=some u) (h:Q u s)
  (hn:x ≠ "__name__":=by decide) (hd:(x==("__debug__" : Str))=false:=by decide):wpAny (model X.prog X.w) X.A (eval (.Name x pos) X.env) Q E s:=by
 obtain ⟨mb,h1,h2⟩:=I.mod.blt
 exact Calls.Name_function_global I.ok.kind hg (Calls.loadGlobal_builtin (by rw [I.ok.glob];exact I.mod.glob.keeps I.bk) hm (by rw [I.ok.blt];exact h1.keeps I.bk) ((h2 x hn).trans hv) h) hd
theorem a4d {x:Str} {v:V} {u:Value} {pos:Pos} (hg:Gl X x) (hm:X.mg x=some u) (r:RelV v u) (hd:(x==("__debug__" : Str))=false:=by decide):PE X (.Name x pos) (tC v):=
 λ_ _ _ H _ I h=>G5 I hg hm ⟨v,H,I,r,h⟩ hd
theorem b96 {x:Str} {v:V} {u:Value} {pos:Pos} (hg:Gl X x) (hm:X.mg x=none) (hv:bootBuiltins x=some u) (r:RelV v u) (hn:x ≠ "__name__":=by decide) (hd:(x==("__debug__" : Str))=false:=by decide):PE X (.Name x pos) (tC v):=
 λ_ _ _ H _ I h=>K9 I hg hm hv ⟨v,H,I,r,h⟩ hn hd
variable {a b:Expr} {ta tb:TE} {pos:Pos}
variable {tA tB':TT} {rest:List Expr}
def d2o (t u:TT):TT:=λσ H Q=>t σ H λc H1=>if c=true then u σ H1 Q else Q false H1
def tOr (t u:TT):TT:=λσ H Q=>t σ H λc H1=>if c=true then Q true H1 else u σ H1 Q
def c6a (t:TT):TT:=λσ H Q=>t σ H λc H1=>Q (!c) H1
theorem pw_and1 (ha:PT X a tA):PW X (.BoolOp .And [a] pos) tA:=by
 intro wh pins s σ H Q I h
 refine isTrue_and (thn (ha pins s σ H Q I h) λc s1 e=>?_)
 cases c with
 | true=>exact isTrue_and_nil e
 | false=>exact e
theorem pw_or1 (ha:PT X a tA):PW X (.BoolOp .Or [a] pos) tA:=by
 intro wh pins s σ H Q I h
 refine isTrue_or (thn (ha pins s σ H Q I h) λc s1 e=>?_)
 cases c with
 | false=>exact isTrue_or_nil e
 | true=>exact e
theorem pw_and (ha:PT X a tA) (hb:PW X (.BoolOp .And (b :: rest) pos) tB'):PW X (.BoolOp .And (a :: b :: rest) pos) (d2o tA tB'):=by
 intro wh pins s σ H Q I h
 refine isTrue_and (thn (ha pins s σ H _ I h) λc s1 ⟨H1,I1,q1⟩=>?_)
 cases c with
 | true=>exact hb wh pins s1 σ H1 Q I1 q1
 | false=>exact ⟨H1,I1,q1⟩
theorem pw_or (ha:PT X a tA) (hb:PW X (.BoolOp .Or (b :: rest) pos) tB'):PW X (.BoolOp .Or (a :: b :: rest) pos) (tOr tA tB'):=by
 intro wh pins s σ H Q I h
 refine isTrue_or (thn (ha pins s σ H _ I h) λc s1 ⟨H1,I1,q1⟩=>?_)
 cases c with
 | true=>exact ⟨H1,I1,q1⟩
 | false=>exact hb wh pins s1 σ H1 Q I1 q1
theorem c56 (ha:PT X a tA):PT X (.UnaryOp .Not a pos) (c6a tA):=by
 intro pins s σ H Q I h
 exact isTrue_not (ha pins s σ H (λc H1=>Q (!c) H1) I h)
theorem c4j {op} {t:TE} (h:PE X a t):PE X (.BoolOp op [a] pos) t:=λpins s σ H Q I hw=>BoolOp_one (h pins s σ H Q I hw)
def tIf (t:TT) (ta tb:TE):TE:=λσ H Q=>t σ H λc H1=>if c=true then ta σ H1 Q else tb σ H1 Q
theorem b3m {c:Expr} (hc:PT X c tA) (ha:PE X a ta) (hb:PE X b tb):PE X (.IfExp c a b pos) (tIf tA ta tb):=by
 intro pins s σ H Q I h
 refine wpAny_IfExp (thn (hc pins s σ H _ I h) λd s1 ⟨H1,I1,q1⟩=>?_)
 cases d with
 | true=>exact ha pins s1 σ H1 Q I1 q1
 | false=>exact hb pins s1 σ H1 Q I1 q1
end
def SqL (K:PySem.W.Frag) (H:Hp) (a:Addr) (xs:List V):Prop:=
 Rd H a (.lst xs) \/
  ∃ (o:Obj) (its:Array Value) (n:Nat),K.lookup a=some o/\o.cls=.type "list"/\o.dict=none/\o.data=.seq its n/\its.size<=sizeLine/\Vals xs its.toList
def SqT (K:PySem.W.Frag) (H:Hp) (a:Addr) (xs:List V):Prop:=
 Rd H a (.tup xs) \/
  ∃ (o:Obj) (its:Array Value) (n:Nat),K.lookup a=some o/\o.cls=.type "tuple"/\o.data=.seq its n/\its.size<=sizeLine/\Vals xs its.toList
noncomputable def d2t:Value->Option V
 | .none=>some .non
 | .bool b=>some (.bl b)
 | .int i _=>some (.int i)
 | .str x _=>some (.str x)
 | .bytes b _=>some (.byt b)
 | .float b _=>some (.flt b)
 | .ref a=>some (.ref a)
 | .type n=>some (.ty n)
 | _=>none
theorem RelV.abs {x:V} {u:Value} (r:RelV x u):d2t u=some x:=by
 cases x with
 | non=>cases r;rfl
 | bl _=>cases r;rfl
 | int _=>obtain ⟨t,rfl⟩:=r;rfl
 | str _=>obtain ⟨t,rfl⟩:=r;rfl
 | byt _=>obtain ⟨t,rfl⟩:=r;rfl
 | flt _=>obtain ⟨t,rfl⟩:=r;rfl
 | ref _=>cases r;rfl
 | ty _=>cases r;rfl
theorem RelV.inj {x y:V} {u:Value} (r:RelV x u) (q:RelV y u):x=y:=Option.some.inj (r.abs.symm.trans q.abs)
theorem Vals.inj:∀ {xs ys:List V} {us:List Value},Vals xs us->Vals ys us->xs=ys
 | _,_,_,.nil,.nil=>rfl
 | _,_,_,.cons r t,.cons r' t'=>by rw [r.inj r',Vals.inj t t']
section
variable {X:Cx} {pins:List (Addr×Obj)} {σ:St} {H:Hp} {s:Shared} {a:Addr} {xs ys:List V}
theorem Inv.list (I:Inv X pins σ H s) (h:SqL X.K H a xs):∃ its:List Value,Vals xs its/\PlainL s.heap a its.toArray/\xs.length<=sizeLine:=by
 rcases h with h | ⟨o,its,n,hk,hc,hd,hs,hz,r⟩
 ·obtain ⟨z,its,n,r,e⟩:=h.ok I.hok
  exact ⟨its,r,⟨_,n,e,rfl,rfl,rfl⟩,z⟩
 ·refine ⟨its.toList,r,⟨o,n,I.kIn a o hk,hc,hd,by simpa using hs⟩,?_⟩
  have e:=r.length
  simp only [Array.length_toList] at e
  omega
theorem Inv.tuple (I:Inv X pins σ H s) (h:SqT X.K H a xs):∃ its:List Value,Vals xs its/\IsTup s.heap a its.toArray/\xs.length<=sizeLine:=by
 rcases h with h | ⟨o,its,n,hk,hc,hs,hz,r⟩
 ·obtain ⟨z,its,r,p⟩:=h.ok I.hok
  exact ⟨its,r,p.is,z⟩
 ·refine ⟨its.toList,r,⟨o,I.kIn a o hk,hc,n,by simpa using hs⟩,?_⟩
  have e:=r.length
  simp only [Array.length_toList] at e
  omega
theorem Inv.list_inj (I:Inv X pins σ H s) (h:SqL X.K H a xs) (h':SqL X.K H a ys):xs=ys:=by
 obtain ⟨its,r,⟨o,n,e,_,_,d⟩,_⟩:=I.list h
 obtain ⟨its',r',⟨o',n',e',_,_,d'⟩,_⟩:=I.list h'
 rw [e] at e';cases e'
 rw [d] at d'
 injection d' with d1 _
 have:its=its':=by simpa using congrArg Array.toList d1
 subst this
 exact r.inj r'
theorem Inv.tuple_inj (I:Inv X pins σ H s) (h:SqT X.K H a xs) (h':SqT X.K H a ys):xs=ys:=by
 obtain ⟨its,r,⟨o,e,_,n,d⟩,_⟩:=I.tuple h
 obtain ⟨its',r',⟨o',e',_,n',d'⟩,_⟩:=I.tuple h'
 rw [e] at e';cases e'
 rw [d] at d'
 injection d' with d1 _
 have:its=its':=by simpa using congrArg Array.toList d1
 subst this
 exact r.inj r'
end
noncomputable abbrev Cx.wish (X:Cx) (E:Value->Shared->Prop):Cx:={ X with xe:=E }
noncomputable abbrev Cx.nox (X:Cx):Cx:=X.wish λ_ _=>False
theorem Cx.Ok.wish {X:Cx} (ok:X.Ok) (E:Value->Shared->Prop):(X.wish E).Ok:=
 ⟨ok.mod,ok.kind,ok.glob,ok.blt,ok.above,ok.inj,ok.has,ok.cab,ok.hd,ok.frames,ok.stk,ok.exf,ok.bs,ok.bsz,ok.noex,ok.exfs,ok.funs,ok.frf⟩
theorem Cx.Ok.unwish {X:Cx} {E:Value->Shared->Prop} (ok:(X.wish E).Ok):X.Ok:=
 ⟨ok.mod,ok.kind,ok.glob,ok.blt,ok.above,ok.inj,ok.has,ok.cab,ok.hd,ok.frames,ok.stk,ok.exf,ok.bs,ok.bsz,ok.noex,ok.exfs,ok.funs,ok.frf⟩
section
variable {X:Cx} {pins:List (Addr×Obj)} {σ:St} {H:Hp} {s:Shared} {E:Value->Shared->Prop}
theorem Inv.wish (I:Inv X pins σ H s) (E:Value->Shared->Prop):Inv (X.wish E) pins σ H s:=⟨I.ok.wish E,I.os,I.bare,I.base,I.loc,I.cell,I.free,I.freeC,I.pin,I.hok,I.len⟩
theorem Inv.unwish (I:Inv (X.wish E) pins σ H s):Inv X pins σ H s:=⟨I.ok.unwish,I.os,I.bare,I.base,I.loc,I.cell,I.free,I.freeC,I.pin,I.hok,I.len⟩
theorem SP.unwish {D:Ends} {f:Flow} {s':Shared} (h:SP (X.wish E) pins D f s'):SP X pins D f s':=by
 cases f with
 | next=>obtain ⟨σ',H',I,q⟩:=h;exact ⟨σ',H',I.unwish,q⟩
 | brk=>obtain ⟨σ',H',I,q⟩:=h;exact ⟨σ',H',I.unwish,q⟩
 | cont=>obtain ⟨σ',H',I,q⟩:=h;exact ⟨σ',H',I.unwish,q⟩
 | ret u=>obtain ⟨v,σ',H',I,r,q⟩:=h;exact ⟨v,σ',H',I.unwish,r,q⟩
theorem PSs.nox {st:List Stmt} {t:TS} (h:PSs X.nox st t):PSs X st t:=λpins s σ H D I hw=>
 wpAny_mono (h pins s σ H D (I.wish _) hw) (λ_ _ q=>q.unwish) λ_ _ z=>False.elim z
end
section
variable {X:Cx} {st:Stmt} {rest:List Stmt} {t u:TS} {e:Expr} {te:TE} {pos:Pos}
def tNext:TS:=λD σ H=>D.nx σ H
def d3d (t u:TS):TS:=λD σ H=>t { D with nx:=u D } σ H
theorem c04:PSs X [] tNext:=λ_ _ σ H _ I h=>wpAny_execs_nil ⟨σ,H,I,h⟩
theorem y7 (h1:PS X st t) (h2:PSs X rest u):PSs X (st :: rest) (d3d t u):=by
 intro pins s σ H D I h
 refine wpAny_execs_cons (thn (h1 pins s σ H { D with nx:=u D } I h) λf s1 q=>?_)
 cases f with
 | next=>
  obtain ⟨σ',H',I',q⟩:=q
  exact h2 pins s1 σ' H' D I' q
 | ret v=>exact q
 | brk=>exact q
 | cont=>exact q
theorem N6 (h1:PS X st t):PSs X [st] t:=by
 intro pins s σ H D I h
 refine wpAny_execs_cons (thn (h1 pins s σ H D I h) λf s1 q=>?_)
 cases f with
 | next=>exact wpAny_execs_nil q
 | ret v=>exact q
 | brk=>exact q
 | cont=>exact q
theorem Inv.quiet {pins:List (Addr×Obj)} {σ:St} {H:Hp} {s:Shared} (I:Inv X pins σ H s):interactive X.env=false:=by simp [interactive,I.ok.kind]
def c7c (te:TE):TS:=λD σ H=>te σ H λ_ H1=>D.nx σ H1
theorem G9 (he:PE X e te) (hs:swapsWith e none pos.line X.env=pure false:=by rfl):PS X (.Expr e pos) (c7c te):=by
 intro pins s σ H D I h
 exact wpAny_Expr_any (thn (he pins s σ H _ I h) λv s1 ⟨x,H1,I1,r1,q1⟩=>⟨σ,H1,I1,q1⟩) I.quiet hs
def d1w (te:TE):TS:=λD σ H=>te σ H D.rt
theorem c6c (he:PE X e te):PS X (.Return (some e) pos) (d1w te):=by
 intro pins s σ H D I h
 exact wpAny_Return_some (thn (he pins s σ H _ I h) λv s1 ⟨x,H1,I1,r1,q1⟩=>⟨x,σ,H1,I1,r1,q1⟩)
def d1l (c:TT) (t u:TS):TS:=λD σ H=>c σ H λb H1=>if b=true then t D σ H1 else u D σ H1
theorem ps_if {c:Expr} {a b:List Stmt} {tc:TT} (hc:PT X c tc) (ha:PSs X a t) (hb:PSs X b u):PS X (.If c a b pos) (d1l tc t u):=by
 intro pins s σ H D I h
 refine wpAny_If (thn (hc pins s σ H _ I h) λd s1 ⟨H1,I1,q1⟩=>?_)
 cases d with
 | true=>exact ha pins s1 σ H1 D I1 q1
 | false=>exact hb pins s1 σ H1 D I1 q1
def tNever:TS:=λ_ _ _=>False
theorem b3p:PS X st tNever:=λ_ _ _ _ _ _ h=>h.elim
end
noncomputable abbrev TG:=V->St->Hp->(St->Hp->Prop)->Prop
noncomputable abbrev TGs:=List V->St->Hp->(St->Hp->Prop)->Prop
def PG (X:Cx) (target:Expr) (t:TG):Prop:=
 ∀ (pins:List (Addr×Obj)) (s:Shared) (σ:St) (H:Hp) (v:V) (u:Value) (Q:St->Hp->Prop),Inv X pins σ H s->RelV v u->t v σ H Q ->
  wpAny (model X.prog X.w) X.A (assign target X.env u) (λ_ s'=>∃ σ' H',Inv X pins σ' H' s'/\Q σ' H') X.xe s
def PGs (X:Cx) (ts:List Expr) (t:TGs):Prop:=
 ∀ (pins:List (Addr×Obj)) (s:Shared) (σ:St) (H:Hp) (vs:List V) (us:List Value) (Q:St->Hp->Prop),Inv X pins σ H s->Vals vs us->t vs σ H Q ->
  wpAny (model X.prog X.w) X.A (assignInOrder ((assignEach ts X.env).map (·.2)) us) (λ_ s'=>∃ σ' H',Inv X pins σ' H' s'/\Q σ' H') X.xe s
noncomputable abbrev c5g:=V->V->V->Hp->(Hp->Prop)->Prop
def c37 (X:Cx) (t:c5g):Prop:=
 ∀ (pins:List (Addr×Obj)) (s:Shared) (σ:St) (H:Hp) (o i v:V) (ov iv u:Value) (Q:Hp->Prop),Inv X pins σ H s->RelV o ov->RelV i iv->RelV v u->t o i v H Q ->
  wpAny (model X.prog X.w) X.A (setItem ov iv u) (λ_ s'=>∃ H',Inv X pins σ H' s'/\Q H') X.xe s
section
variable {X:Cx} {pos:Pos}
def a8a (i:Nat):TG:=λv σ H Q=>Q (σ.set i (some v)) H
theorem a0r {i:Nat} {x:Str} (hN:X.N.Nodup) (hi:X.N[i]?=some x) (hx:Loc X.env.scope x) (hf:X.fn x=true\/X.env.scope.names.lookup x=some .local:=by first | exact .inl rfl | exact .inr rfl | assumption):PG X (.Name x pos) (a8a i):=by
 intro pins s σ H v u Q I r h
 exact wpAny_assign_Name (U7 I hN hi hx r (λs' I'=>⟨_,H,I',h⟩) hf)
def gNil:TGs:=λvs σ H Q=>vs=[]/\Q σ H
def c9f (t:TG) (u:TGs):TGs:=λvs σ H Q=>∃ v r,vs=v :: r/\t v σ H λσ' H'=>u r σ' H' Q
theorem b88:PGs X [] gNil:=by
 intro pins s σ H vs us Q I r h
 obtain ⟨e,h⟩:=h
 subst e
 cases r
 exact assignInOrder_nil ⟨σ,H,I,h⟩
theorem b59 {e:Expr} {es:List Expr} {t:TG} {u:TGs} (h1:PG X e t) (h2:PGs X es u)
  (hs:(assignEach (e :: es) X.env).map (·.2)=assign e X.env :: (assignEach es X.env).map (·.2):=by rfl):PGs X (e :: es) (c9f t u):=by
 intro pins s σ H vs us Q I r h
 obtain ⟨v,vr,e1,h⟩:=h
 subst e1
 cases r with
 | cons r rr=>
  rw [hs]
  refine assignInOrder_cons (thn (h1 pins s σ H _ _ _ I r h) λ_ s1 ⟨σ1,H1,I1,q1⟩=>?_)
  exact h2 pins s1 σ1 H1 _ _ Q I1 rr q1
def d2e (K:PySem.W.Frag) (n:Nat) (t:TGs):TG:=λv σ H Q=>∃ a xs,v=.ref a/\SqT K H a xs/\xs.length=n/\t xs σ H Q
theorem c31 {es:List Expr} {k:Nat} {t:TGs} {n:Nat} (hc:X.calm=true) (h:PGs X es t)
  (hn:(assignEach es X.env).length=n:=by rfl) (hst:(assignEach es X.env).findIdx? (·.1)=none:=by rfl):PG X (.Tuple es k pos) (d2e X.K n t):=by
 intro pins s σ H v u Q I r hw
 obtain ⟨a,xs,e1,hq,hl,hw⟩:=hw
 subst e1
 cases r
 obtain ⟨its,rv,ht,hz⟩:=I.tuple hq
 refine assign_Tuple_tuple (I.ok.hd hc) ht (by simp [hn,<- hl,rv.length]) hst λh' hx=>?_
 have I1:Inv X pins σ H { s with heap:=h' }:=I.kept (t':=s.toks) λb o e=>hx b o (Nat.ne_of_lt (Heap.lt_size e)) e
 exact h pins _ σ H xs _ Q I1 (by simpa using rv) hw
def d25 (to ti:TE) (t:c5g):TG:=λv σ H Q=>to σ H λo H1=>ti σ H1 λi H2=>t o i v H2 λH3=>Q σ H3
theorem c3k {o i:Expr} {to ti:TE} {t:c5g} (ho:PE X o to) (hi:PE X i ti) (hs:c37 X t)
  (ha:∀ v,assign (.Subscript o i pos) X.env v=(do
   let ov <- holding [v] (eval o X.env)
   let iv <- holding [v,ov] (eval i X.env)
   standAt pos
   holding [v,ov,iv] (setItem ov iv v)
   release [v,ov,iv] []):=by intro _;rfl):PG X (.Subscript o i pos) (d25 to ti t):=by
 intro pins s σ H v u Q I r h
 rw [ha]
 refine wpAny_bind (wpAny_holding (thn (ho pins s σ H _ I h) λov s1 ⟨x,H1,I1,r1,q1⟩=>?_))
 refine wpAny_bind (wpAny_holding (thn (hi pins s1 σ H1 _ I1 q1) λiv s2 ⟨y,H2,I2,r2,q2⟩=>?_))
 refine wpAny_bind (wpAny_standAt (wpAny_bind (wpAny_holding (thn (hs pins s2 σ H2 x y v ov iv u _ I2 r1 r2 r q2) λ_ s3 ⟨H3,I3,q3⟩=>?_))))
 exact wpAny_release ⟨σ,H3,I3,q3⟩
def b7z (te:TE) (g:TG):TS:=λD σ H=>te σ H λx H1=>g x σ H1 D.nx
theorem a6y {tg e:Expr} {te:TE} {g:TG} (he:PE X e te) (hg:PG X tg g) (hs:swapsWithSole [tg] e pos.line X.env=pure false:=by rfl) (hw:swappedStores [tg] e X.env=pure none:=by rfl)
  (h1:(assignEach [tg] X.env).map (·.2)=[assign tg X.env]:=by rfl):PS X (.Assign [tg] e pos) (b7z te g):=by
 intro pins s σ H D I h
 refine wpAny_Assign_stores (thn (he pins s σ H _ I h) λv s1 ⟨x,H1,I1,r1,q1⟩=>?_) hs hw
 rw [h1]
 exact thn (hg pins s1 σ H1 x v _ I1 r1 q1) λ_ s2 q=>q
theorem b3g {i:Nat} {x:Str} {e:Expr} {te:TE} {pos':Pos} (hN:X.N.Nodup) (hi:X.N[i]?=some x) (hx:Loc X.env.scope x) (he:PE X e te) (hs:swapsWith e (some (.Name x pos')) pos.line X.env=pure false:=by rfl) (hf:X.fn x=true\/X.env.scope.names.lookup x=some .local:=by first | exact .inl rfl | exact .inr rfl | assumption) :
  PS X (.Assign [.Name x pos'] e pos) (b7z te (a8a i)):=by
 intro pins s σ H D I h
 refine wpAny_Assign_Name (thn (he pins s σ H _ I h) λv s1 ⟨y,H1,I1,r1,q1⟩=>?_) hs
 exact U7 I1 hN hi hx r1 (λs2 I2=>⟨_,H1,I2,q1⟩) hf
end
structure It where
 go:Nat->Hp->Prop
 yld:Nat->Hp->V->Hp->Prop
 stop:Nat->Hp->Prop
def P2 (X:Cx) (pins:List (Addr×Obj)) (H:Hp) (b:Addr):Prop:=
 H b=none/\b≠X.env.locals/\b∉X.fs/\(b∈X.ex\/X.s₀.heap.objs.size<=b)/\(∀ x c,X.env.cells.lookup x=some c->c≠b)/\∀ p∈X.pn++pins,p.1≠b
theorem Inv.fpOk {X:Cx} {pins:List (Addr×Obj)} {σ:St} {H H':Hp} {s:Shared} {b:Addr} (I:Inv X pins σ H s) (hb:s.heap.objs.size<=b) (hn:H' b=none):P2 X pins H' b:=by
 refine ⟨hn,Nat.ne_of_gt (Nat.lt_of_lt_of_le I.lt hb),I.nofs hb,.inr (Nat.le_trans I.sz hb),λx c e z=>?_,λp hp z=>?_⟩
 ·obtain ⟨v,q⟩:=I.cell x c e
  exact absurd (Nat.lt_of_lt_of_le q.lt (by rw [z];exact hb)) (Nat.lt_irrefl _)
 ·exact absurd (Nat.lt_of_lt_of_le (Heap.lt_size (I.pin p hp).1) (by rw [z];exact hb)) (Nat.lt_irrefl _)
structure Turn (P:Program) (w:World) (K:PySem.W.Frag) (tg:Expr) (J:It) (fp:List Addr) (it:Addr) (tn:Nat->Heap->Prop):Prop where
 mem:it∈fp
 obj:∀ i h,tn i h->∀ b∈fp,∃ o,h.get? b=some o/\∀ v,o.data≠.cell v
 keep:∀ i h h',tn i h->(∀ b∈fp,∀ o,h.get? b=some o->h'.get? b=some o)->tn i h'
 item:∀ (X:Cx),X.prog=P->X.w=w->X.K=K->X.calm=true->∀ (i:Nat) (pins:List (Addr×Obj)) (s:Shared) (σ:St) (H:Hp) (E:Value->Shared->Prop),Inv X pins σ H s->(∀ b∈fp,P2 X pins H b)->tn i s.heap->J.go i H ->
  wpAny (model P w) X.A (pyNext (.ref it)) (λr s1=>∃ u,r=some u /\
   wpAny (model P w) X.A (letOwnedTupleGo tg (.ref it) u) (λ_ s2=>∃ x H',Inv X pins σ H' s2/\RelV x u/\J.yld i H x H'/\tn (i+1) s2.heap/\∀ b∈fp,H' b=none) E s1) E s
 done:∀ (X:Cx),X.prog=P->X.w=w->X.K=K->X.calm=true->∀ (i:Nat) (pins:List (Addr×Obj)) (s:Shared) (σ:St) (H:Hp) (E:Value->Shared->Prop),Inv X pins σ H s->(∀ b∈fp,P2 X pins H b)->tn i s.heap->J.stop i H ->
  wpAny (model P w) X.A (pyNext (.ref it)) (λr s1=>r=none/\Inv X pins σ H s1) E s
 self:∀ (A:Around) (i:Nat) (s:Shared) (Q:Value->Shared->Prop) (E:Value->Shared->Prop),tn i s.heap->Q (.ref it) s->wpAny (model P w) A (pyIter (.ref it)) Q E s
noncomputable abbrev TI:=St->Hp->(It->Hp->Prop)->Prop
def PIE (X:Cx) (pins:List (Addr×Obj)) (σ:St) (tg:Expr) (R:It->Hp->Prop) (itv:Value) (s2:Shared):Prop:=
 ∃ (it:Addr) (fp:List Addr) (tn:Nat->Heap->Prop) (J:It) (H':Hp),itv=.ref it/\Inv X pins σ H' s2/\Turn X.prog X.w X.K tg J fp it tn/\tn 0 s2.heap/\(∀ b∈fp,P2 X pins H' b)/\R J H'
def PI (X:Cx) (tg iter:Expr) (wi:TI):Prop:=
 ∀ (pins:List (Addr×Obj)) (s:Shared) (σ:St) (H:Hp) (R:It->Hp->Prop),Inv X pins σ H s->wi σ H R ->
  wpAny (model X.prog X.w) X.A (eval iter X.env) (λv s1=>wpAny (model X.prog X.w) X.A (pyIter v) (PIE X pins σ tg R) X.xe s1) X.xe s
theorem b4m {M:Model} {A:Around} {E:Value->Shared->Prop} {s:Shared} {tg:Expr} {it:Addr} {u:Value} {o:Obj} {n:String} {vs:Array Value} {Q:Unit->Shared->Prop} (ho:s.heap.get? it=some o) (hc:o.cls=.type n) (hd:o.data=.fields vs)
  (hn:["enumerate","zip","dict_itemiterator","dict_reverseitemiterator","odict_iterator","itertools.zip_longest","itertools.pairwise"].contains n=false) (hQ:Q () s):wpAny M A (letOwnedTupleGo tg (.ref it) u) Q E s:=by
 unfold letOwnedTupleGo
 cases tg <;> first
  | exact wpAny_pure hQ
  | (cases u <;> first
    | exact wpAny_pure hQ
    | (refine wpAny_bind (wpAny_load ho ?_);rw [hc,hd];show wpAny M A (if (["enumerate","zip","dict_itemiterator","dict_reverseitemiterator","odict_iterator","itertools.zip_longest","itertools.pairwise"].contains n&&vs[0]?==some (rawInt _))=true then _ else _) Q E s;rw [if_neg (by intro h;rw [hn,Bool.false_and] at h;cases h)];exact wpAny_pure hQ))
noncomputable def Itl (K:PySem.W.Frag) (a:Addr):It:=
 ⟨λi H=>∃ xs x,SqL K H a xs/\xs[i]?=some x,λi H x H'=>H'=H/\∀ xs,SqL K H a xs->xs[i]?=some x,λi H=>∃ xs,SqL K H a xs/\xs.length<=i⟩
noncomputable def Itt (K:PySem.W.Frag) (a:Addr):It:=
 ⟨λi H=>∃ xs x,SqT K H a xs/\xs[i]?=some x,λi H x H'=>H'=H/\∀ xs,SqT K H a xs->xs[i]?=some x,λi H=>∃ xs,SqT K H a xs/\xs.length<=i⟩
noncomputable def Itr (lo:Int) (n:Nat):It:=⟨λi _=>i<n,λi H x H'=>H'=H/\x=.int (lo+i),λi _=>n<=i⟩
theorem b05 {P:Program} {w:World} {K:PySem.W.Frag} {tg:Expr} (a it:Addr):Turn P w K tg (Itl K a) [it] it (λi h=>h.IsListIter it a i) where
 mem:=by simp
 obj:=λi h st b hb=>by
  have e:b=it:=by simpa using hb
  subst e
  obtain ⟨o,e,c,d⟩:=st
  exact ⟨o,e,λv z=>by rw [d] at z;cases z⟩
 keep:=λi h h' st k=>st.at λo e=>k it (by simp) o e
 item:=by
  intro X hP hw hK hc i pins s σ H E I hf st hg
  subst hP hw hK
  obtain ⟨xs,x,hq,hx⟩:=hg
  obtain ⟨its,rv,p,hz⟩:=I.list hq
  obtain ⟨u,hu,ru⟩:=rv.get hx
  obtain ⟨f0,f1,f2,f3,f4,f5⟩:=hf it (by simp)
  refine wpAny_pyNext_list_item st p.isList (x:=u) (by simpa using hu) λh' st' sb=>?_
  have I1:Inv X pins σ H { s with heap:=h' }:=I.turned (t':=s.toks) (λb o hb e=>(sb.2 b hb).trans e) f0 f1 f3 f4 f5
  obtain ⟨o,e,c,d⟩:=id st'
  exact ⟨u,rfl,b4m (s:={ s with heap:=h' }) e c d (by decide) ⟨x,H,I1,ru,⟨rfl,λys hy=>by rw [I.list_inj hy hq];exact hx⟩,st',λb hb=>(hf b hb).1⟩⟩
 done:=by
  intro X hP hw hK hc i pins s σ H E I hf st hg
  subst hP hw hK
  obtain ⟨xs,hq,hx⟩:=hg
  obtain ⟨its,rv,p,hz⟩:=I.list hq
  obtain ⟨f0,f1,f2,f3,f4,f5⟩:=hf it (by simp)
  have hl:=rv.length
  exact wpAny_pyNext_list_end (I.ok.hd hc) st p.isList (by simp;omega) λh' eb=>⟨rfl,I.turned (t':=s.toks) (λb o hb e=>eb b o hb e) f0 f1 f3 f4 f5⟩
 self:=λ_ _ _ _ _ st h=>wpAny_pyIter_listiter st h
theorem a7r {P:Program} {w:World} {K:PySem.W.Frag} {tg:Expr} (a it:Addr):Turn P w K tg (Itt K a) [it] it (λi h=>h.IsTupleIter it a i) where
 mem:=by simp
 obj:=λi h st b hb=>by
  have e:b=it:=by simpa using hb
  subst e
  obtain ⟨o,e,c,d⟩:=st
  exact ⟨o,e,λv z=>by rw [d] at z;cases z⟩
 keep:=λi h h' st k=>st.at λo e=>k it (by simp) o e
 item:=by
  intro X hP hw hK hc i pins s σ H E I hf st hg
  subst hP hw hK
  obtain ⟨xs,x,hq,hx⟩:=hg
  obtain ⟨its,rv,p,hz⟩:=I.tuple hq
  obtain ⟨u,hu,ru⟩:=rv.get hx
  obtain ⟨f0,f1,f2,f3,f4,f5⟩:=hf it (by simp)
  refine wpAny_pyNext_tuple_item st (show s.heap.IsTuple a its.toArray from p) (x:=u) (by simpa using hu) λh' st' sb=>?_
  have I1:Inv X pins σ H { s with heap:=h' }:=I.turned (t':=s.toks) (λb o hb e=>(sb.2 b hb).trans e) f0 f1 f3 f4 f5
  obtain ⟨o,e,c,d⟩:=id st'
  exact ⟨u,rfl,b4m (s:={ s with heap:=h' }) e c d (by decide) ⟨x,H,I1,ru,⟨rfl,λys hy=>by rw [I.tuple_inj hy hq];exact hx⟩,st',λb hb=>(hf b hb).1⟩⟩
 done:=by
  intro X hP hw hK hc i pins s σ H E I hf st hg
  subst hP hw hK
  obtain ⟨xs,hq,hx⟩:=hg
  obtain ⟨its,rv,p,hz⟩:=I.tuple hq
  obtain ⟨f0,f1,f2,f3,f4,f5⟩:=hf it (by simp)
  have hl:=rv.length
  exact wpAny_pyNext_tuple_end (I.ok.hd hc) st (show s.heap.IsTuple a its.toArray from p) (by simp;omega) λh' eb=>⟨rfl,I.turned (t':=s.toks) (λb o hb e=>eb b o hb e) f0 f1 f3 f4 f5⟩
 self:=λ_ _ _ _ _ st h=>wpAny_pyIter_tupleiter st h
theorem a7a {P:Program} {w:World} {K:PySem.W.Frag} {tg:Expr} (it:Addr) (lo:Int) (n:Nat):Turn P w K tg (Itr lo n) [it] it (λi h=>IsRangeIter h it (lo+(i:Nat) * 1) ((n:Int)-(i:Nat)) 1) where
 mem:=by simp
 obj:=λi h st b hb=>by
  have e:b=it:=by simpa using hb
  subst e
  exact ⟨_,st,λv z=>by
   have z':Data.fields _=Data.cell v:=z
   cases z'⟩
 keep:=λi h h' st k=>k it (by simp) _ st
 item:=by
  intro X hP hw hK hc i pins s σ H E I hf st hg
  subst hP hw hK
  obtain ⟨f0,f1,f2,f3,f4,f5⟩:=hf it (by simp)
  have W:=Walks.range (prog:=X.prog) (w:=X.w) (I.ok.hd hc) it lo 1 n
  refine W.item i s _ _ hg st λv h' tk hv st' kk=>?_
  obtain ⟨t,rfl⟩:=hv
  have I1:Inv X pins σ H { s with heap:=h',toks:=tk }:=I.turned (λb o hb e=>kk b o (by simpa using hb) e) f0 f1 f3 f4 f5
  refine ⟨_,rfl,b4m (s:={ s with heap:=h',toks:=tk }) (n:="range_iterator") st' rfl rfl (by decide) ⟨.int (lo+i),H,I1,⟨t,?_⟩,⟨rfl,rfl⟩,st',λb hb=>(hf b hb).1⟩⟩
  rw [Int.mul_one]
 done:=by
  intro X hP hw hK hc i pins s σ H E I hf st hg
  subst hP hw hK
  obtain ⟨f0,f1,f2,f3,f4,f5⟩:=hf it (by simp)
  exact wpAny_pyNext_range_end (I.ok.hd hc) st (by have:n<=i:=hg;omega) λh' eb=>⟨rfl,I.turned (t':=s.toks) (λb o hb e=>eb b o hb e) f0 f1 f3 f4 f5⟩
 self:=λ_ _ _ _ _ st h=>wpAny_pyIter_rangeiter st h
section
variable {X:Cx} {tg:Expr}
theorem b41 {pins:List (Addr×Obj)} {σ:St} {H:Hp} {s:Shared} {R:It->Hp->Prop} {E:Value->Shared->Prop} {lo hi:Int} {t u v:Tok} {tk:Nat} (I:Inv X pins σ H s) (h1:-(2 ^ 62)<=lo) (h2:lo<2 ^ 62) (h3:-(2 ^ 62)<=hi) (h4:hi<2 ^ 62)
  (q:R (Itr lo (hi-lo).toNat) H):wpAny (model X.prog X.w) X.A (pyIter (.ref s.heap.objs.size)) (PIE X pins σ tg R) E { s with heap:=s.heap.push { cls:=.type "range",data:=.fields #[.int lo t,.int hi u,.int 1 v] },toks:=tk }:=by
 refine wpAny_pyIter_range (IsRange.new ..) (small_one h1 h2 h3 h4) ?_
 have I1:Inv X pins σ H { s with heap:=s.heap.push { cls:=.type "range",data:=.fields #[.int lo t,.int hi u,.int 1 v] },toks:=tk }:=I.kept λb o e=>Heap.get?_push_of_some _ e
 refine ⟨(s.heap.push { cls:=.type "range",data:=.fields #[.int lo t,.int hi u,.int 1 v] }).objs.size,[(s.heap.push { cls:=.type "range",data:=.fields #[.int lo t,.int hi u,.int 1 v] }).objs.size],_,_,H,rfl,
  I1.kept (t':=tk) λb o e=>Heap.get?_push_of_some _ e,a7a _ lo (hi-lo).toNat,?_,λb hb=>?_,q⟩
 ·have e1:lo+((0:Nat):Int) * 1=lo:=by simp
  have e2:(((hi-lo).toNat:Nat):Int)-((0:Nat):Int)=Builtin.Range.rangeSize lo hi 1:=by rw [rangeSize_one];split <;> omega
  show IsRangeIter _ _ (lo+((0:Nat):Int) * 1) ((((hi-lo).toNat:Nat):Int)-((0:Nat):Int)) 1
  rw [e1,e2]
  exact Heap.get?_push_size _ rfl
 ·have e:b=(s.heap.push { cls:=.type "range",data:=.fields #[.int lo t,.int hi u,.int 1 v] }).objs.size:=by simpa using hb
  subst e
  exact I1.fpOk (Nat.le_refl _) (I1.hok.fresh (Nat.le_refl _))
def c7m (ta:TA):TI:=λσ H R=>ta σ H λvs H1=>∃ j:Int,vs=[.int j]/\-(2 ^ 62)<=j/\j<2 ^ 62/\R (Itr 0 j.toNat) H1
theorem b0g {a:Expr} {ta:TA} {p pos:Pos} (hg:Gl X "range") (hm:X.mg "range" = none) (ha:PA X [a] ta) (hs:starEach [a] X.env=[(false,eval a X.env)]:=by rfl):PI X tg (.Call (.Name "range" p) [a] [] pos) (c7m ta):=by
 intro pins s σ H R I h
 refine Call_ (K9 I hg hm boot_range (PyProof.Rows.callWith_type1 (thn (ha pos pins s σ H _ I h) λus s1 ⟨vs,H1,I1,r1,q1⟩=>?_) hs rfl))
 obtain ⟨j,e,q1,q2,q⟩:=q1
 subst e
 cases r1 with
 | cons r rr=>
  cases rr
  obtain ⟨t,rfl⟩:=r
  exact call_range_1 (b41 I1 (by omega) (by omega) q1 q2 (by simpa using q))
def d1i (wi:TI) (g:TG) (tb:TS):TS:=λD σ H=>wi σ H λJ H1=>∃ W:Nat->Nat->St->Hp->Prop,(∃ m,W 0 m σ H1)/\∀ i m σ H,W i m σ H ->
 (J.stop i H/\D.nx σ H)\/(J.go i H/\∃ N:St->Hp->Prop,(∀ σ' H',N σ' H'->∃ m',m'<m/\W (i+1) m' σ' H')/\∀ x H',J.yld i H x H'->g x σ H' λσ2 H2=>tb { D with nx:=N,ct:=N,bk:=D.nx } σ2 H2)
noncomputable def M1 (fp:List Addr) (h:Heap):List (Addr×Obj):=fp.filterMap λb=>(h.get? b).map λo=>(b,o)
theorem w6 {fp:List Addr} {h:Heap} {b:Addr} {o:Obj} (hb:b∈fp) (e:h.get? b=some o):(b,o)∈M1 fp h:=List.mem_filterMap.mpr ⟨b,hb,by rw [e];rfl⟩
theorem b15 {fp:List Addr} {h:Heap} {p:Addr×Obj} (hp:p∈M1 fp h):p.1∈fp/\h.get? p.1=some p.2:=by
 obtain ⟨b,hb,e⟩:=List.mem_filterMap.mp hp
 cases q:h.get? b with
 | none=>rw [q] at e;cases e
 | some o=>
  rw [q] at e
  have e':(b,o)=p:=Option.some.inj e
  subst e'
  exact ⟨hb,q⟩
theorem Inv.pinned {pins:List (Addr×Obj)} {σ:St} {H:Hp} {s:Shared} {fp:List Addr} (I:Inv X pins σ H s) (hf:∀ b∈fp,P2 X pins H b) (ho:∀ b∈fp,∃ o,s.heap.get? b=some o/\∀ v,o.data≠.cell v):Inv X (pins++M1 fp s.heap) σ H s:=
 I.pins_of λp hp=>(List.mem_append.mp hp).elim (λz=>I.pin p (List.mem_append_right _ z)) λz=>by
  obtain ⟨hb,e⟩:=b15 z
  obtain ⟨f0,f1,f2,_⟩:=hf p.1 hb
  obtain ⟨o,e',d⟩:=ho p.1 hb
  rw [e] at e';cases e'
  exact ⟨e,f0,f1,f2,d⟩
theorem Inv.unpinned {pins pl:List (Addr×Obj)} {σ:St} {H:Hp} {s:Shared} (I:Inv X (pins++pl) σ H s):Inv X pins σ H s:=I.pins_of λp hp=>I.pin p (List.mem_append_right _ (List.mem_append_left _ hp))
theorem c3t {iter:Expr} {body:List Stmt} {wi:TI} {g:TG} {tb:TS} {pos:Pos} (hp:PassesOwn (model X.prog X.w) X.A X.env X.xe) (hc:X.calm=true) (hi:PI X tg iter wi) (hg:PG X tg g) (hb:PSs X body tb)
  (hs:∀ x,foldedSetIterable iter X.env x=pure x:=by intro _;rfl):PS X (.For tg iter body [] pos) (d1i wi g tb):=by
 intro pins s σ H D I h
 refine wpAny_For (thn (hi pins s σ H _ I h) λv s1 h1=>thn h1 λitv s2 h2=>?_) hs
 obtain ⟨it,fp,tn,J,H2,e,I2,T,st2,f2,W,⟨m0,w0⟩,turn⟩:=h2
 subst e
 have stat:∀ {H':Hp},(∀ b∈fp,H' b=none)->∀ b∈fp,P2 X pins H' b:=λhn b hb=>⟨hn b hb,(f2 b hb).2⟩
 refine codeAny_forLoop_any (λn s'=>∃ i σ' H',Inv X pins σ' H' s'/\tn i s'.heap/\(∀ b∈fp,H' b=none)/\W i n σ' H') ?_ m0 ⟨0,σ,H2,I2,st2,λb hb=>(f2 b hb).1,w0⟩
 rintro n s3 ⟨i,σ3,H3,I3,st3,fr3,w3⟩
 rcases turn i n σ3 H3 w3 with ⟨stop,qn⟩ | ⟨go,N,hN,step⟩
 ·refine wpAny_passesOwn hp (thn (T.done X rfl rfl rfl hc i pins s3 σ3 H3 X.xe I3 (stat fr3) st3 stop) λr s4 ⟨hr,I4⟩=>?_)
  subst hr
  exact wpAny_execs_nil ⟨σ3,H3,I4,qn⟩
 ·refine wpAny_passesOwn hp (thn (T.item X rfl rfl rfl hc i pins s3 σ3 H3 X.xe I3 (stat fr3) st3 go) λr s4 ⟨u,hr,h4⟩=>?_)
  subst hr
  refine wpAny_passesOwn hp (thn h4 λ_ s5 ⟨x,H5,I5,r5,y5,st5,fr5⟩=>?_)
  have I5':=I5.pinned (stat fr5) (T.obj _ _ st5)
  refine wpAny_passesOwn hp (thn (hg _ s5 σ3 H5 x u _ I5' r5 (step x H5 y5)) λ_ s6 ⟨σ6,H6,I6,q6⟩=>?_)
  refine wpAny_passesOwn hp (thn (hb _ s6 σ6 H6 _ I6 q6) λf s7 q7=>?_)
  have again:∀ {σ7:St} {H7:Hp},Inv X (pins++M1 fp s5.heap) σ7 H7 s7->N σ7 H7->∃ m,m<n/\∃ i σ' H',Inv X pins σ' H' s7/\tn i s7.heap/\(∀ b∈fp,H' b=none)/\W i m σ' H':=λ{σ7 H7} I7 n7=>by
   obtain ⟨m',hm,w7⟩:=hN σ7 H7 n7
   refine ⟨m',hm,i+1,σ7,H7,I7.unpinned,T.keep _ _ _ st5 λb hb o e=>(I7.pin (b,o) (List.mem_append_right _ (List.mem_append_right _ (w6 hb e)))).1,λb hb=>?_,w7⟩
   obtain ⟨o,e,d⟩:=T.obj _ _ st5 b hb
   exact (I7.pin (b,o) (List.mem_append_right _ (List.mem_append_right _ (w6 hb e)))).2.1
  cases f with
  | next=>obtain ⟨σ7,H7,I7,n7⟩:=q7;exact again I7 n7
  | cont=>obtain ⟨σ7,H7,I7,n7⟩:=q7;exact again I7 n7
  | brk=>obtain ⟨σ7,H7,I7,q7⟩:=q7;exact ⟨σ7,H7,I7.unpinned,q7⟩
  | ret v=>obtain ⟨x7,σ7,H7,I7,r7,q7⟩:=q7;exact ⟨x7,σ7,H7,I7.unpinned,r7,q7⟩
end
noncomputable abbrev R2:=V->V->Hp->VK->Prop
def OpR (X:Cx) (f:Value->Value->Sem Value) (r:R2):Prop:=
 ∀ (pins:List (Addr×Obj)) (s:Shared) (σ:St) (H:Hp) (x y:V) (v u:Value) (Q:VK),Inv X pins σ H s->RelV x v->RelV y u->r x y H Q ->
  wpAny (model X.prog X.w) X.A (f v u) (EP X pins σ Q) X.xe s
def UnR (X:Cx) (f:Value->Sem Value) (r:V->Hp->VK->Prop):Prop:=
 ∀ (pins:List (Addr×Obj)) (s:Shared) (σ:St) (H:Hp) (x:V) (v:Value) (Q:VK),Inv X pins σ H s->RelV x v->r x H Q ->
  wpAny (model X.prog X.w) X.A (f v) (EP X pins σ Q) X.xe s
def j3 (X:Cx) (f:Value) (r:List V->Hp->VK->Prop):Prop:=
 ∀ (pins:List (Addr×Obj)) (s:Shared) (σ:St) (H:Hp) (xs:List V) (us:List Value) (Q:VK),Inv X pins σ H s->Vals xs us->r xs H Q ->
  wpAny (model X.prog X.w) X.A (call f us) (EP X pins σ Q) X.xe s
def d1u (X:Cx) (r:V->Hp->(Bool->Hp->Prop)->Prop):Prop:=
 ∀ (pins:List (Addr×Obj)) (s:Shared) (σ:St) (H:Hp) (x:V) (v:Value) (Q:Bool->Hp->Prop),Inv X pins σ H s->RelV x v->r x H Q ->
  wpAny (model X.prog X.w) X.A (truthy v) (TP X pins σ Q) X.xe s
def tOp (r:R2) (ta tb:TE):TE:=λσ H Q=>ta σ H λx H1=>tb σ H1 λy H2=>r x y H2 Q
def tUn (r:V->Hp->VK->Prop) (ta:TE):TE:=λσ H Q=>ta σ H λx H1=>r x H1 Q
def rI (C:Int->Int->Prop) (g:Int->Int->V):R2:=λx y H Q=>∃ i j,x=.int i/\y=.int j/\C i j/\Q (g i j) H
def rI0 (g:Int->Int->V):R2:=λx y H Q=>∃ i j,x=.int i/\y=.int j/\Q (g i j) H
def rU (g:Int->V):V->Hp->VK->Prop:=λx H Q=>∃ i,x=.int i/\Q (g i) H
section
variable {X:Cx} {a b c:Expr} {ta tb tc:TE} {pos:Pos}
theorem c2o (ha:PE X a ta) (hb:PE X b tb) {pins:List (Addr×Obj)} {s:Shared} {σ:St} {H:Hp} {R:V->V->Hp->Prop} (I:Inv X pins σ H s)
  (h:ta σ H λx H1=>tb σ H1 λy H2=>R x y H2) {Q:Value->Shared->Prop} {f:Value->Value->Sem Value}
  (hf:∀ v u s2 x y H2,Inv X pins σ H2 s2->RelV x v->RelV y u->R x y H2->wpAny (model X.prog X.w) X.A (f v u) Q X.xe s2) :
  wpAny (model X.prog X.w) X.A (eval a X.env) (λv s₁=>wpAny (model X.prog X.w) X.A (eval b X.env) (λu s₂=>wpAny (model X.prog X.w) X.A (f v u) Q X.xe s₂) X.xe s₁) X.xe s:=by
 refine thn (ha pins s σ H _ I h) λv s1 ⟨x,H1,I1,r1,q1⟩=>?_
 refine thn (hb pins s1 σ H1 _ I1 q1) λu s2 ⟨y,H2,I2,r2,q2⟩=>?_
 exact hf v u s2 x y H2 I2 r1 r2 q2
theorem c9v {op:Operator} {r:R2} (ho:OpR X (binaryOp op) r) (ha:PE X a ta) (hb:PE X b tb):PE X (.BinOp a op b pos) (tOp r ta tb):=by
 intro pins s σ H Q I h
 exact wpAny_BinOp (c2o ha hb I h λv u s2 x y H2 I2 rx ry q=>ho pins s2 σ H2 x y v u Q I2 rx ry q)
theorem c68 {op:UnaryOp} {r:V->Hp->VK->Prop} (ho:UnR X (unaryOp op) r) (ha:PE X a ta):PE X (.UnaryOp op a pos) (tUn r ta):=by
 intro pins s σ H Q I h
 exact UnaryOp_ (thn (ha pins s σ H _ I h) λv s1 ⟨x,H1,I1,r1,q1⟩=>ho pins s1 σ H1 x v Q I1 r1 q1)
theorem opI {f:Value->Value->Sem Value} {C:Int->Int->Prop} {g:Int->Int->Int}
  (rule:∀ (i j:Int) (t u:Tok) (s:Shared) (Q:Value->Shared->Prop) (E:Value->Shared->Prop),C i j->Q (.int (g i j) s.toks) { s with toks:=s.toks+1 }->wpAny (model X.prog X.w) X.A (f (.int i t) (.int j u)) Q E s) :
  OpR X f (rI C λi j=>.int (g i j)):=by
 intro pins s σ H x y v u Q I rx ry h
 obtain ⟨i,j,rfl,rfl,hc,q⟩:=h
 obtain ⟨t,rfl⟩:=rx
 obtain ⟨t',rfl⟩:=ry
 exact rule i j t t' s _ _ hc ⟨.int (g i j),H,I.tok _,⟨_,rfl⟩,q⟩
theorem d00 {f:Value->Value->Sem Value} {g:Int->Int->Int}
  (rule:∀ (i j:Int) (t u:Tok) (s:Shared) (Q:Value->Shared->Prop) (E:Value->Shared->Prop),Q (.int (g i j) s.toks) { s with toks:=s.toks+1 }->wpAny (model X.prog X.w) X.A (f (.int i t) (.int j u)) Q E s) :
  OpR X f (rI0 λi j=>.int (g i j)):=by
 intro pins s σ H x y v u Q I rx ry h
 obtain ⟨i,j,rfl,rfl,q⟩:=h
 obtain ⟨t,rfl⟩:=rx
 obtain ⟨t',rfl⟩:=ry
 exact rule i j t t' s _ _ ⟨.int (g i j),H,I.tok _,⟨_,rfl⟩,q⟩
theorem b8l {f:Value->Value->Sem Value} {g:Int->Int->Bool}
  (rule:∀ (i j:Int) (t u:Tok) (s:Shared) (Q:Value->Shared->Prop) (E:Value->Shared->Prop),Q (.bool (g i j)) s->wpAny (model X.prog X.w) X.A (f (.int i t) (.int j u)) Q E s) :
  OpR X f (rI0 λi j=>.bl (g i j)):=by
 intro pins s σ H x y v u Q I rx ry h
 obtain ⟨i,j,rfl,rfl,q⟩:=h
 obtain ⟨t,rfl⟩:=rx
 obtain ⟨t',rfl⟩:=ry
 exact rule i j t t' s _ _ ⟨.bl (g i j),H,I,rfl,q⟩
def b4e (i j:Int):Prop:=0<j/\j<1073741824
def b98 (i j:Int):Prop:=0<=j/\j<=1000000/\i.natAbs<2 ^ 64
def CMul (i j:Int):Prop:=(-(2 ^ 64)<i/\i<2 ^ 64)\/(-(2 ^ 64)<j/\j<2 ^ 64)
theorem CMul.ok {i j:Int} (h:CMul i j):IntMulOk i j:=by
 rcases h with ⟨h1,h2⟩ | ⟨h1,h2⟩
 ·exact .of_left (intBits_le_64 h1 h2)
 ·exact .of_right (intBits_le_64 h1 h2)
theorem c6b:OpR X (binaryOp .Add) (rI0 λi j=>.int (i+j)):=d00 λ_ _ _ _ _ _ _ q=>add_int q
theorem c2q:OpR X (binaryOp .Sub) (rI0 λi j=>.int (i-j)):=d00 λ_ _ _ _ _ _ _ q=>sub_int q
theorem c6e:OpR X (binaryOp .Mult) (rI CMul λi j=>.int (i * j)):=opI λ_ _ _ _ _ _ _ hc q=>mul_int q hc.ok
theorem c0a:OpR X (binaryOp .FloorDiv) (rI b4e λi j=>.int (i / j)):=opI λi j _ _ _ _ _ hc q=>by
 have h1:(0:Int)<j:=hc.1
 have h2:j<1073741824:=hc.2
 exact floordiv_int (by omega) (by rw [Int.fdiv_eq_ediv_of_nonneg i (by omega)];exact q) (.inl (PyProof.noPylong_small (by omega)))
theorem c41:OpR X (binaryOp .Mod) (rI (λ_ j=>0<j) λi j=>.int (i % j)):=opI λi j _ _ _ _ _ hc q=>by
 have h1:(0:Int)<j:=hc
 exact mod_int' (by omega) (by rw [Int.fmod_eq_emod_of_nonneg i (by omega)];exact q)
theorem c3j:OpR X (binaryOp .Pow) (rI b98 λi j=>.int (i ^ j.toNat)):=opI λ_ _ _ _ _ _ _ hc q=>pow_int_small hc.1 hc.2.1 hc.2.2 q
theorem unI {f:Value->Sem Value} {g:Int->Int}
  (rule:∀ (i:Int) (t:Tok) (s:Shared) (Q:Value->Shared->Prop) (E:Value->Shared->Prop),Q (.int (g i) s.toks) { s with toks:=s.toks+1 }->wpAny (model X.prog X.w) X.A (f (.int i t)) Q E s) :
  UnR X f (rU λi=>.int (g i)):=by
 intro pins s σ H x v Q I rx h
 obtain ⟨i,rfl,q⟩:=h
 obtain ⟨t,rfl⟩:=rx
 exact rule i t s _ _ ⟨.int (g i),H,I.tok _,⟨_,rfl⟩,q⟩
theorem c53:UnR X (unaryOp .USub) (rU λi=>.int (-i)):=unI λ_ _ _ _ _ q=>neg_int q
end
noncomputable def d0v:V->V->Bool
 | .non,.non=>true | .non,.int _=>true | .int _,.non=>true | .non,.bl _=>true | .bl _,.non=>true | .non,.str _=>true | .str _,.non=>true
 | .int _,.int _=>true | .bl _,.bl _=>true | .str _,.str _=>true | .byt _,.byt _=>true
 | .int _,.str _=>true | .str _,.int _=>true | .bl _,.str _=>true | .str _,.bl _=>true
 | _,_=>false
def rEq:R2:=λx y H Q=>d0v x y=true/\Q (.bl (decide (x=y))) H
def rNe:R2:=λx y H Q=>d0v x y=true/\Q (.bl (!decide (x=y))) H
theorem a9o {i j:Int}:decide (V.int i=V.int j)=(i==j):=by
 rw [Bool.eq_iff_iff]
 simp
theorem b60 {i j:Bool}:decide (V.bl i=V.bl j)=(i==j):=by
 rw [Bool.eq_iff_iff]
 simp
theorem a8p {i j:Str}:decide (V.str i=V.str j)=(i==j):=by
 rw [Bool.eq_iff_iff]
 simp
theorem a9m {i j:Array UInt8}:decide (V.byt i=V.byt j)=(i.toList==j.toList):=by
 rw [Bool.eq_iff_iff]
 cases i
 cases j
 simp
section
variable {X:Cx} {a b c:Expr} {ta tb tc:TE} {pos:Pos}
theorem f8 {pins:List (Addr×Obj)} {σ:St} {H:Hp} {s:Shared} {Q:VK} {k k':Bool} (I:Inv X pins σ H s) (q:Q (.bl k) H) (e:k=k'):EP X pins σ Q (.bool k') s:=by
 subst e
 exact ⟨.bl k,H,I,rfl,q⟩
theorem c81:OpR X (compareOp .Eq) rEq:=by
 intro pins s σ H x y v u Q I rx ry h
 obtain ⟨hs,q⟩:=h
 cases x with
 | non=>
  cases rx
  cases y with
  | non=>cases ry;exact PySem.EqNone.eq_none_none (f8 I q (by simp))
  | bl j=>cases ry;exact PySem.EqNone.eq_none_bool (f8 I q (by simp))
  | int j=>obtain ⟨t',rfl⟩:=ry;exact PySem.EqNone.eq_none_int (f8 I q (by simp))
  | str j=>obtain ⟨t',rfl⟩:=ry;exact PySem.EqNone.eq_none_str (f8 I q (by simp))
  | _=>exact absurd (show false=true from hs) Bool.false_ne_true
 | bl i=>
  cases rx
  cases y with
  | non=>cases ry;exact PySem.EqNone.eq_bool_none (f8 I q (by simp))
  | bl j=>cases ry;exact eq_bool (f8 I q b60)
  | str j=>obtain ⟨t',rfl⟩:=ry;exact PySem.EqMixed.eq_bool_str (f8 I q (by simp))
  | _=>exact absurd (show false=true from hs) Bool.false_ne_true
 | int i=>
  obtain ⟨t,rfl⟩:=rx
  cases y with
  | non=>cases ry;exact PySem.EqNone.eq_int_none (f8 I q (by simp))
  | int j=>obtain ⟨t',rfl⟩:=ry;exact eq_int (f8 I q a9o)
  | str j=>obtain ⟨t',rfl⟩:=ry;exact PySem.EqMixed.eq_int_str (f8 I q (by simp))
  | _=>exact absurd (show false=true from hs) Bool.false_ne_true
 | str i=>
  obtain ⟨t,rfl⟩:=rx
  cases y with
  | non=>cases ry;exact PySem.EqNone.eq_str_none (f8 I q (by simp))
  | bl j=>cases ry;exact PySem.EqMixed.eq_str_bool (f8 I q (by simp))
  | int j=>obtain ⟨t',rfl⟩:=ry;exact PySem.EqMixed.eq_str_int (f8 I q (by simp))
  | str j=>obtain ⟨t',rfl⟩:=ry;exact eq_str (f8 I q a8p)
  | _=>exact absurd (show false=true from hs) Bool.false_ne_true
 | byt i=>
  obtain ⟨t,rfl⟩:=rx
  cases y with
  | byt j=>obtain ⟨t',rfl⟩:=ry;exact PySem.W.eq_bytes (f8 I q a9m)
  | _=>exact absurd (show false=true from hs) Bool.false_ne_true
 | _=>cases y <;> exact absurd (show false=true from hs) Bool.false_ne_true
theorem c8w:OpR X (compareOp .NotEq) rNe:=by
 intro pins s σ H x y v u Q I rx ry h
 obtain ⟨hs,q⟩:=h
 cases x with
 | non=>
  cases rx
  cases y with
  | non=>cases ry;exact PySem.EqNone.ne_none_none (f8 I q (by simp))
  | bl j=>cases ry;exact PySem.EqNone.ne_none_bool (f8 I q (by simp))
  | int j=>obtain ⟨t',rfl⟩:=ry;exact PySem.EqNone.ne_none_int (f8 I q (by simp))
  | str j=>obtain ⟨t',rfl⟩:=ry;exact PySem.EqNone.ne_none_str (f8 I q (by simp))
  | _=>exact absurd (show false=true from hs) Bool.false_ne_true
 | bl i=>
  cases rx
  cases y with
  | non=>cases ry;exact PySem.EqNone.ne_bool_none (f8 I q (by simp))
  | bl j=>cases ry;exact ne_bool (f8 I q (congrArg not b60))
  | str j=>obtain ⟨t',rfl⟩:=ry;exact PySem.EqMixed.ne_bool_str (f8 I q (by simp))
  | _=>exact absurd (show false=true from hs) Bool.false_ne_true
 | int i=>
  obtain ⟨t,rfl⟩:=rx
  cases y with
  | non=>cases ry;exact PySem.EqNone.ne_int_none (f8 I q (by simp))
  | int j=>obtain ⟨t',rfl⟩:=ry;exact ne_int (f8 I q (congrArg not a9o))
  | str j=>obtain ⟨t',rfl⟩:=ry;exact PySem.EqMixed.ne_int_str (f8 I q (by simp))
  | _=>exact absurd (show false=true from hs) Bool.false_ne_true
 | str i=>
  obtain ⟨t,rfl⟩:=rx
  cases y with
  | non=>cases ry;exact PySem.EqNone.ne_str_none (f8 I q (by simp))
  | bl j=>cases ry;exact PySem.EqMixed.ne_str_bool (f8 I q (by simp))
  | int j=>obtain ⟨t',rfl⟩:=ry;exact PySem.EqMixed.ne_str_int (f8 I q (by simp))
  | str j=>obtain ⟨t',rfl⟩:=ry;exact ne_str (f8 I q (congrArg not a8p))
  | _=>exact absurd (show false=true from hs) Bool.false_ne_true
 | byt i=>
  obtain ⟨t,rfl⟩:=rx
  cases y with
  | byt j=>obtain ⟨t',rfl⟩:=ry;exact PySem.W.ne_bytes (f8 I q (congrArg not a9m))
  | _=>exact absurd (show false=true from hs) Bool.false_ne_true
 | _=>cases y <;> exact absurd (show false=true from hs) Bool.false_ne_true
theorem d0b:OpR X (compareOp .Lt) (rI0 λi j=>.bl (decide (i<j))):=b8l λ_ _ _ _ _ _ _ q=>lt_int q
theorem c7j:OpR X (compareOp .LtE) (rI0 λi j=>.bl (decide (i<=j))):=b8l λ_ _ _ _ _ _ _ q=>le_int q
theorem d07:OpR X (compareOp .Gt) (rI0 λi j=>.bl (decide (j<i))):=b8l λ_ _ _ _ _ _ _ q=>gt_int q
theorem c9k:OpR X (compareOp .GtE) (rI0 λi j=>.bl (decide (j<=i))):=b8l λ_ _ _ _ _ _ _ q=>ge_int q
theorem b9r {op:CmpOp} {r:R2} (ho:OpR X (compareOp op) r) (ha:PE X a ta) (hb:PE X b tb) (hm:behindInMarks op b=false):PE X (.Compare a [op] [b] pos) (tOp r ta tb):=by
 intro pins s σ H Q I h
 exact wpAny_Compare1 (c2o ha hb I h λv u s2 x y H2 I2 rx ry q=>ho pins s2 σ H2 x y v u Q I2 rx ry q) hm
def c76 (t:TE):TT:=λσ H Q=>t σ H λx H'=>∃ k,x=.bl k/\Q k H'
theorem c0f {op:CmpOp} {r:R2} (ho:OpR X (compareOp op) r) (ha:PE X a ta) (hb:PE X b tb) (hm:behindInMarks op b=false):PT X (.Compare a [op] [b] pos) (c76 (tOp r ta tb)):=by
 intro pins s σ H Q I h
 refine wpAny_isTrue_Compare1 (thn (ha pins s σ H _ I h) λv s1 ⟨x,H1,I1,r1,q1⟩=>thn (hb pins s1 σ H1 _ I1 q1) λu s2 ⟨y,H2,I2,r2,q2⟩=>
  thn (ho pins s2 σ H2 x y v u _ I2 r1 r2 q2) λc s3 ⟨z,H3,I3,r3,k,e,q3⟩=>?_) hm
 subst e
 cases r3
 exact wpAny_truthy_bool ⟨H3,I3,q3⟩
def c4x (r r':R2) (ta tb tc:TE):TE:=λσ H Q=>ta σ H λx H1=>tb σ H1 λy H2=>r x y H2 λz H3=>∃ k,z=.bl k /\
 (if k=true then tc σ H3 λw' H4=>r' y w' H4 Q else Q (.bl false) H3)
theorem b4y {op op':CmpOp} {r r':R2} (ho:OpR X (compareOp op) r) (ho':OpR X (compareOp op') r') (ha:PE X a ta) (hb:PE X b tb) (hc:PE X c tc)
  (hm:lastMarks [op,op'] [b,c]=false:=by with_unfolding_all rfl):PE X (.Compare a [op,op'] [b,c] pos) (c4x r r' ta tb tc):=by
 intro pins s σ H Q I h
 refine Compare_chain (thn (ha pins s σ H _ I h) λv s1 ⟨x,H1,I1,r1,q1⟩=>chain_link (thn (hb pins s1 σ H1 _ I1 q1) λu s2 ⟨y,H2,I2,r2,q2⟩=>
  thn (ho pins s2 σ H2 x y v u _ I2 r1 r2 q2) λd s3 ⟨z,H3,I3,r3,k,e,q3⟩=>?_)) hm
 subst e
 cases r3
 refine wpAny_truthy_bool ?_
 cases k with
 | false=>exact ite_ff ⟨.bl false,H3,I3,rfl,q3⟩
 | true=>exact ite_tt (chain_last (thn (hc pins s3 σ H3 _ I3 q3) λw' s4 ⟨z',H4,I4,r4,q4⟩=>ho' pins s4 σ H4 y z' u w' Q I4 r2 r4 q4))
def b10 (K:PySem.W.Frag) (x:V) (H:Hp) (k:Bool):Prop:=
 match x with
 | .non=>k=false
 | .bl b=>k=b
 | .int i=>k=(i != 0)
 | .str y=>y.length<=sizeLine/\k=((y.length:Int) != 0)
 | .byt y=>y.size<=sizeLine/\k=((y.size:Int) != 0)
 | .ref p=>(∃ xs,SqL K H p xs/\k=!xs.isEmpty)\/(∃ xs,SqT K H p xs/\k=!xs.isEmpty)\/∃ kvs,H p=some (.dK kvs)/\k=!kvs.isEmpty
 | _=>False
theorem a77 {κ:Type} {kvs:List (κ×V)} {vs:List (κ×Value)} (r:KV kvs vs):(!vs.isEmpty)=!kvs.isEmpty:=by
 cases r <;> rfl
theorem a1e {xs:List V} {its:List Value} (r:Vals xs its):(!its.toArray.isEmpty)=!xs.isEmpty:=by
 cases r <;> simp
theorem X7:(sizeLine:Nat)<2 ^ 63:=by rw [sizeLine_eq];decide
theorem a3p:d1u X (λx H Q=>∃ k,b10 X.K x H k/\Q k H):=by
 intro pins s σ H x v Q I rx h
 obtain ⟨k,e,q⟩:=h
 have hl:=X7
 have hs:sizeLine=16777216:=sizeLine_eq
 cases x with
 | non=>
  cases rx
  have e':k=false:=e
  subst e'
  exact truthy_none ⟨H,I,q⟩
 | bl b=>
  cases rx
  have e':k=b:=e
  subst e'
  exact wpAny_truthy_bool ⟨H,I,q⟩
 | int i=>
  obtain ⟨t,rfl⟩:=rx
  have e':k=(i != 0):=e
  subst e'
  exact PySem.P.truthy_int ⟨H,I,q⟩
 | str y=>
  obtain ⟨t,rfl⟩:=rx
  obtain ⟨hy,e'⟩:y.length<=sizeLine/\k=((y.length:Int) != 0):=e
  subst e'
  exact PySem.P.truthy_str (by omega) ⟨H,I.tok _,q⟩
 | byt y=>
  obtain ⟨t,rfl⟩:=rx
  obtain ⟨hy,e'⟩:y.size<=sizeLine/\k=((y.size:Int) != 0):=e
  subst e'
  exact PySem.W.truthy_bytes (by omega) ⟨H,I.tok _,q⟩
 | ref p=>
  cases rx
  have e':(∃ xs,SqL X.K H p xs/\k=!xs.isEmpty)\/(∃ xs,SqT X.K H p xs/\k=!xs.isEmpty)\/∃ kvs,H p=some (.dK kvs)/\k=!kvs.isEmpty:=e
  rcases e' with ⟨xs,hx,e'⟩ | ⟨xs,hx,e'⟩ | ⟨kvs,hx,e'⟩
  ·subst e'
   obtain ⟨its,r,pl,hz⟩:=I.list hx
   have hlen:=r.length
   exact wpAny_truthy_list pl.isList (by simp only [List.size_toArray];omega) ⟨H,I.tok _,by rw [a1e r];exact q⟩
  ·subst e'
   obtain ⟨its,r,pl,hz⟩:=I.tuple hx
   have hlen:=r.length
   exact truthy_tuple pl (by simp only [List.size_toArray];omega) ⟨H,I.tok _,by rw [a1e r];exact q⟩
  ·subst e'
   obtain ⟨hz,hS,vs,r,m⟩:kvs.length<=sizeLine/\(p==sysModules)=false/\∃ vs,KV kvs vs/\s.heap.DictOf (i5 X.prog X.w) p vs:=I.hok p _ hx
   have hlen:kvs.length=vs.length:=Paired.length r
   exact wpAny_truthy_dict hS m (by omega) ⟨H,I.tok _,by rw [a77 r];exact q⟩
 | _=>exact (show False from e).elim
theorem b3x (ha:PE X a ta) (he:∀ whole,isTrue a X.env whole=(do let v <- whole;standAt a.pos;holding [v] (truthy v))) :
  PT X a (λσ H Q=>ta σ H λx H'=>∃ k,b10 X.K x H' k/\Q k H'):=by
 intro pins s σ H Q I h
 exact isTrue_plain (thn (ha pins s σ H _ I h) λv s1 ⟨x,H1,I1,r1,q1⟩=>a3p pins s1 σ H1 x v Q I1 r1 q1) (he _)
theorem a73:OpR X (binaryOp .Add) (λx y H Q=>∃ i j,x=.str i/\y=.str j/\i.length+j.length<=sizeLine/\Q (.str (i++j)) H):=by
 intro pins s σ H x y v u Q I rx ry h
 obtain ⟨i,j,rfl,rfl,hz,q⟩:=h
 obtain ⟨t,rfl⟩:=rx
 obtain ⟨t',rfl⟩:=ry
 exact add_str (λt' tk=>⟨.str (i++j),H,I.tok _,⟨_,rfl⟩,q⟩) hz
theorem K0 {x:V} {us:List Value} (r:Vals [x] us):∃ u,us=[u]/\RelV x u:=by
 cases r with
 | cons r1 r2=>cases r2;exact ⟨_,rfl,r1⟩
theorem a56 {x y:V} {us:List Value} (r:Vals [x,y] us):∃ u w',us=[u,w']/\RelV x u/\RelV y w':=by
 cases r with
 | cons r1 r2=>
  cases r2 with
  | cons r3 r4=>cases r4;exact ⟨_,_,rfl,r1,r3⟩
theorem a22:j3 X (.type "int") (λxs H Q=>(∃ i,xs=[.int i]/\Q (.int i) H)\/∃ k,xs=[.bl k]/\Q (.int (if k then 1 else 0)) H):=by
 intro pins s σ H xs us Q I r h
 rcases h with ⟨i,rfl,q⟩ | ⟨k,rfl,q⟩
 ·obtain ⟨u,rfl,t,rfl⟩:=K0 r
  exact call_int_int ⟨.int i,H,I,⟨_,rfl⟩,q⟩
 ·obtain ⟨u,rfl,r1⟩:=K0 r
  cases r1
  exact call_int_bool ⟨.int (if k then 1 else 0),H,I.tok _,⟨_,rfl⟩,q⟩
theorem a4r:j3 X (.type "str") (λxs H Q=>∃ i,xs=[.int i]/\i.natAbs.log2<1920/\Q (.str (toString i)) H):=by
 intro pins s σ H xs us Q I r h
 obtain ⟨i,rfl,hz,q⟩:=h
 obtain ⟨u,rfl,t,rfl⟩:=K0 r
 exact PySem.P.str_of_int hz ⟨.str _,H,I.tok _,⟨_,rfl⟩,q⟩
end
theorem N3 {h:Heap} {dx:Addr} {mA:Str->Option Value} (n:h.Ns1 dx mA):∃ od,h.get? dx=some od/\∀ name,PySem.W.lookIn name od=some (mA name):=by
 obtain ⟨o,es,ep,ho,hd,hk,_,hm⟩:=n
 refine ⟨o,ho,λname=>?_⟩
 have e:=hm name
 unfold nsFind findBy at e
 rw [<- Array.find?_toList] at e
 unfold PySem.W.lookIn
 rw [hd]
 dsimp only
 split
 ·rename_i y q
  rw [q] at e
  exact congrArg some e
 ·rename_i q
  rw [q] at e
  have a:es.toList.any (·.refKey)=false:=by
   rw [List.any_eq_false]
   intro y hy
   obtain ⟨z,t,hkey⟩:=hk y (Array.mem_toList_iff.mp hy)
   simp [DictEntry.refKey,hkey]
  have a':¬ es.toList.any (·.refKey)=true:=by rw [a];exact Bool.false_ne_true
  rw [if_neg a']
  exact congrArg some e
noncomputable def K8 (f:Str) (v:V):List (Str×V)->List (Str×V)
 | []=>[(f,v)]
 | (g,x) :: r=>if g=f then (g,v) :: r else (g,x) :: K8 f v r
theorem Y6 (f g:Str) (v:V):∀ fs:List (Str×V),(K8 f v fs).lookup g=if g=f then some v else fs.lookup g
 | []=>by
  show List.lookup g [(f,v)]=_
  by_cases h:g=f
  ·have hb:(g==f)=true:=beq_iff_eq.mpr h
   simp only [List.lookup,hb,if_pos h]
  ·have hb:(g==f)=false:=beq_eq_false_iff_ne.mpr h
   simp only [List.lookup,hb,if_neg h]
 | (k,x) :: r=>by
  have ih:=Y6 f g v r
  rw [show K8 f v ((k,x) :: r)=(if k=f then (k,v) :: r else (k,x) :: K8 f v r) from rfl]
  by_cases hk:k=f
  ·rw [if_pos hk]
   by_cases h:g=k
   ·have hb:(g==k)=true:=beq_iff_eq.mpr h
    simp only [List.lookup,hb,if_pos (h.trans hk)]
   ·have hb:(g==k)=false:=beq_eq_false_iff_ne.mpr h
    simp only [List.lookup,hb,if_neg (λe:g=f=>h (e.trans hk.symm))]
  ·rw [if_neg hk]
   by_cases h:g=k
   ·have hb:(g==k)=true:=beq_iff_eq.mpr h
    simp only [List.lookup,hb,if_neg (λe:g=f=>hk (h.symm.trans e))]
   ·have hb:(g==k)=false:=beq_eq_false_iff_ne.mpr h
    simp only [List.lookup,hb]
    exact ih
theorem X0 (f:Str) (v:V):∀ fs:List (Str×V),f∈(K8 f v fs).map (·.1)/\∀ g,g∈fs.map (·.1)->g∈(K8 f v fs).map (·.1)
 | []=>⟨by simp [K8],λg h=>by simp at h⟩
 | (k,x) :: r=>by
  obtain ⟨i1,i2⟩:=X0 f v r
  rw [show K8 f v ((k,x) :: r)=(if k=f then (k,v) :: r else (k,x) :: K8 f v r) from rfl]
  by_cases hk:k=f
  ·rw [if_pos hk]
   subst hk
   exact ⟨by simp,λg h=>by simpa using h⟩
  ·rw [if_neg hk]
   refine ⟨?_,λg h=>?_⟩
   ·rw [List.map_cons]
    exact List.mem_cons_of_mem _ i1
   ·rw [List.map_cons] at h ⊢
    rcases List.mem_cons.mp h with e | e
    ·exact List.mem_cons.mpr (.inl e)
    ·exact List.mem_cons_of_mem _ (i2 g e)
theorem Z4 (f:Str) (v:V):∀ fs:List (Str×V),(K8 f v fs).length<=fs.length+1
 | []=>by simp [K8]
 | (k,x) :: r=>by
  have ih:=Z4 f v r
  rw [show K8 f v ((k,x) :: r)=(if k=f then (k,v) :: r else (k,x) :: K8 f v r) from rfl]
  by_cases hk:k=f
  ·rw [if_pos hk,List.length_cons,List.length_cons];omega
  ·rw [if_neg hk,List.length_cons,List.length_cons];omega
theorem RelO.some_of {v:V} {o:Option Value} (r:RelO (some v) o):∃ u,o=some u/\RelV v u:=by
 cases o with
 | none=>exact (show False from r).elim
 | some u=>exact ⟨u,rfl,r⟩
theorem b1c {v:V} {u:Value} (r:RelV v u):PySem.W.handedIn u=true:=by
 cases v with
 | non=>cases (show u=Value.none from r);rfl
 | bl b=>cases (show u=Value.bool b from r);rfl
 | int i=>obtain ⟨t,e⟩:=(show ∃ t,u=Value.int i t from r);cases e;rfl
 | str x=>obtain ⟨t,e⟩:=(show ∃ t,u=Value.str x t from r);cases e;rfl
 | byt b=>obtain ⟨t,e⟩:=(show ∃ t,u=Value.bytes b t from r);cases e;rfl
 | flt b=>obtain ⟨t,e⟩:=(show ∃ t,u=Value.float b t from r);cases e;rfl
 | ref a=>cases (show u=Value.ref a from r);rfl
 | ty n=>cases (show u=Value.type n from r);rfl
def v7 (K:PySem.W.Frag) (C:Addr) (f:Str):Prop:=PySem.W.findIn K (.ref C) f=some none
section
variable {X:Cx} {pins:List (Addr×Obj)} {σ:St} {H:Hp} {s:Shared} {a C dx:Addr} {fs:List (Str×V)} {f:Str} {v:V} {A:Around} {E:Value->Shared->Prop}
theorem b66 {prog:Program} {w:World} {env:Env} {e:Expr} {f:Str} {pos:Pos} {s:Shared} {Q:Value->Shared->Prop} (hb:attributeBase e f env (eval e env)=eval e env)
  (h:wpAny (model prog w) A (eval e env) (λo s₁=>wpAny (model prog w) A (getAttr o f true) Q E s₁) E s):wpAny (model prog w) A (eval (.Attribute e f pos) env) Q E s:=
 Attribute_any_ h (by rw [arm_eval_Attribute,hb])
end
structure Room (q:Bool) (k:Nat) (A:Around):Prop where
 hd:q=false->A.handled=none
 dp:A.depth+3 * k+5<recursionLimit
 un:A.units+16 * k+200<cLine
 gd:A.guards=some []
theorem Room.any {q:Bool} {k:Nat} {A:Around} (r:Room false k A):Room q k A:=⟨λ_=>r.hd rfl,r.dp,r.un,r.gd⟩
theorem Room.mono {q:Bool} {j k:Nat} {A:Around} (r:Room q k A) (h:j<=k):Room q j A:=⟨r.hd,by have:=r.dp;omega,by have:=r.un;omega,r.gd⟩
theorem Room.deeper {q:Bool} {k:Nat} {A:Around} (r:Room q (k+1) A) (env:Env):Room q k (A.deeper env):=
 ⟨r.hd,by have:=r.dp;show A.depth+1+3 * k+5<_;omega,by have:=r.un;show A.units+3+16 * k+200<_;omega,r.gd⟩
theorem a7q {A:Around} {C:Addr} {us:List Value} {kw:List (Str×Value)}:(A.under (.builtin "type.__call__" ⟨.ref C :: us,kw⟩)).depth=A.depth+1:=by
 first | rfl | simp [Around.under,Code.weight,Code.isCreation,Code.isGuard,Code.isCaller,Code.frames,Code.isFrame,guardIds]
theorem a7k {A:Around} {C:Addr} {us:List Value} {kw:List (Str×Value)}:(A.under (.builtin "type.__call__" ⟨.ref C :: us,kw⟩)).units=A.units+1:=by
 first | rfl | simp [Around.under,Code.cUnits,Code.frames,Code.isFrame]
theorem Room.make {q:Bool} {k:Nat} {A:Around} (r:Room q (k+1) A) (C:Addr) (us:List Value) (kw:List (Str×Value)):Room q k (A.under (.builtin "type.__call__" ⟨.ref C :: us,kw⟩)):=
 ⟨r.hd,by have:=r.dp;rw [a7q];omega,by have:=r.un;rw [a7k];omega,by have:=r.gd;simp [Around.under,Code.guards,Code.isGuard,guardIds,pushGuards,this]⟩
theorem Room.depth {q:Bool} {k:Nat} {A:Around} (r:Room q k A):A.depth<recursionLimit:=by have:=r.dp;omega
theorem Room.units {q:Bool} {k:Nat} {A:Around} (r:Room q k A):A.units+64<cLine:=by have:=r.un;omega
def tNil:TA:=λ_ H Q=>Q [] H
def c7d (ta:TE) (tr:TA):TA:=λσ H Q=>ta σ H λx H1=>tr σ H1 λxs H2=>Q (x :: xs) H2
section
variable {X:Cx} {e:Expr} {es:List Expr} {te:TE} {t:TA} {pos:Pos}
theorem B8:PA X [] tNil:=λ_ _ _ _ H Q I h=>Calls.spliced_nil ⟨[],H,I,.nil,h⟩
theorem i7 (ha:PE X e te) (hr:PA X es t) (hs:starEach (e :: es) X.env=(false,eval e X.env) :: starEach es X.env:=by rfl):PA X (e :: es) (c7d te t):=by
 intro pos pins s σ H Q I h
 rw [hs]
 show wpAny _ _ (spliced ((false,eval e X.env) :: backTo pos (starEach es X.env))) _ _ s
 refine Calls.spliced_cons (thn (ha pins s σ H _ I h) λu s1 ⟨x,H1,I1,r1,q1⟩=>?_)
 exact thn (hr pos pins s1 σ H1 _ I1 q1) λus s2 ⟨xs,H2,I2,r2,q2⟩=>⟨x :: xs,H2,I2,.cons r1 r2,q2⟩
def d19 (t:TA):TE:=λσ H Q=>t σ H λxs H1=>xs.length<=sizeLine/\∀ p,H1 p=none->Q (.ref p) (upd H1 p (.tup xs))
def d29 (t:TA):TE:=λσ H Q=>t σ H λxs H1=>xs.length<=sizeLine/\∀ p,H1 p=none->Q (.ref p) (upd H1 p (.lst xs))
theorem b46 {x1} (h:PA X es t):PE X (.Tuple es x1 pos) (d19 t):=by
 intro pins s σ H Q I hq
 refine wpAny_Tuple_spliced (thn (h pos pins s σ H _ I hq) λus s1 ⟨xs,H1,I1,r,z,q⟩=>⟨by rw [<- r.length];exact z,?_⟩)
 have hf:H1 s1.heap.objs.size=none:=I1.hok.fresh (Nat.le_refl _)
 refine ⟨.ref s1.heap.objs.size,upd H1 s1.heap.objs.size (.tup xs),I1.laid (t':=s1.toks) (λb u e=>Heap.get?_push_of_some _ e) (Nat.le_refl _) ?_,rfl,q _ hf⟩
 exact ⟨z,us,r,⟨_,Heap.get?_push_size _ rfl,rfl,_,rfl,rfl⟩⟩
theorem c2k (h:PA X es t):PE X (.List es pos) (d29 t):=by
 intro pins s σ H Q I hq
 refine wpAny_List_spliced (thn (h pos pins s σ H _ I hq) λus s1 ⟨xs,H1,I1,r,z,q⟩=>⟨by rw [<- r.length];exact z,?_⟩)
 have hf:H1 s1.heap.objs.size=none:=I1.hok.fresh (Nat.le_refl _)
 refine ⟨.ref s1.heap.objs.size,upd H1 s1.heap.objs.size (.lst xs),I1.laid (t':=s1.toks) (λb u e=>Heap.get?_push_of_some _ e) (Nat.le_refl _) ?_,rfl,q _ hf⟩
 exact ⟨z,us,0,r,Heap.get?_push_size _ rfl⟩
end
noncomputable abbrev Sp:=List V->Hp->VK->XK->Prop
structure CXT where
 cx:List Env->Hp->Shared->XK->Value->Shared->Prop
 q:Bool
instance:CoeFun CXT λ_=>List Env->Hp->Shared->XK->Value->Shared->Prop:=⟨CXT.cx⟩
structure Env0 (P:Program) (w:World) (K:PySem.W.Frag) (mg:Str->Option Value) (base:Heap) (A:Around) (outer:List Env) (s:Shared) (H:Hp):Prop where
 frames:A.frames=some outer
 mod:Mod K mg base
 bs:∀ b o,base.get? b=some o->s.heap.get? b=some o/\H b=none
 bsz:base.objs.size<=s.heap.objs.size
 funs:s.heap.FunFrames base outer
 frf:∀ b∈frs outer,H b=none
 hok:HOk P w H s.heap
 bare:AllBare s.gens
def CE (outer:List Env) (P:Program) (w:World) (H:Hp) (s:Shared) (Q:VK) (u:Value) (s':Shared):Prop:=
 ∃ v H',s'.os=s.os/\AllBare s'.gens/\Un (frs outer) [] H H' s.heap s'.heap/\HOk P w H' s'.heap/\RelV v u/\Q v H'
def CR (CX:CXT) (outer:List Env) (P:Program) (w:World) (H:Hp) (s:Shared) (Q:VK) (E:XK) (r:Result) (s':Shared):Prop:=
 match r with
 | .ok (.ret u)=>CE outer P w H s Q u s'
 | .ok _=>False
 | .error e=>CX outer H s E e s'
structure FnOk (P:Program) (w:World) (K:PySem.W.Frag) (mg:Str->Option Value) (base:Heap) (CX:CXT) (k:Nat) (f:Addr) (fd:FuncData) (ps:List Str) (sp:Sp):Prop where
 len:∀ vs H Q E,sp vs H Q E->vs.length=ps.length
 run:∀ (A:Around) (outer:List Env) (s:Shared) (H:Hp) (args:Args) (us:List Value) (vs:List V) (Q:VK) (E:XK),Room CX.q k A->Env0 P w K mg base A outer s H->BindsTo s fd args (ps.zip us)->Vals vs us->sp vs H Q E ->
  codeAny (model P w) A (.call (.ref f) args) (CR CX outer P w H s Q E) s
theorem FnOk.mono {P:Program} {w:World} {K:PySem.W.Frag} {mg:Str->Option Value} {base:Heap} {CX:CXT} {j k:Nat} {f:Addr} {fd:FuncData} {ps:List Str} {sp:Sp} (F:FnOk P w K mg base CX j f fd ps sp) (h:j<=k) :
  FnOk P w K mg base CX k f fd ps sp:=⟨F.len,λA outer s H args us vs Q E hr=>F.run A outer s H args us vs Q E (hr.mono h)⟩
theorem FnOk.imp {P:Program} {w:World} {K:PySem.W.Frag} {mg:Str->Option Value} {base:Heap} {CX:CXT} {k:Nat} {f:Addr} {fd:FuncData} {ps:List Str} {sp sp':Sp} (F:FnOk P w K mg base CX k f fd ps sp)
  (h:∀ vs H Q E,sp' vs H Q E->sp vs H Q E):FnOk P w K mg base CX k f fd ps sp':=
 ⟨λvs H Q E q=>F.len vs H Q E (h _ _ _ _ q),λA outer s H args us vs Q E hr he hb hv hs=>F.run A outer s H args us vs Q E hr he hb hv (h _ _ _ _ hs)⟩
theorem Env0.make {P:Program} {w:World} {K:PySem.W.Frag} {mg:Str->Option Value} {base:Heap} {A:Around} {outer:List Env} {s:Shared} {H:Hp} (e:Env0 P w K mg base A outer s H) (C:Addr) (us:List Value) (kw:List (Str×Value)) :
  Env0 P w K mg base (A.under (.builtin "type.__call__" ⟨.ref C :: us,kw⟩)) outer s H:=⟨by first | exact e.frames | (simpa [Around.under,Code.envs,Code.isFrame,pushEnvs] using e.frames),e.mod,e.bs,e.bsz,e.funs,e.frf,e.hok,e.bare⟩
section
variable {X:Cx} {pins:List (Addr×Obj)} {σ:St} {H:Hp} {s s':Shared}
theorem Inv.env0 (I:Inv X pins σ H s):Env0 X.prog X.w X.K X.mg X.base X.A X.stack s H:=
 ⟨I.ok.frames,I.ok.mod,I.bs,Nat.le_trans I.ok.bsz I.sz,I.stack,I.stkFree,I.hok,I.bare⟩
theorem Inv.after {Q:VK} {u:Value} (I:Inv X pins σ H s) (h:CE X.stack X.prog X.w H s Q u s'):EP X pins σ Q u s':=by
 obtain ⟨v,H',os,bare,un,hok,r,q⟩:=h
 obtain ⟨hh,g,d,t,os'⟩:=s'
 obtain rfl:os'=s.os:=os
 exact ⟨v,H',I.call (h':=hh) (g':=g) (d':=d) (t':=t) (ch:=[]) un hok bare (λb z=>absurd z (by simp)),r,q⟩
end
def b2m (sp:Sp) (dvs:List V) (E:XK) (t:TA):TE:=λσ H Q=>t σ H λvs H1=>sp (vs++dvs) H1 Q E
def Binds (K:PySem.W.Frag) (fd:FuncData) (ps:List Str) (ds:List Value):Prop:=
 ∀ (s:Shared) (us:List Value),K.In s.heap->(us++ds).length=ps.length->BindsTo s fd ⟨us,[]⟩ (ps.zip (us++ds))
theorem Binds.all {K:PySem.W.Frag} {fd:FuncData} {ps:List Str} (h:∀ us:List Value,us.length=ps.length->bindArgs fd ⟨us,[]⟩=pure (ps.zip us)):Binds K fd ps []:=λs us _ hl=>by
 rw [List.append_nil] at hl ⊢
 exact .of_eq (h us hl)
def E4 (CX:CXT) (X:Cx) (E:XK):Prop:=∀ (pins:List (Addr×Obj)) (σ:St) (H:Hp) (s:Shared) (e:Value) (s':Shared),Inv X pins σ H s->CX X.stack H s E e s'->X.xe e s'
section
variable {X:Cx} {CX:CXT} {k:Nat} {f C:Addr} {fd:FuncData} {ps:List Str} {sp:Sp} {dvs:List V} {ds:List Value} {E:XK} {x m:Str} {p pos apos:Pos} {e o:Expr} {es:List Expr} {ta:TE} {t:TA}
theorem a7b {pins:List (Addr×Obj)} {σ:St} {H:Hp} {s:Shared} {Q:VK} {us:List Value} {vs:List V} (F:FnOk X.prog X.w X.K X.mg X.base CX k f fd ps sp) (hr:Room CX.q k X.A) (hb:Binds X.K fd ps ds) (hd:Vals dvs ds) (hx:E4 CX X E)
  (I:Inv X pins σ H s) (r:Vals vs us) (h:sp (vs++dvs) H Q E):wpAny (model X.prog X.w) X.A (call (.ref f) us) (EP X pins σ Q) X.xe s:=by
 have r2:Vals (vs++dvs) (us++ds):=r.append hd
 have hl:(us++ds).length=ps.length:=by rw [<- r2.length];exact F.len _ _ _ _ h
 refine wpAny_call (codeAny_mono (F.run X.A X.stack s H ⟨us,[]⟩ (us++ds) (vs++dvs) Q E hr I.env0 (hb s us I.kIn hl) r2 h) λr s' hq=>?_)
 cases r with
 | error e=>exact hx pins σ H s e s' I hq
 | ok fl=>
  cases fl with
  | ret u=>exact I.after hq
  | next=>exact False.elim hq
  | brk=>exact False.elim hq
  | cont=>exact False.elim hq
theorem b8d (F:FnOk X.prog X.w X.K X.mg X.base CX k f fd ps sp) (hr:Room CX.q k X.A) (hg:Gl X x) (hm:X.mg x=some (.ref f)) (hk:PySem.W.keepIn X.K (.ref f)=true) (hb:Binds X.K fd ps ds) (hd:Vals dvs ds) (hx:E4 CX X E)
  (ha:PA X (e :: es) t) (hdb:(x==("__debug__" : Str))=false:=by decide) (he:starEach (e :: es) X.env=(false,eval e X.env) :: starEach es X.env:=by rfl) (hpl:(backTo pos (starEach es X.env)).any (·.1)=false:=by rfl) :
  PE X (.Call (.Name x p) (e :: es) [] pos) (b2m sp dvs E t):=by
 intro pins s σ H Q I h
 refine wpAny_Call_Name_kw (G5 I hg hm ?_ hdb)
 refine PySem.W.callWith_K (h₀:=X.base) I.ok.mod.kin hk (thn (ha pos pins s σ H _ I h) λus s1 ⟨vs,H1,I1,r,q⟩=>⟨I1.kIn,?_⟩) he hpl
 exact a7b F hr hb hd hx I1 r q
theorem b5g (F:FnOk X.prog X.w X.K X.mg X.base CX k f fd ps sp) (hr:Room CX.q k X.A) (hg:Gl X x) (hm:X.mg x=some (.ref f)) (hk:PySem.W.keepIn X.K (.ref f)=true) (hb:Binds X.K fd ps ds) (hd:Vals dvs ds) (hx:E4 CX X E)
  (hdb:(x==("__debug__" : Str))=false:=by decide):PE X (.Call (.Name x p) [] [] pos) (b2m sp dvs E tNil):=by
 intro pins s σ H Q I h
 refine wpAny_Call_Name_kw (G5 I hg hm ?_ hdb)
 exact PySem.W.callWith_K0 I.kIn hk (a7b (us:=[]) F hr hb hd hx I .nil h)
end
structure FnScope (N P:List Str) (sc:Scope):Prop where
 kind:sc.kind=.function
 co:sc.isCoroutine=false
 gen:sc.isGenerator=false
 nd:N.Nodup
 pre:N.take P.length=P
 par:∀ x∈P,sc.names.lookup x=some .local\/sc.names.lookup x=some .cell
 nofree:∀ y∈sc.names,y.2≠.free
theorem a21 {kindOf:Str->Option NameKind} {x:Str}:∀ {binds:List (Str×Value)} {m:Str->Option Value},(∀ v,(x,v)∉binds)->bindL kindOf binds m x=m x
 | [],_,_=>rfl
 | (n,v) :: r,m,h=>by
  unfold bindL
  rw [a21 λw hw=>h w (List.mem_cons_of_mem _ hw)]
  split
  ·have:x≠n:=by rintro rfl;exact h v List.mem_cons_self
   simp [this]
  ·rfl
theorem a3m {kindOf:Str->Option NameKind} {x:Str}:∀ {binds:List (Str×Value)} {m:Str->Option Value},(∀ v,(x,v)∉binds)->bindC kindOf binds m x=m x
 | [],_,_=>rfl
 | (n,v) :: r,m,h=>by
  unfold bindC
  rw [a3m λw hw=>h w (List.mem_cons_of_mem _ hw)]
  split
  ·rfl
  ·have:x≠n:=by rintro rfl;exact h v List.mem_cons_self
   simp [this]
theorem a2r {kindOf:Str->Option NameKind} {x:Str} {v:Value}:∀ {P:List Str} {vs:List Value} {i:Nat} {m:Str->Option Value},P.Nodup->P[i]?=some x->vs[i]?=some v->kindOf x=some .local ->
  bindL kindOf (P.zip vs) m x=some v
 | [],_,_,_,_,h,_,_=>by simp at h
 | _ :: _,[],_,_,_,_,h,_=>by simp at h
 | p :: P,w :: vs,0,m,nd,h1,h2,hk=>by
  simp at h1 h2;subst h1;subst h2
  show bindL kindOf ((p,w) :: P.zip vs) m p=_
  unfold bindL
  rw [a21 λv hv=>(List.nodup_cons.mp nd).1 (List.of_mem_zip hv).1,if_pos hk]
  simp
 | p :: P,w :: vs,i+1,m,nd,h1,h2,hk=>by
  show bindL kindOf ((p,w) :: P.zip vs) m x=_
  unfold bindL
  exact a2r (i:=i) (List.nodup_cons.mp nd).2 (by simpa using h1) (by simpa using h2) hk
theorem a3b {kindOf:Str->Option NameKind} {x:Str} {v:Value}:∀ {P:List Str} {vs:List Value} {i:Nat} {m:Str->Option Value},P.Nodup->P[i]?=some x->vs[i]?=some v->kindOf x≠some .local ->
  bindC kindOf (P.zip vs) m x=some v
 | [],_,_,_,_,h,_,_=>by simp at h
 | _ :: _,[],_,_,_,_,h,_=>by simp at h
 | p :: P,w :: vs,0,m,nd,h1,h2,hk=>by
  simp at h1 h2;subst h1;subst h2
  show bindC kindOf ((p,w) :: P.zip vs) m p=_
  unfold bindC
  rw [a3m λv hv=>(List.nodup_cons.mp nd).1 (List.of_mem_zip hv).1,if_neg hk]
  simp
 | p :: P,w :: vs,i+1,m,nd,h1,h2,hk=>by
  show bindC kindOf ((p,w) :: P.zip vs) m x=_
  unfold bindC
  exact a3b (i:=i) (List.nodup_cons.mp nd).2 (by simpa using h1) (by simpa using h2) hk
noncomputable def start (N:List Str) (vs:List V):St:=vs.map some++List.replicate (N.length-vs.length) none
noncomputable def a1k (CX:CXT) (P:Program) (w:World) (K:PySem.W.Frag) (mg:Str->Option Value) (base:Heap) (N:List Str) (qual:Str) (scope:Scope) (f:Addr) (cd:Value) (A:Around) (outer:List Env) (s:Shared) (H:Hp) (E:XK):Cx where
 prog:=P
 w:=w
 K:=K
 mg:=mg
 base:=base
 A:=A.deeper (envOfC qual scope s.heap.objs.size f cd)
 N:=N
 s₀:=s
 H₀:=H
 env:=envOfC qual scope s.heap.objs.size f cd
 outer:=outer
 stack:=envOfC qual scope s.heap.objs.size f cd :: outer
 ex:=[]
 calm:=!CX.q
 fn:=λ_=>true
 pn:=[]
 xe:=λe s'=>wpAny (model P w) (A.deeper (envOfC qual scope s.heap.objs.size f cd)) (leaving (envOfC qual scope s.heap.objs.size f cd) e) (λ_ s''=>CX outer H s E e s'') (λe' s''=>CX outer H s E e' s'') s'
theorem a6c {sc:Scope} {n:Nat} {x:Str} (h:sc.names.lookup x=some .cell):∃ c,(cellsFrom n sc.names []).lookup x=some c:=by
 have q:=PySem.W.cellsFrom_some sc.names n [] (.inl h)
 exact Option.isSome_iff_exists.mp q
theorem b2c {CX:CXT} {P:Program} {w:World} {K:PySem.W.Frag} {mg:Str->Option Value} {base:Heap} {N ps:List Str} {qual:Str} {scope:Scope} {f:Addr} {cd:Value} {A:Around} {outer:List Env} {s s1:Shared} {H:Hp} {E:XK} {us:List Value} {vs:List V}
  (S:FnScope N ps scope) (hd:CX.q=false->A.handled=none) (e0:Env0 P w K mg base A outer s H) (hl:vs.length=ps.length) (r:Vals vs us)
  (x:InCallC s s.heap.objs.size (bindL (envOfC qual scope s.heap.objs.size f cd).kindOf (ps.zip us) λ_=>none) (cellsFrom (s.heap.objs.size+1) scope.names []) (bindC (envOfC qual scope s.heap.objs.size f cd).kindOf (ps.zip us) λ_=>none) s1) :
  Inv (a1k CX P w K mg base N qual scope f cd A outer s H E) [] (start N vs) H s1:=by
 have hpl:ps.length<=N.length:=by have:=congrArg List.length S.pre;rw [List.length_take] at this;omega
 obtain ⟨h1,tk,rfl,hk⟩:=x.done
 have noA:∀ b:Addr,b∉(a1k CX P w K mg base N qual scope f cd A outer s H E).ex:=λb z=>absurd (show b∈([]:List Addr) from z) (by simp)
 refine ⟨⟨e0.mod,S.kind,rfl,rfl,Nat.le_refl _,λy z c h1 h2=>?_,λy hy=>?_,λy c _ h=>?_,λz=>hd (by have z:(!CX.q)=true:=z;simpa using z),Around.frames_deeper e0.frames,.inr ⟨rfl,rfl⟩,λb z=>absurd z (noA b),e0.bs,e0.bsz,λb _ _=>noA b,λb z=>absurd z (noA b),e0.funs,e0.frf⟩,
  rfl,e0.bare,Un.kept hk,⟨_,x.toInCall.ns,λi y v h1 h2 h3=>?_⟩,λy c h=>⟨_,x.cell y c h⟩,e0.hok.fresh (Nat.le_refl _),λy c h=>?_,λp hp=>absurd (show p∈([]:List (Addr×Obj)) from hp) (by simp),e0.hok.kept hk,?_⟩
 ·exact name_of_addr x.apart (PySem.mem_of_lookup h1) (PySem.mem_of_lookup h2)
 ·have hy:scope.names.lookup y=some .cell\/scope.names.lookup y=some .free:=hy
  rcases hy with hy | hy
  ·exact a6c hy
  ·exact absurd rfl (S.nofree _ (PySem.mem_of_lookup hy))
 ·exact Nat.le_of_lt (x.above y c (PySem.mem_of_lookup h))
 ·have hi:i<vs.length:=by
   unfold start at h2
   by_cases hi:i<vs.length
   ·exact hi
   ·rw [List.getElem?_append_right (by simpa using hi)] at h2
    rw [List.getElem?_replicate] at h2
    split at h2 <;> cases h2
  have ha:vs[i]?=some v:=by
   unfold start at h2
   rw [List.getElem?_append_left (by simpa using hi),List.getElem?_map] at h2
   cases e:vs[i]? with
   | none=>rw [e] at h2;cases h2
   | some a=>rw [e] at h2;cases h2;rfl
  obtain ⟨u,hu,rv⟩:=r.get ha
  have hp:ps[i]?=some y:=by
   rw [<- S.pre,List.getElem?_take_of_lt (by omega)];exact h1
  have ndP:ps.Nodup:=by rw [<- S.pre];exact S.nd.sublist (List.take_sublist _ _)
  refine ⟨u,rv,?_⟩
  rcases S.par y (List.mem_of_getElem? hp) with k | k
  ·exact .inl ⟨k,a2r ndP hp hu k⟩
  ·obtain ⟨c,e⟩:=a6c (n:=s.heap.objs.size+1) k
   refine .inr ⟨.inl k,c,e,?_⟩
   have q:=x.cell y c e
   rw [a3b ndP hp hu (by show scope.names.lookup y≠_;rw [k];decide)] at q
   exact q
 ·exact e0.hok.fresh (Nat.le_of_lt (x.above y c (PySem.mem_of_lookup h)))
 ·unfold start
  show _=N.length
  rw [List.length_append,List.length_map,List.length_replicate]
  omega
theorem c1t {CX:CXT} {P:Program} {w:World} {K:PySem.W.Frag} {mg:Str->Option Value} {base:Heap} {k:Nat} {f:Addr} {name qual:Str} {params:Arguments} {body:List Stmt} {scope:Scope} {dV kV doc pm cdv ct oc:Value} {an od:Option Addr}
  {osl:Array (Option Value)} {N ps:List Str} {sp:Sp} (lk:K.lookup f=some ⟨oc,od,.func (PySem.W.fnOf name qual params body scope dV kV doc pm an cdv ct),osl⟩) (hcd:PySem.W.codeIn K cdv qual=true) (S:FnScope N ps scope)
  (len:∀ vs H Q E,sp vs H Q E->vs.length=ps.length)
  (hbody:∀ (A:Around) (outer:List Env) (s:Shared) (H:Hp) (vs:List V) (Q:VK) (E:XK),Room CX.q k (A.deeper (envOfC qual scope s.heap.objs.size f cdv))->sp vs H Q E ->
   ∃ t,PSs (a1k CX P w K mg base N qual scope f cdv A outer s H E) body t/\t { nx:=λ_ H'=>Q .non H',rt:=Q } (start N vs) H) :
  FnOk P w K mg base CX (k+1) f (PySem.W.fnOf name qual params body scope dV kV doc pm an cdv ct) ps sp:=by
 refine ⟨len,λA outer s H args us vs Q E hr e0 hb r hsp=>?_⟩
 have hl:=len _ _ _ _ hsp
 have KX:K.In s.heap:=e0.mod.kin.keeps λb o e=>(e0.bs b o e).1
 have lim:s.heap.NoLimit:=e0.mod.nolimit.keeps λb o e=>(e0.bs b o e).1
 have hkind:∀ y∈ps.zip us,scope.names.lookup y.1=some .local\/(scope.names.lookup y.1=some .cell/\((cellsFrom (s.heap.objs.size+1) scope.names []).lookup y.1).isSome=true):=λ⟨n,v⟩ hy=>by
  rcases S.par n (List.of_mem_zip hy).1 with q | q
  ·exact .inl q
  ·exact .inr ⟨q,PySem.W.cellsFrom_some _ _ _ (.inl q)⟩
 refine codeAny_call_function hr.depth (KX _ _ lk) rfl S.co S.gen rfl (PySem.W.codeRec_of KX hcd) (hb _ _ _ _ ?_)
 refine wpAny_newFunctionEnv_cells S.kind hkind λenv he s1 x=>?_
 subst he
 refine ⟨lim.keeps x.toInCall.keep,codeAny_func ?_⟩
 obtain ⟨t,ht,hq⟩:=hbody A outer s H vs Q E (hr.deeper _) hsp
 have I:Inv (a1k CX P w K mg base N qual scope f cdv A outer s H E) [] (start N vs) H s1:=b2c S hr.hd e0 hl r x
 refine wpAny_mono (ht [] s1 (start N vs) H _ I hq) (λfl s' hs=>?_) λe s' hs=>hs
 have fin:∀ {σ':St} {H':Hp} {v:V} {u:Value},Inv (a1k CX P w K mg base N qual scope f cdv A outer s H E) [] σ' H' s'->RelV v u->Q v H'->CE outer P w H s Q u s':=
  λ{σ' H' v u} J rv q=>⟨v,H',J.os,J.bare,J.base,J.hok,rv,q⟩
 cases fl with
 | ret u=>
  obtain ⟨v,σ',H',J,rv,q⟩:=hs
  exact fin J rv q
 | next=>
  obtain ⟨σ',H',J,q⟩:=hs
  exact fin (v:=V.non) (u:=Value.none) J rfl q
 | brk=>
  obtain ⟨_,_,_,q⟩:=hs
  exact False.elim q
 | cont=>
  obtain ⟨_,_,_,q⟩:=hs
  exact False.elim q
section
variable {X:Cx} {x:Str} {p pos:Pos} {e:Expr} {es:List Expr} {t:TA} {id T:String} {r:List V->Hp->VK->Prop}
def tCB (r:List V->Hp->VK->Prop) (t:TA):TE:=λσ H Q=>t σ H λvs H1=>r vs H1 Q
theorem V7 (hc:j3 X (.builtin id) r) (hg:Gl X x) (hm:X.mg x=none) (hv:bootBuiltins x=some (.builtin id)) (ha:PA X (e :: es) t) (hn:x ≠ "__name__":=by decide) (hdb:(x==("__debug__" : Str))=false:=by decide)
  (he:starEach (e :: es) X.env=(false,eval e X.env) :: starEach es X.env:=by rfl) (hpl:(backTo pos (starEach es X.env)).any (·.1)=false:=by rfl):PE X (.Call (.Name x p) (e :: es) [] pos) (tCB r t):=by
 intro pins s σ H Q I h
 refine wpAny_Call_Name_kw (K9 I hg hm hv ?_ hn hdb)
 exact PyProof.Rows.callWith_builtin1 (thn (ha pos pins s σ H _ I h) λus s1 ⟨vs,H1,I1,r1,q1⟩=>hc pins s1 σ H1 vs us Q I1 r1 q1) he hpl
theorem b2b (hc:j3 X (.type T) r) (hg:Gl X x) (hm:X.mg x=none) (hv:bootBuiltins x=some (.type T)) (ha:PA X (e :: es) t) (hn:x ≠ "__name__":=by decide) (hdb:(x==("__debug__" : Str))=false:=by decide)
  (he:starEach (e :: es) X.env=(false,eval e X.env) :: starEach es X.env:=by rfl) (hpl:(backTo pos (starEach es X.env)).any (·.1)=false:=by rfl):PE X (.Call (.Name x p) (e :: es) [] pos) (tCB r t):=by
 intro pins s σ H Q I h
 refine wpAny_Call_Name_kw (K9 I hg hm hv ?_ hn hdb)
 exact PyProof.Rows.callWith_type1 (thn (ha pos pins s σ H _ I h) λus s1 ⟨vs,H1,I1,r1,q1⟩=>hc pins s1 σ H1 vs us Q I1 r1 q1) he hpl
end
end L2
namespace HT
open PySem PyProof.Rows
section
variable {prog:Program} {w:World} {A:Around} {E:Value->Shared->Prop} {s:Shared}
theorem cat_tup {t b:Addr} {vs ws:List Value} {Q:Value->Shared->Prop} (ht:IsTup s.heap t vs.toArray) (hb:IsTup s.heap b ws.toArray) (hv:vs≠[])
  (h1:ws=[]->Q (.ref t) s) (h2:ws≠[]->Q (.ref s.heap.objs.size) { s with heap:=s.heap.push { cls:=.type "tuple",data:=.seq (vs++ws).toArray } })
  (hsz:vs.length+ws.length<=sizeLine):wpAny (model prog w) A (binaryOp .Add (.ref t) (.ref b)) Q E s:=by
 obtain ⟨⟨cls,dd,data,sl⟩,ho,hc,n,hd⟩:=id ht
 obtain ⟨⟨cls2,dd2,data2,sl2⟩,ho2,hc2,n2,hd2⟩:=id hb
 simp only at hc hd hc2 hd2
 subst hc hd hc2 hd2
 have e:vs.toArray++ws.toArray=(vs++ws).toArray:=by simp
 by_cases hw:ws=[]
 ·exact concat_meets ⟨_,ho,rfl⟩ ⟨_,ho2,rfl⟩ noFill_tuple_add seq_tuple_add PySem.F.slot_tuple_add PySem.F.entry_tuple_add (PySem.F.args_tuple_add_2 _ _)
   (tuple_addW1 t b vs.toArray ws.toArray n n2 dd dd2 sl sl2 (by simpa using hv) (by simp [hw])) ⟨ho,ho2,h1 hw⟩
 ·refine concat_meets ⟨_,ho,rfl⟩ ⟨_,ho2,rfl⟩ noFill_tuple_add seq_tuple_add PySem.F.slot_tuple_add PySem.F.entry_tuple_add (PySem.F.args_tuple_add_2 _ _)
   (tuple_addW2 t b vs.toArray ws.toArray n n2 dd dd2 sl sl2 (by simpa using hv) (by simpa using hw) (by rw [List.size_toArray,List.size_toArray];exact hsz)) ⟨ho,ho2,?_⟩
  rw [e]
  exact h2 hw
noncomputable def sIx (n d:Nat):Option Int->Nat
 | none=>d
 | some v=>if v<0 then (v+(n:Int)).toNat else min v.toNat n
theorem sIx_none (n d:Nat):sIx n d none=d:=rfl
theorem c5e (n d:Nat) (hd:d<=n) (o:Option Int):sIx n d o<=n:=by
 cases o with
 | none=>exact hd
 | some v=>
  show (if v<0 then (v+(n:Int)).toNat else min v.toNat n)<=n
  by_cases hv:v<0
  ·rw [if_pos hv];omega
  ·rw [if_neg hv];exact Nat.min_le_right _ _
theorem a80 (v:Int) (n d:Nat):(if v<0 then max (v+(n:Int)) 0 else min v (n:Int))=((sIx n d (some v):Nat):Int):=by
 show (if v<0 then max (v+(n:Int)) 0 else min v (n:Int))=(((if v<0 then (v+(n:Int)).toNat else min v.toNat n):Nat):Int)
 by_cases hv:v<0
 ·simp only [if_pos hv];omega
 ·simp only [if_neg hv];omega
theorem a62 (lo hi:Option Int) (n:Nat):Builtin.Slice.sliceAdjust lo hi 1 (n:Int)=(((sIx n 0 lo:Nat):Int),((sIx n n hi:Nat):Int)):=by
 have h1:¬ ((1:Int)<0):=by omega
 unfold Builtin.Slice.sliceAdjust
 simp only [h1,if_false]
 refine Prod.ext ?_ ?_
 ·cases lo with
  | none=>rfl
  | some v=>exact a80 v n 0
 ·cases hi with
  | none=>rfl
  | some v=>exact a80 v n n
theorem a7w (i j:Nat):Builtin.Slice.slicePlaces (i:Int) (j:Int) 1=j-i:=by
 unfold Builtin.Slice.slicePlaces
 have h1:(1:Int) > 0:=by omega
 simp only [h1,if_true,Int.ediv_one]
 split <;> omega
theorem a1w {v:Value} {o:Option Int} {Q:Option Int->Shared->Prop} (p:IsPart v o) (h:Q o s):wpAny (model prog w) A (Builtin.Slice.slicePartIndex v) Q E s:=by
 cases p with
 | none=>exact slicePart_none h
 | int i t=>exact slicePart_int h
theorem sliceApplied_gen {sl:Addr} {vl vu:Value} {lo hi:Option Int} {n:Nat} {Q:Int×Int×Nat->Shared->Prop} (hs:s.heap.IsSliceOf sl vl vu .none) (pl:IsPart vl lo) (pu:IsPart vu hi)
  (h:Q (((sIx n 0 lo:Nat):Int),1,sIx n n hi-sIx n 0 lo) s):wpAny (model prog w) A (Builtin.Slice.sliceApplied (.ref sl) (pure (n:Int))) Q E s:=by
 obtain ⟨os,hos,hcs,hds⟩:=id hs
 unfold Builtin.Slice.sliceApplied Builtin.Slice.sliceFields
 refine wpAny_bind (wpAny_bind (wpAny_field hos hds (x:=vl) rfl (wpAny_bind (wpAny_field hos hds (x:=vu) rfl (wpAny_bind (wpAny_field hos hds (x:=.none) rfl (wpAny_pure ?_)))))))
 refine wpAny_bind (slicePart_none ?_)
 show wpAny _ _ (if ((1:Int)==0)=true then _ else _) _ _ s
 rw [if_neg (by decide)]
 refine wpAny_bind (a1w pl (wpAny_bind (a1w pu (wpAny_bind (wpAny_pure ?_)))))
 show wpAny _ _ (match Builtin.Slice.sliceAdjust lo hi 1 (n:Int) with | (lo,hi)=>pure (lo,(1:Int),Builtin.Slice.slicePlaces lo hi 1)) _ _ s
 rw [a62 lo hi n]
 show wpAny _ _ (pure (((sIx n 0 lo:Nat):Int),(1:Int),Builtin.Slice.slicePlaces ((sIx n 0 lo:Nat):Int) ((sIx n n hi:Nat):Int) 1)) _ _ s
 rw [a7w]
 exact wpAny_pure h
theorem b3w (xs:Array Value) (i k:Nat):((List.range k).filterMap λ(m:Nat)=>xs[((i:Int)+(m:Int) * 1).toNat]?).toArray=((xs.toList.drop i).take k).toArray:=by
 have e:(λ(m:Nat)=>xs[((i:Int)+(m:Int) * 1).toNat]?)=λm=>xs[i+m]?:=by
  funext m
  have:((i:Int)+(m:Int) * 1).toNat=i+m:=by omega
  rw [this]
 rw [e]
 have:=pick_run xs i k
 rw [List.filterMap_map] at this
 have e2:((λx=>xs[x]?) ∘ λx=>i+x)=λm=>xs[i+m]?:=rfl
 rw [e2] at this
 rw [this]
theorem getItem_tuple_cut {t sl:Addr} {items:Array Value} {vl vu:Value} {lo hi:Option Int} {Q:Value->Shared->Prop} (ht:IsTup s.heap t items) (hs:s.heap.IsSliceOf sl vl vu .none) (pl:IsPart vl lo) (pu:IsPart vu hi)
  (hw:¬ (sIx items.size 0 lo=0/\sIx items.size items.size hi=items.size))
  (h:Q (.ref s.heap.objs.size) { s with heap:=s.heap.push { cls:=.type "tuple",data:=.seq ((items.toList.drop (sIx items.size 0 lo)).take (sIx items.size items.size hi-sIx items.size 0 lo)).toArray } })
  (hsz:items.size<=sizeLine):wpAny (model prog w) A (getItem (.ref t) (.ref sl)) Q E s:=by
 have htake:sizeOk (.seq ((items.toList.drop (sIx items.size 0 lo)).take (sIx items.size items.size hi-sIx items.size 0 lo)).toArray):=by
  show ((items.toList.drop (sIx items.size 0 lo)).take (sIx items.size items.size hi-sIx items.size 0 lo)).toArray.size<=sizeLine
  rw [List.size_toArray,List.length_take,List.length_drop,Array.length_toList]
  omega
 have hj:sIx items.size items.size hi<=items.size:=c5e _ _ (Nat.le_refl _) hi
 obtain ⟨os,hos,hcs,hds⟩:=id hs
 have hTs:s.TypeIs (.ref sl) "slice":=⟨os,hos,hcs⟩
 unfold getItem
 try with_reducible refine wpAny_holding ?_
 first | refine wpAny_bind (wpAny_pure ?_) | skip
 refine wpAny_bind (wpAny_sequenceKey ht.typeIs (by decide) ?_)
 refine wpAny_bind (wpAny_callSpecial?_slot (name:=Str.ofString "__getitem__") ht.typeIs PyProof.Rows.slot_tuple_getitem
  (wpAny_call_entry PyProof.Rows.slot_tuple_getitem ht.typeIs entry_tuple_getitem ?_ (args_tuple_getitem _ _)))
 show wpAny _ _ (Builtin.Tuple.tupleItemsOf (.ref t) >>= _) _ _ s
 refine wpAny_bind (tupleItemsOf_ ht ?_)
 refine wpAny_bind (wpAny_typeOf hTs ?_)
 rw [if_pos (by decide)]
 refine wpAny_bind (sliceApplied_gen hs pl pu ?_)
 have hno:¬ ((((sIx items.size 0 lo:Nat):Int)==0&&(1:Int)==1&&(sIx items.size items.size hi-sIx items.size 0 lo)==items.size)=true):=by
  intro q
  rw [Bool.and_eq_true,Bool.and_eq_true] at q
  have q1:((sIx items.size 0 lo:Nat):Int)=0:=eq_of_beq q.1.1
  have q2:sIx items.size items.size hi-sIx items.size 0 lo=items.size:=eq_of_beq q.2
  exact hw ⟨by omega,by omega⟩
 show wpAny _ _ (if (((sIx items.size 0 lo:Nat):Int)==0&&(1:Int)==1&&(sIx items.size items.size hi-sIx items.size 0 lo)==items.size)=true then _ else _) _ _ s
 rw [if_neg hno,b3w]
 first
  | exact wpAny_bind (m:=Builtin.Tuple.tupleExact _) (wpAny_newObj_type (wpAny_pure ⟨_,rfl,wpAny_pure h⟩) htake)
  | exact wpAny_bind (m:=Builtin.Tuple.tupleExact _) (wpAny_newObj_type (wpAny_bind (wpAny_pure (wpAny_pure ⟨_,rfl,wpAny_pure h⟩))) htake)
  | exact wpAny_bind (wpAny_bind (m:=Builtin.Tuple.tupleExact _) (wpAny_newObj_type (wpAny_pure (wpAny_pure ⟨_,rfl,wpAny_pure h⟩)) htake))
  | exact wpAny_bind (wpAny_bind (m:=Builtin.Tuple.tupleExact _) (wpAny_newObj_type (wpAny_pure ⟨_,rfl,wpAny_pure h⟩) htake))
end
end HT
namespace L2
open PySem PySem.Spec PyProof.Rows
noncomputable abbrev TO:=St->Hp->(Option Int->Hp->Prop)->Prop
def PO (X:Cx) (e:Option Expr) (t:TO):Prop:=
 ∀ (pins:List (Addr×Obj)) (s:Shared) (σ:St) (H:Hp) (Q:Option Int->Hp->Prop),Inv X pins σ H s->t σ H Q ->
  wpAny (model X.prog X.w) X.A (evalPart e X.env) (λu s'=>∃ o H',Inv X pins σ H' s'/\IsPart u o/\Q o H') X.xe s
def tNoPart:TO:=λ_ H Q=>Q none H
def c8e (t:TE):TO:=λσ H Q=>t σ H λx H1=>∃ i,x=.int i/\Q (some i) H1
section
variable {X:Cx} {e:Expr} {te:TE} {lo hi:Option Expr} {tl th:TO} {pos p2:Pos}
theorem c0s:PO X none tNoPart:=by
 intro pins s σ H Q I h
 rw [evalPart_none]
 exact wpAny_pure ⟨none,H,I,.none,h⟩
theorem b99 (h:PE X e te):PO X (some e) (c8e te):=by
 intro pins s σ H Q I hw
 rw [evalPart_some]
 refine thn (h pins s σ H _ I hw) λu s1 ⟨x,H1,I1,r1,q1⟩=>?_
 obtain ⟨i,rfl,q⟩:=q1
 obtain ⟨t,rfl⟩:=r1
 exact ⟨some i,H1,I1,.int i t,q⟩
def SlR (X:Cx) (r:V->Option Int->Option Int->Hp->VK->Prop):Prop:=
 ∀ (pins:List (Addr×Obj)) (s:Shared) (σ:St) (H:Hp) (x:V) (v vl vu:Value) (lo hi:Option Int) (sl:Addr) (Q:VK),Inv X pins σ H s->RelV x v->s.heap.IsSliceOf sl vl vu .none->IsPart vl lo->IsPart vu hi->r x lo hi H Q ->
  ∃ T id,typeLookup (.type T) "__getitem__" = pure (some (.builtin id))/\s.TypeIs v T/\wpAny (model X.prog X.w) X.A (getItem v (.ref sl)) (EP X pins σ Q) X.xe s
def tSl (r:V->Option Int->Option Int->Hp->VK->Prop) (te:TE) (tl th:TO):TE:=λσ H Q=>te σ H λx H1=>tl σ H1 λl H2=>th σ H2 λu H3=>r x l u H3 Q
theorem b4w {r:V->Option Int->Option Int->Hp->VK->Prop} (hr:SlR X r) (he:PE X e te) (hl:PO X lo tl) (hu:PO X hi th):PE X (.Subscript e (.Slice lo hi none p2) pos) (tSl r te tl th):=by
 intro pins s σ H Q I h
 refine Subscript_ (thn (he pins s σ H _ I h) λv s1 ⟨x,H1,I1,r1,q1⟩=>?_)
 refine wpAny_Slice (thn (hl pins s1 σ H1 _ I1 q1) λvl s2 ⟨l,H2,I2,pl,q2⟩=>thn (hu pins s2 σ H2 _ I2 q2) λvu s3 ⟨u,H3,I3,pu,q3⟩=>?_)
 rw [evalPart_none]
 refine wpAny_pure ?_
 have I4:Inv X pins σ H3 { s3 with heap:=s3.heap.push { cls:=.type "slice",data:=.fields #[vl,vu,.none] } }:=I3.kept (t':=s3.toks) λb ob q=>Heap.get?_push_of_some _ q
 obtain ⟨T,id,hT,ht,hg⟩:=hr pins { s3 with heap:=s3.heap.push { cls:=.type "slice",data:=.fields #[vl,vu,.none] } } σ H3 x v vl vu l u s3.heap.objs.size Q I4 r1 (Heap.IsSliceOf.new ..) pl pu q3
 show wpAny (model X.prog X.w) X.A (subscriptTail e (.Slice lo hi none p2) v (.ref s3.heap.objs.size)) (EP X pins σ Q) X.xe { s3 with heap:=s3.heap.push { cls:=.type "slice",data:=.fields #[vl,vu,.none] } }
 exact tail_any (ops:=[.ref s3.heap.objs.size,v]) ht hT hg (by with_unfolding_all rfl)
noncomputable def a6q (xs:List V) (lo hi:Option Int):List V:=(xs.drop (HT.sIx xs.length 0 lo)).take (HT.sIx xs.length xs.length hi-HT.sIx xs.length 0 lo)
theorem Z5 (xs:List V) (lo hi:Option Int):(a6q xs lo hi).length<=xs.length:=by
 unfold a6q
 rw [List.length_take,List.length_drop]
 omega
def d3k (K:PySem.W.Frag):V->Option Int->Option Int->Hp->VK->Prop:=λx lo hi H Q=>∃ a xs,x=.ref a/\SqT K H a xs /\
 ¬ (HT.sIx xs.length 0 lo=0/\HT.sIx xs.length xs.length hi=xs.length)/\∀ p,H p=none->Q (.ref p) (upd H p (.tup (a6q xs lo hi)))
theorem c5i:SlR X (d3k X.K):=by
 intro pins s σ H x v vl vu lo hi sl Q I rx hs pl pu h
 obtain ⟨a,xs,rfl,hx,hw,q⟩:=h
 cases rx
 obtain ⟨its,r,ht,hz⟩:=I.tuple hx
 have hlen:its.toArray.size=xs.length:=by rw [List.size_toArray];exact r.length.symm
 refine ⟨"tuple",_,PyProof.Rows.slot_tuple_getitem.lookup,ht.typeIs,?_⟩
 refine HT.getItem_tuple_cut ht hs pl pu (by rw [hlen];exact hw) ?_ (by rw [hlen];exact hz)
 rw [hlen]
 refine ⟨.ref s.heap.objs.size,_,I.laid (t':=s.toks) (o:=.tup (a6q xs lo hi)) (λb ob q=>Heap.get?_push_of_some _ q) (Nat.le_refl _) ?_,rfl,q _ (I.hok.fresh (Nat.le_refl _))⟩
 exact ⟨Nat.le_trans (Z5 xs lo hi) hz,_,(r.drop (HT.sIx xs.length 0 lo)).take (HT.sIx xs.length xs.length hi-HT.sIx xs.length 0 lo),TupN.new _ _⟩
def c9o (K:PySem.W.Frag):R2:=λx y H Q=>∃ a b xs ys,x=.ref a/\y=.ref b/\SqT K H a xs/\SqT K H b ys/\xs≠[]/\xs.length+ys.length<=sizeLine /\
 (ys=[]->Q (.ref a) H)/\(ys≠[]->∀ p,H p=none->Q (.ref p) (upd H p (.tup (xs++ys))))
theorem Vals.nil_iff {xs:List V} {us:List Value} (r:Vals xs us):us=[]↔xs=[]:=by
 cases r with
 | nil=>simp
 | cons _ _=>simp
theorem c0b:OpR X (binaryOp .Add) (c9o X.K):=by
 intro pins s σ H x y v u Q I rx ry h
 obtain ⟨a,b,xs,ys,rfl,rfl,ha,hb,hx,hz,q1,q2⟩:=h
 cases rx
 cases ry
 obtain ⟨its,r1,p1,_⟩:=I.tuple ha
 obtain ⟨its2,r2,p2,_⟩:=I.tuple hb
 refine HT.cat_tup p1 p2 (λz=>hx (r1.nil_iff.mp z)) (λz=>⟨.ref a,H,I,rfl,q1 (r2.nil_iff.mp z)⟩) (λz=>?_) (by rw [<- r1.length,<- r2.length];exact hz)
 refine ⟨.ref s.heap.objs.size,_,I.laid (t':=s.toks) (o:=.tup (xs++ys)) (λb ob q=>Heap.get?_push_of_some _ q) (Nat.le_refl _) ?_,rfl,q2 (λw=>z (r2.nil_iff.mpr w)) _ (I.hok.fresh (Nat.le_refl _))⟩
 exact ⟨by rw [List.length_append];exact hz,_,r1.append r2,TupN.new _ _⟩
end
noncomputable def ixN (n:Nat) (i:Int):Option Nat:=if 0<=i then (if i<n then some i.toNat else none) else if -(n:Int)<=i then some (i+n).toNat else none
noncomputable def atI {α:Type} (xs:List α) (i:Int):Option α:=(ixN xs.length i).bind λj=>xs[j]?
theorem a8b {n:Nat} {i:Int} {j:Nat} (h:ixN n i=some j):seqIndex? i n=some j/\j<n/\-(n:Int)<=i/\i<n:=by
 unfold ixN at h
 by_cases h0:0<=i
 ·rw [if_pos h0] at h
  by_cases h1:i<n
  ·rw [if_pos h1] at h
   have e:i.toNat=j:=Option.some.inj h
   exact ⟨by rw [seqIndex_of h0 h1,e],by omega,by omega,h1⟩
  ·rw [if_neg h1] at h;cases h
 ·rw [if_neg h0] at h
  by_cases h1:-(n:Int)<=i
  ·rw [if_pos h1] at h
   have e:(i+n).toNat=j:=Option.some.inj h
   exact ⟨by rw [seqIndex_neg (by omega) h1,e],by omega,h1,by omega⟩
  ·rw [if_neg h1] at h;cases h
theorem b0b {α:Type} {xs:List α} {i:Int} {v:α} (h:atI xs i=some v):∃ j,seqIndex? i xs.length=some j/\xs[j]?=some v/\j<xs.length/\-(xs.length:Int)<=i/\i<xs.length:=by
 unfold atI at h
 cases e:ixN xs.length i with
 | none=>rw [e] at h;cases h
 | some j=>
  rw [e] at h
  obtain ⟨h1,h2,h3,h4⟩:=a8b e
  exact ⟨j,h1,h,h2,h3,h4⟩
theorem a3u {α:Type} {xs:List α} {j:Nat} {v:α} (h:xs[j]?=some v):atI xs (j:Int)=some v:=by
 have hj:j<xs.length:=(List.getElem?_eq_some_iff.mp h).1
 have e:ixN xs.length (j:Int)=some j:=by
  unfold ixN
  rw [if_pos (by omega),if_pos (by omega)];simp
 unfold atI;rw [e];exact h
def a4b (b:Expr):Prop:=∀ o i,subscripted b false o i=operate [o,i] (getItem o i)
def IxR (X:Cx) (r:R2):Prop:=
 ∀ (value slice:Expr) (pins:List (Addr×Obj)) (s:Shared) (σ:St) (H:Hp) (x y:V) (v u:Value) (Q:VK),Inv X pins σ H s->RelV x v->RelV y u->r x y H Q ->
  subscripted slice false v u=operate [v,u] (getItem v u)->wpAny (model X.prog X.w) X.A (subscriptTail value slice v u) (EP X pins σ Q) X.xe s
def MtR (X:Cx) (id:String) (r:V->List V->Hp->VK->Prop):Prop:=
 ∀ (pins:List (Addr×Obj)) (s:Shared) (σ:St) (H:Hp) (x:V) (xs:List V) (v:Value) (us:List Value) (Q:VK),Inv X pins σ H s->RelV x v->Vals xs us->r x xs H Q ->
  wpAny (model X.prog X.w) X.A (call (.builtin id) (v :: us)) (EP X pins σ Q) X.xe s
section
variable {X:Cx} {a b:Expr} {ta tb:TE} {pos:Pos}
theorem d0q {r:R2} (hr:IxR X r) (ha:PE X a ta) (hb:PE X b tb) (hs:a4b b):PE X (.Subscript a b pos) (tOp r ta tb):=by
 intro pins s σ H Q I h
 exact Subscript_ (c2o ha hb I h λv u s2 x y H2 I2 rx ry q=>hr a b pins s2 σ H2 x y v u Q I2 rx ry q (hs _ _))
def d12 (K:PySem.W.Frag):R2:=λx y H Q=>∃ p xs i v,x=.ref p/\y=.int i/\SqL K H p xs/\atI xs i=some v/\Q v H
def d2i (K:PySem.W.Frag):R2:=λx y H Q=>∃ p xs i v,x=.ref p/\y=.int i/\SqT K H p xs/\atI xs i=some v/\Q v H
theorem b7v:IxR X (d12 X.K):=by
 intro value slice pins s σ H x y v u Q I rx ry h hs
 obtain ⟨p,xs,i,z,rfl,rfl,hq,he,q⟩:=h
 cases rx
 obtain ⟨t,rfl⟩:=ry
 obtain ⟨its,r,pl,hz⟩:=I.list hq
 obtain ⟨j,h1,h2,h3,h4,h5⟩:=b0b he
 obtain ⟨w,ew,rw'⟩:=r.get h2
 have hl:=r.length
 have hn:=X7
 have fin:EP X pins σ Q w s:=⟨z,H,I,rw',q⟩
 by_cases h0:0<=i
 ·have hj:i.toNat=j:=by
   rw [seqIndex_of h0 h5] at h1
   exact Option.some.inj h1
  exact item_listR pl.isList h0 (by omega) (by rw [hj];simpa using ew) fin hs
 ·have hj:(i+(its.toArray.size:Int)).toNat=j:=by
   rw [seqIndex_neg (by omega) h4] at h1
   rw [List.size_toArray,<- hl]
   exact Option.some.inj h1
  exact subscriptTail_builtinR (x:=w) pl.isList.typeIs slot_list_getitem.lookup
   (wpAny_getItem_list_neg (Q:=λr s'=>r=w/\EP X pins σ Q r s') pl.isList (by omega) (by rw [List.size_toArray] <;> omega) (by omega) (by rw [hj];simpa using ew) ⟨rfl,fin⟩) hs
theorem c5w:IxR X (d2i X.K):=by
 intro value slice pins s σ H x y v u Q I rx ry h hs
 obtain ⟨p,xs,i,z,rfl,rfl,hq,he,q⟩:=h
 cases rx
 obtain ⟨t,rfl⟩:=ry
 obtain ⟨its,r,pl,hz⟩:=I.tuple hq
 obtain ⟨j,h1,h2,h3,h4,h5⟩:=b0b he
 obtain ⟨w,ew,rw'⟩:=r.get h2
 have hl:=r.length
 have hn:=X7
 have fin:EP X pins σ Q w s:=⟨z,H,I,rw',q⟩
 exact subscriptTail_builtinR (x:=w) pl.typeIs slot_tuple_getitem.lookup
  (getItem_tuple (j:=j) (Q:=λr s'=>r=w/\EP X pins σ Q r s') pl (by omega) (by omega) (by rw [List.size_toArray,<- hl];exact h1) (by simpa using ew) ⟨rfl,fin⟩) hs
theorem a7j (its:List Value) (n j:Nat) (u:Value):Obj.mapSeq (·.setIfInBounds j u) { cls:=.type "list",data:=.seq its.toArray n }={ cls:=.type "list",data:=.seq (its.set j u).toArray n }:=by
 simp [Obj.mapSeq]
theorem Inv.lst {pins:List (Addr×Obj)} {σ:St} {H:Hp} {s:Shared} {p:Addr} {xs:List V} (I:Inv X pins σ H s) (h:H p=some (.lst xs)) :
  ∃ (its:List Value) (n:Nat),Vals xs its/\s.heap.get? p=some { cls:=.type "list",data:=.seq its.toArray n }/\xs.length<=sizeLine:=by
 obtain ⟨z,its,n,r,e⟩:=I.hok p _ h
 exact ⟨its,n,r,e,z⟩
theorem Inv.lstUpd {pins:List (Addr×Obj)} {σ:St} {H:Hp} {s:Shared} {p:Addr} {xs ys:List V} {its its':List Value} {n n':Nat} {f:Obj->Obj} (I:Inv X pins σ H s) (h:H p=some (.lst xs))
  (ho:s.heap.get? p=some { cls:=.type "list",data:=.seq its.toArray n }) (hf:f { cls:=.type "list",data:=.seq its.toArray n }={ cls:=.type "list",data:=.seq its'.toArray n' }) (r:Vals ys its') (hz:ys.length<=sizeLine) (t:Nat) :
  Inv X pins σ (upd H p (.lst ys)) { s with heap:=s.heap.update p f,toks:=t }:=by
 have e:(s.heap.update p f).get? p=some { cls:=.type "list",data:=.seq its'.toArray n' }:=by
  rw [Heap.get?_update_self f ho (by rw [hf] <;> rfl),hf]
 refine I.write (x:=p) (e:=p) (by rw [h];trivial) (.inl rfl) (λb u hb q=>(Heap.get?_update_other _ _ (Ne.symm hb)).trans q) ⟨_,e⟩ ?_
 exact ⟨hz,its',n',r,e⟩
def rSetL:V->V->V->Hp->(Hp->Prop)->Prop:=λo i v H Q=>∃ p xs k j,o=.ref p/\i=.int k/\H p=some (.lst xs)/\ixN xs.length k=some j/\Q (upd H p (.lst (xs.set j v)))
theorem b3j:c37 X rSetL:=by
 intro pins s σ H o i v ov iv u Q I ro ri rv h
 obtain ⟨p,xs,k,j,rfl,rfl,hp,hj,q⟩:=h
 cases ro
 obtain ⟨t,rfl⟩:=ri
 obtain ⟨its,n,r,ho,hz⟩:=I.lst hp
 obtain ⟨h1,h2,h3,h4⟩:=a8b hj
 have hl:=r.length
 have hn:=X7
 have I':Inv X pins σ (upd H p (.lst (xs.set j v))) { s with heap:=s.heap.update p (Obj.mapSeq (·.setIfInBounds j u)) }:=
  I.lstUpd hp ho (a7j its n j u) (r.set rv j) (by rw [List.length_set];exact hz) s.toks
 by_cases h0:0<=k
 ·have hk:k.toNat=j:=by
   rw [seqIndex_of h0 h4] at h1
   exact Option.some.inj h1
  exact PySem.W.ki_setAt ho h0 (by omega) (by rw [List.size_toArray,<- hl];exact h4) (by rw [hk];exact ⟨_,I',q⟩)
 ·have hk:(k+(its.toArray.size:Int)).toNat=j:=by
   rw [seqIndex_neg (by omega) h3] at h1
   rw [List.size_toArray,<- hl]
   exact Option.some.inj h1
  exact PySem.W.ki_setBack ho (by omega) (by rw [List.size_toArray,<- hl];exact h3) (by omega) (by rw [hk];exact ⟨_,I',q⟩)
theorem a3s (lo hi:Option Int) (n:Nat):(sliceBounds lo hi none n).1=((HT.sIx n 0 lo:Nat):Int)/\(sliceBounds lo hi none n).2.1=((HT.sIx n n hi:Nat):Int)/\(sliceBounds lo hi none n).2.2=1:=by
 refine ⟨?_,?_,rfl⟩
 ·cases lo with
  | none=>simp [sliceBounds,HT.sIx]
  | some i=>
   simp only [sliceBounds,HT.sIx,Option.getD_none,show (1:Int) > 0 by decide,if_true]
   by_cases h:i<0
   ·simp only [h,if_true] <;> omega
   ·simp only [h,if_false] <;> omega
 ·cases hi with
  | none=>simp [sliceBounds,HT.sIx]
  | some i=>
   simp only [sliceBounds,HT.sIx,Option.getD_none,show (1:Int) > 0 by decide,if_true]
   by_cases h:i<0
   ·simp only [h,if_true] <;> omega
   ·simp only [h,if_false] <;> omega
theorem a2n (its:List Value) (lo hi:Option Int):slicePick its.toArray lo hi none=((its.drop (HT.sIx its.length 0 lo)).take (HT.sIx its.length its.length hi-HT.sIx its.length 0 lo)).toArray:=by
 obtain ⟨h1,h2,h3⟩:=a3s lo hi its.toArray.size
 unfold slicePick
 rw [h1,h2,h3]
 simp only [sliceRange_one,pick_run,List.size_toArray] <;> rfl
def d2l (K:PySem.W.Frag):V->Option Int->Option Int->Hp->VK->Prop:=λx lo hi H Q=>∃ a xs,x=.ref a/\SqL K H a xs/\∀ p,H p=none->Q (.ref p) (upd H p (.lst (a6q xs lo hi)))
theorem b8i:SlR X (d2l X.K):=by
 intro pins s σ H x v vl vu lo hi sl Q I rx hs pl pu h
 obtain ⟨a,xs,rfl,hx,q⟩:=h
 cases rx
 obtain ⟨its,r,ht,hz⟩:=I.list hx
 have hlen:=r.length
 refine ⟨"list",_,slot_list_getitem.lookup,ht.isList.typeIs,?_⟩
 refine wpAny_getItem_list_slice ht.isList hs pl pu .none (by simp) ?_ (by rw [List.size_toArray] <;> omega)
 rw [a2n,<- hlen]
 refine ⟨.ref s.heap.objs.size,_,I.laid (t':=s.toks) (o:=.lst (a6q xs lo hi)) (λb ob q=>Heap.get?_push_of_some _ q) (Nat.le_refl _) ?_,rfl,q _ (I.hok.fresh (Nat.le_refl _))⟩
 exact ⟨Nat.le_trans (Z5 xs lo hi) hz,_,0,(r.drop (HT.sIx xs.length 0 lo)).take (HT.sIx xs.length xs.length hi-HT.sIx xs.length 0 lo),Heap.get?_push_size _ rfl⟩
theorem a3w:j3 X (.builtin "len") (λxs H Q=>∃ p ys,xs=[.ref p]/\(SqL X.K H p ys\/SqT X.K H p ys)/\Q (.int ys.length) H):=by
 intro pins s σ H xs us Q I r h
 obtain ⟨p,ys,rfl,hq,q⟩:=h
 obtain ⟨u,rfl,rx⟩:=K0 r
 cases rx
 have hn:=X7
 rcases hq with hq | hq
 ·obtain ⟨its,r',pl,hz⟩:=I.list hq
  have hlen:=r'.length
  exact Calls.call_len_list pl.isList (by simp only [List.size_toArray] <;> omega) ⟨.int ys.length,H,I.tok _,⟨s.toks+1,by rw [List.size_toArray,hlen]⟩,q⟩
 ·obtain ⟨its,r',pl,hz⟩:=I.tuple hq
  have hlen:=r'.length
  exact len_tuple pl (by simp only [List.size_toArray] <;> omega) ⟨.int ys.length,H,I.tok _,⟨s.toks+1,by rw [List.size_toArray,hlen]⟩,q⟩
theorem a4m:j3 X (.builtin "len") (λxs H Q=>∃ z,xs=[.str z]/\z.length<=sizeLine/\Q (.int z.length) H):=by
 intro pins s σ H xs us Q I r h
 obtain ⟨z,rfl,hz,q⟩:=h
 obtain ⟨u,rfl,t,rfl⟩:=K0 r
 have hn:=X7
 exact len_str (by omega) ⟨.int z.length,H,I.tok _,⟨_,rfl⟩,q⟩
theorem a3q:j3 X (.type "list") (λxs H Q=>∃ p ys,xs=[.ref p]/\(SqL X.K H p ys\/SqT X.K H p ys)/\∀ l,H l=none->Q (.ref l) (upd H l (.lst ys))):=by
 intro pins s σ H xs us Q I r h
 obtain ⟨p,ys,rfl,hq,q⟩:=h
 obtain ⟨u,rfl,rx⟩:=K0 r
 cases rx
 have fin:∀ (its:List Value),Vals ys its->ys.length<=sizeLine->∀ (h':Heap) (c':Nat),(∀ b o',s.heap.get? b=some o'->h'.get? b=some o') ->
   h'.get? s.heap.objs.size=some { cls:=.type "list",dict:=none,data:=.seq its.toArray c',slots:=#[] }->EP X pins σ Q (.ref s.heap.objs.size) { s with heap:=h' }:=λits r' hz h' c' kp e=>
  ⟨.ref s.heap.objs.size,_,I.laid (t':=s.toks) kp (Nat.le_refl _) (show ObjOk X.prog X.w _ h' _ (.lst ys) from ⟨hz,its,c',r',e⟩),rfl,q _ (I.hok.fresh (Nat.le_refl _))⟩
 rcases hq with hq | hq
 ·obtain ⟨its,r',pl,hz⟩:=I.list hq
  have hlen:=r'.length
  obtain ⟨o,ho,hc,n,hd⟩:=pl.isList
  exact call_list_seq p (.inl rfl) ho hc hd (λh' c' kp e=>fin its r' hz h' c' kp e) (by simp only [List.size_toArray] <;> omega)
 ·obtain ⟨its,r',pl,hz⟩:=I.tuple hq
  have hlen:=r'.length
  obtain ⟨o,ho,hc,n,hd⟩:=pl
  exact call_list_seq p (.inr rfl) ho hc hd (λh' c' kp e=>fin its r' hz h' c' kp e) (by simp only [List.size_toArray] <;> omega)
theorem Q0:j3 X (.type "tuple") (λxs H Q=>∃ p ys,xs=[.ref p]/\((SqL X.K H p ys/\∀ l,H l=none->Q (.ref l) (upd H l (.tup ys)))\/(SqT X.K H p ys/\Q (.ref p) H))):=by
 intro pins s σ H xs us Q I r h
 obtain ⟨p,ys,rfl,h⟩:=h
 obtain ⟨u,rfl,rx⟩:=K0 r
 cases rx
 rcases h with ⟨hq,q⟩ | ⟨hq,q⟩
 ·obtain ⟨its,r',pl,hz⟩:=I.list hq
  have hlen:=r'.length
  refine call_tuple_list pl.isList (λh' kp=>?_) (by simp only [List.size_toArray] <;> omega)
  have I1:Inv X pins σ H { s with heap:=h' }:=I.kept (t':=s.toks) kp
  have I2:Inv X pins σ (upd H h'.objs.size (.tup ys)) { s with heap:=h'.push { cls:=.type "tuple",data:=.seq its.toArray } }:=
   I1.laid (t':=s.toks) (λb o e=>Heap.get?_push_of_some _ e) (Nat.le_refl _) (show ObjOk X.prog X.w _ _ _ (.tup ys) from ⟨hz,its,r',TupN.new _ _⟩)
  exact ⟨.ref h'.objs.size,_,I2,rfl,q _ (I1.hok.fresh (Nat.le_refl _))⟩
 ·obtain ⟨its,r',pl,hz⟩:=I.tuple hq
  exact call_tuple_same pl ⟨.ref p,H,I,rfl,q⟩
def tyV (K:PySem.W.Frag) (T:String) (x:V) (H:Hp):Prop:=match x with
 | .str _=>T = "str"
 | .int _=>T = "int"
 | .ref p=>(T = "list"/\∃ xs,SqL K H p xs)\/(T = "tuple"/\∃ o,K.lookup p=some o/\o.cls=.type "tuple"/\o.dict=none) \/
   (T = "dict"/\((∃ kvs,H p=some (.dK kvs))\/∃ kvs,H p=some (.dT kvs)))\/(T = "set"/\∃ S n,H p=some (.set S n))\/(T = "tuple"/\∃ xs,Rd H p (.tup xs))
 | _=>False
theorem b5x {pins:List (Addr×Obj)} {σ:St} {H:Hp} {s:Shared} {T:String} {x:V} {v:Value} (I:Inv X pins σ H s) (r:RelV x v) (ty:tyV X.K T x H) :
  s.TypeIs v T/\∀ a,v=.ref a->∃ ob,s.heap.get? a=some ob/\ob.dict=none:=by
 cases x with
 | str z=>
  obtain ⟨t,rfl⟩:=r
  cases (show T = "str" from ty)
  exact ⟨typeIs_str s z t,λ_ e=>nomatch e⟩
 | int i=>
  obtain ⟨t,rfl⟩:=r
  cases (show T = "int" from ty)
  exact ⟨typeIs_int s i t,λ_ e=>nomatch e⟩
 | ref p=>
  cases r
  rcases ty with ⟨rfl,xs,hq⟩ | ⟨rfl,o,hk,hc,hd⟩ | ⟨rfl,hk⟩ | ⟨rfl,S,n,hk⟩ | ⟨rfl,xs,hk⟩
  ·obtain ⟨its,_,pl,_⟩:=I.list hq
   refine ⟨pl.isList.typeIs,λa e=>?_⟩
   cases e
   obtain ⟨o,n,e,c,hd,_⟩:=pl
   exact ⟨o,e,hd⟩
  ·refine ⟨⟨o,I.kIn p o hk,hc⟩,λa e=>?_⟩
   cases e
   exact ⟨o,I.kIn _ o hk,hd⟩
  ·have z:∃ o,s.heap.get? p=some o/\o.ExactDict:=by
    rcases hk with ⟨kvs,hk⟩ | ⟨kvs,hk⟩
    ·obtain ⟨_,_,_,_,o,_,_,e,ex,_⟩:=I.hok p _ hk
     exact ⟨o,e,ex⟩
    ·obtain ⟨_,_,_,_,o,_,_,e,ex,_⟩:=I.hok p _ hk
     exact ⟨o,e,ex⟩
   obtain ⟨o,e,ex⟩:=z
   refine ⟨⟨o,e,ex.1⟩,λa e2=>?_⟩
   cases e2
   exact ⟨o,e,ex.2.1⟩
  ·obtain ⟨o,_,_,_,e,ex,_⟩:=I.hok p _ hk
   refine ⟨⟨o,e,ex.1⟩,λa e2=>?_⟩
   cases e2
   exact ⟨o,e,ex.2.1⟩
  ·obtain ⟨_,its,_,o,e,c,n,_,hd⟩:=(show ObjOk X.prog X.w H s.heap p (.tup xs) from hk.ok I.hok)
   exact ⟨⟨o,e,c⟩,λa e2=>by cases e2;exact ⟨o,e,hd⟩⟩
 | _=>exact False.elim ty
def d3a (K:PySem.W.Frag) (T:String) (r:V->List V->Hp->VK->Prop) (to:TE):TE:=λσ H Q=>to σ H λx H1=>tyV K T x H1/\r x [] H1 Q
def tBM (K:PySem.W.Frag) (T:String) (r:V->List V->Hp->VK->Prop) (to:TE) (t:TA):TE:=λσ H Q=>to σ H λx H1=>tyV K T x H1/\t σ H1 λxs H2=>r x xs H2 Q
variable {o e:Expr} {es:List Expr} {to:TE} {t:TA} {name:Str} {apos cpos:Pos} {T id:String} {r:V->List V->Hp->VK->Prop}
theorem c5x (pa:PlainAttrs T) (slot:Slot T name id) (hty:typeOf (.builtin id)=pure (.type "method_descriptor")) (hm:MtR X id r) (ho:PE X o to)
  (hbase:attributeBase o name X.env (eval o X.env)=eval o X.env:=by rfl) (hline:(apos.endLine==cpos.line)=true:=by rfl):PE X (.Call (.Attribute o name apos) [] [] cpos) (d3a X.K T r to):=by
 intro pins s σ H Q I h
 refine wpAny_Call_method0_late hbase hline (thn (ho pins s σ H _ I h) λv s1 ⟨x,H1,I1,r1,ty,q1⟩=>?_)
 obtain ⟨h1,h2⟩:=b5x I1 r1 ty
 exact ⟨T,id,pa,slot,hty,h1,h2,Calls.callWith_builtin rfl (PySem.evalArgs_none (hm pins s1 σ H1 x [] v [] Q I1 r1 .nil q1))⟩
theorem d0p (pa:PlainAttrs T) (slot:Slot T name id) (hty:typeOf (.builtin id)=pure (.type "method_descriptor")) (hm:MtR X id r) (ho:PE X o to) (ha:PA X (e :: es) t)
  (hbase:attributeBase o name X.env (eval o X.env)=eval o X.env:=by rfl)
  (hfew:((backTo cpos (starEach (e :: es) X.env)).all (λx=>!x.1)&&(backToKw cpos (keywordEach [] X.env)).all (λx=>x.1.isSome)
   && decide ((e :: es).length+([]:List Keyword).length+(if ([]:List Keyword).isEmpty then 0 else 1)<30))=true:=by rfl)
  (hline:(apos.endLine==cpos.line)=true:=by rfl) (hs:starEach (e :: es) X.env=(false,eval e X.env) :: starEach es X.env:=by rfl) (hplain:(backTo cpos (starEach es X.env)).any (·.1)=false:=by rfl) :
  PE X (.Call (.Attribute o name apos) (e :: es) [] cpos) (tBM X.K T r to t):=by
 intro pins s σ H Q I h
 refine wpAny_Call_method_late hbase hfew hline rfl (thn (ho pins s σ H _ I h) λv s1 ⟨x,H1,I1,r1,ty,q1⟩=>?_)
 obtain ⟨h1,h2⟩:=b5x I1 r1 ty
 refine ⟨T,id,pa,slot,hty,h1,h2,?_⟩
 have hA:=ha cpos pins s1 σ H1 _ I1 q1
 rw [hs] at hA ⊢
 refine Calls.callWith_builtin (by show (false||(backTo cpos (starEach es X.env)).any (·.1))=false;rw [hplain] <;> rfl) (Calls.evalArgs_plain ?_)
 exact thn hA λus s2 ⟨vs,H2,I2,r2,q2⟩=>hm pins s2 σ H2 x vs v us Q I2 r1 r2 q2
end
def MtM (X:Cx) (id:String) (r:V->List V->Hp->VK->Prop):Prop:=
 ∀ (pins:List (Addr×Obj)) (s:Shared) (σ:St) (H:Hp) (x:V) (xs:List V) (v:Value) (us:List Value) (Q:VK),Inv X pins σ H s->RelV x v->Vals xs us->r x xs H Q ->
  wpAny (model X.prog X.w) X.A (call (.builtin id) (v :: us)) (EP X pins σ Q) X.xe s
theorem Vals.one:∀ {x:V} {us:List Value},Vals [x] us->∃ u,us=[u]/\RelV x u
 | _,_,.cons r .nil=>⟨_,rfl,r⟩
theorem Vals.rep {xs:List V} {us:List Value} (h:Vals xs us):∀ k:Nat,Vals (List.replicate k xs).flatten (List.replicate k us).flatten
 | 0=>.nil
 | k+1=>by
  rw [List.replicate_succ,List.replicate_succ,List.flatten_cons,List.flatten_cons]
  exact Vals.append h (Vals.rep h k)
theorem X3 (its:List Value):∀ (k:Nat) (acc:List Value),
  List.foldl (λx1 x2=>x1++x2) acc.toArray (List.replicate k its.toArray)=(acc++(List.replicate k its).flatten).toArray
 | 0,acc=>by simp
 | k+1,acc=>by
  have e:acc.toArray++its.toArray=(acc++its).toArray:=by simp
  have e2:(acc++its)++(List.replicate k its).flatten=acc++(List.replicate (k+1) its).flatten:=by
   rw [List.replicate_succ,List.flatten_cons,List.append_assoc]
  rw [<- e2,<- X3 its k (acc++its),<- e,List.replicate_succ,List.foldl_cons]
section
variable {X:Cx} {pins:List (Addr×Obj)} {σ:St} {H:Hp} {s:Shared} {l b:Addr} {xs ys zs:List V}
theorem Inv.lset {its its':List Value} {n:Nat} {f:Array Value->Array Value} {t':Nat} (I:Inv X pins σ H s) (hH:H l=some (.lst xs))
  (e:s.heap.get? l=some { cls:=.type "list",data:=.seq its.toArray n }) (hf:f its.toArray=its'.toArray) (hv:Vals ys its') (hz:ys.length<=sizeLine) :
  Inv X pins σ (upd H l (.lst ys)) { s with heap:=s.heap.update l (Obj.mapSeq f),toks:=t' }:=by
 have q:=PySem.IsL.update e f
 rw [hf] at q
 refine I.write (x:=l) (e:=l) (by rw [hH];exact trivial) (.inl rfl) (λb' u hb hu=>(Heap.get?_update_other s.heap (Obj.mapSeq f) (Ne.symm hb)).trans hu) ⟨_,q⟩ ?_
 exact ⟨hz,its',_,hv,q⟩
theorem Inv.lnew {its:List Value} {t':Nat} (I:Inv X pins σ H s) (hv:Vals ys its) (hz:ys.length<=sizeLine) :
  Inv X pins σ (upd H s.heap.objs.size (.lst ys)) { s with heap:=s.heap.push { cls:=.type "list",data:=.seq its.toArray },toks:=t' }:=
 I.laid (λ_ _ q=>Heap.get?_push_of_some _ q) (Nat.le_refl _) ⟨hz,its,0,hv,Heap.get?_push_size _ rfl⟩
theorem Inv.fresh (I:Inv X pins σ H s):H s.heap.objs.size=none:=I.hok.fresh (Nat.le_refl _)
theorem Inv.lstM (I:Inv X pins σ H s) (hH:H l=some (.lst xs)):xs.length<=sizeLine/\∃ (its:List Value) (n:Nat),Vals xs its/\xs.length=its.length/\s.heap.get? l=some { cls:=.type "list",data:=.seq its.toArray n }:=by
 obtain ⟨z,its,n,r,e⟩:=I.hok l _ hH
 exact ⟨z,its,n,r,r.length,e⟩
theorem b4n {n:Nat} (h:n<=sizeLine):Builtin.List.listTooLong n=false:=by
 unfold Builtin.List.listTooLong
 exact decide_eq_false (by omega)
end
section
variable {X:Cx}
def rAppend:V->List V->Hp->VK->Prop:=λx vs H Q=>∃ l xs y,x=.ref l/\vs=[y]/\H l=some (.lst xs)/\xs.length<sizeLine/\Q .non (upd H l (.lst (xs++[y])))
theorem a28:MtM X "list.append" rAppend:=by
 intro pins s σ H x vs v us Q I rx rv h
 obtain ⟨l,xs,y,rfl,rfl,hH,hz,q⟩:=h
 cases rx
 obtain ⟨u,rfl,ru⟩:=rv.one
 obtain ⟨z,its,n,r,hl,e⟩:=I.lstM hH
 refine call_meets F.slot_list_append ⟨_,e,rfl⟩ F.entry_list_append (F.args_list_append_2 _ _) (PySem.list_append l its.toArray n u (by rw [List.size_toArray];omega)) ⟨e,?_⟩
 refine ⟨.non,_,I.lset (its':=its++[u]) hH e (by simp) (r.append (.cons ru .nil)) ?_,rfl,q⟩
 rw [List.length_append,List.length_singleton]
 omega
def rCat:R2:=λx y H Q=>∃ l b xs zs,x=.ref l/\y=.ref b/\H l=some (.lst xs)/\H b=some (.lst zs)/\xs.length+zs.length<=sizeLine/\∀ p,H p=none->Q (.ref p) (upd H p (.lst (xs++zs)))
theorem c3a:OpR X (binaryOp .Add) rCat:=by
 intro pins s σ H x y v u Q I rx ry h
 obtain ⟨l,b,xs,zs,rfl,rfl,hH,hB,hz,q⟩:=h
 cases rx
 cases ry
 obtain ⟨z,its,n,r,hl,e⟩:=I.lstM hH
 obtain ⟨z2,its2,n2,r2,hl2,e2⟩:=I.lstM hB
 refine PySem.P.add_list e e2 ?_ (by rw [List.size_toArray,List.size_toArray];omega)
 have ea:its.toArray++its2.toArray=(its++its2).toArray:=by simp
 rw [ea]
 exact ⟨.ref _,_,I.lnew (t':=s.toks) (r.append r2) (by rw [List.length_append];omega),rfl,q _ I.fresh⟩
def rRep:R2:=λx y H Q=>∃ l k xs,x=.ref l/\y=.int k/\H l=some (.lst xs)/\-(2 ^ 63)<=k/\k<2 ^ 63/\xs.length * k.toNat<=sizeLine /\
 ∀ p,H p=none->Q (.ref p) (upd H p (.lst (List.replicate k.toNat xs).flatten))
theorem a8s {α:Type} (xs:List α) (k:Nat):(List.replicate k xs).flatten.length=k * xs.length:=by
 induction k with
 | zero=>simp
 | succ k ih=>rw [List.replicate_succ,List.flatten_cons,List.length_append,ih,Nat.succ_mul,Nat.add_comm]
theorem c6i:OpR X (binaryOp .Mult) rRep:=by
 intro pins s σ H x y v u Q I rx ry h
 obtain ⟨l,k,xs,rfl,rfl,hH,h1,h2,hz,q⟩:=h
 cases rx
 obtain ⟨t,rfl⟩:=ry
 obtain ⟨z,its,n,r,hl,e⟩:=I.lstM hH
 have hlen:its.toArray.size * k.toNat<=sizeLine:=by rw [List.size_toArray,<- hl];exact hz
 have hcap:¬ its.toArray.size * k.toNat > (2 ^ 63-1) / 8:=by
  have:(sizeLine:Nat)<=(2 ^ 63-1) / 8:=by decide
  omega
 have hfit:¬ (!Builtin.List.listFitsIndex k)=true:=by
  rw [fitsIndex_both h1 h2]
  exact Bool.false_ne_true
 have hlong:¬ Builtin.List.listTooLong (its.toArray.size * k.toNat)=true:=by
  rw [b4n hlen]
  exact Bool.false_ne_true
 have hnew:List.foldl (λx1 x2=>x1++x2) #[] (List.replicate (if its.toArray.isEmpty=true then 0 else k.toNat) its.toArray)=(List.replicate k.toNat its).flatten.toArray:=by
  have f0:∀ m:Nat,List.foldl (λx1 x2=>x1++x2) #[] (List.replicate m its.toArray)=(List.replicate m its).flatten.toArray:=λm=>by
   have:=X3 its m []
   rw [List.nil_append] at this
   exact this
  rw [f0]
  cases its with
  | nil=>simp
  | cons a r'=>rw [if_neg (by simp)]
 refine wpAny_binaryOp_repeat_ref (T:="list") (U:="int") (by decide) ⟨_,e,rfl⟩ (λs'=>typeIs_int s' k t) noFill_list_mul F.fills_int_mul F.slot_int_rmul repeat_list F.slot_int_index.lookup
  (call_meets F.slot_int_rmul (typeIs_int s k t) F.entry_int_rmul (F.args_int_rmul_2 _ _) (int___rmul___int_list k t l its.toArray n)
   ⟨e,rfl,⟨_,e,rfl⟩,call_meets F.slot_list_mul ⟨_,e,rfl⟩ F.entry_list_mul (F.args_list_mul_2 _ _) (AutoListH.list___mul___list_int_3 l its.toArray n k t hfit hcap hlong) ⟨e,?_⟩⟩)
 rw [hnew]
 exact ⟨.ref _,_,I.lnew (t':=s.toks) (r.rep k.toNat) (by rw [a8s,Nat.mul_comm];exact hz),rfl,q _ I.fresh⟩
end
section
variable {κ:Type} [DecidableEq κ]
noncomputable def P4 (kvs:List (κ×V)) (k:κ):Option V:=(kvs.find? λkv=>decide (kv.1=k)).map (·.2)
noncomputable def C7 (kvs:List (κ×V)) (k:κ) (v:V):List (κ×V):=
 if (kvs.any λkv=>decide (kv.1=k))=true then kvs.map (λkv=>if kv.1=k then (kv.1,v) else kv) else kvs++[(k,v)]
theorem V3 {p:κ×V} {r:List (κ×V)} {k:κ} (e:p.1=k):P4 (p :: r) k=some p.2:=by simp [P4,List.find?_cons,e]
theorem W5 {p:κ×V} {r:List (κ×V)} {k:κ} (e:¬ p.1=k):P4 (p :: r) k=P4 r k:=by simp [P4,List.find?_cons,e]
theorem a41 (k:κ):∀ kvs:List (κ×V),(kvs.any λkv=>decide (kv.1=k))=(P4 kvs k).isSome
 | []=>rfl
 | p :: r=>by
  rw [List.any_cons]
  by_cases e:p.1=k
  ·simp only [V3 e,decide_eq_true e,Bool.true_or,Option.isSome_some]
  ·rw [W5 e,decide_eq_false e,Bool.false_or];exact a41 k r
theorem L7 (kvs:List (κ×V)) (k:κ) (v:V):(C7 kvs k v).length<=kvs.length+1:=by
 unfold C7
 split
 ·rw [List.length_map];omega
 ·rw [List.length_append,List.length_cons,List.length_nil];omega
theorem RelO.isSome_eq {o:Option V} {u:Option Value} (r:RelO o u):o.isSome=u.isSome:=by
 cases o with
 | none=>cases u with
  | none=>rfl
  | some _=>exact (show False from r).elim
 | some _=>cases u with
  | none=>exact (show False from r).elim
  | some _=>rfl
theorem RelO.getD {o:Option V} {u:Option Value} {d:V} {d':Value} (r:RelO o u) (rd:RelV d d'):RelV (o.getD d) (u.getD d'):=by
 cases o with
 | none=>cases u with
  | none=>exact rd
  | some _=>exact (show False from r).elim
 | some _=>cases u with
  | none=>exact (show False from r).elim
  | some _=>exact r
theorem KV.val {kvs:List (κ×V)} {vs:List (κ×Value)} (r:KV kvs vs) (k:κ):RelO (P4 kvs k) (valueAt vs k):=by
 unfold KV at r
 induction r with
 | nil=>exact True.intro
 | @cons p q ps qs h t ih=>
  obtain ⟨h1,h2⟩:=h
  by_cases e:p.1=k
  ·have e':q.1=k:=h1.symm.trans e
   have b:valueAt (q :: qs) k=some q.2:=by simp [valueAt,List.find?_cons,e']
   rw [V3 e,b];exact h2
  ·have e':¬ q.1=k:=λz=>e (h1.trans z)
   have b:valueAt (q :: qs) k=valueAt qs k:=by simp [valueAt,List.find?_cons,e']
   rw [W5 e,b];exact ih
theorem KV.any {kvs:List (κ×V)} {vs:List (κ×Value)} (r:KV kvs vs) (k:κ):(kvs.any λkv=>decide (kv.1=k))=vs.any λkv=>decide (kv.1=k):=by
 unfold KV at r
 induction r with
 | nil=>rfl
 | cons h t ih=>rw [List.any_cons,List.any_cons,ih,h.1]
theorem KV.repl {kvs:List (κ×V)} {vs:List (κ×Value)} (r:KV kvs vs) (k:κ) {y:V} {u:Value} (ry:RelV y u) :
  KV (kvs.map λkv=>if kv.1=k then (kv.1,y) else kv) (vs.map λkv=>if kv.1=k then (kv.1,u) else kv):=by
 unfold KV at r ⊢
 induction r with
 | nil=>exact .nil
 | @cons p q ps qs h t ih=>
  rw [List.map_cons,List.map_cons]
  refine .cons ?_ ih
  obtain ⟨h1,h2⟩:=h
  by_cases e:p.1=k
  ·rw [if_pos e,if_pos (h1.symm.trans e)];exact ⟨h1,ry⟩
  ·rw [if_neg e,if_neg (λz=>e (h1.trans z))];exact ⟨h1,h2⟩
theorem KV.put {kvs:List (κ×V)} {vs:List (κ×Value)} (r:KV kvs vs) (k:κ) {y:V} {u:Value} (ry:RelV y u):KV (C7 kvs k y) (stored vs k u):=by
 unfold C7 stored
 rw [r.any k]
 by_cases e:(vs.any λkv=>decide (kv.1=k))=true
 ·rw [if_pos e,if_pos e];exact r.repl k ry
 ·rw [if_neg e,if_neg e];exact Paired.snoc r ⟨rfl,ry⟩
theorem KV.length {kvs:List (κ×V)} {vs:List (κ×Value)} (r:KV kvs vs):kvs.length=vs.length:=Paired.length r
end
theorem a2u {P:Program} {w:World} {k:Key} {u:Value} (r:RelV (kV k) u):(i5 P w).is k u=true:=by
 cases k with
 | inl i=>obtain ⟨t,e⟩:=(show ∃ t,u=Value.int i t from r);subst e;exact a5z P w i t
 | inr x=>obtain ⟨t,e⟩:=(show ∃ t,u=Value.str x t from r);subst e;exact a40 P w x t
theorem a2s {P:Program} {w:World}:∀ {ks:List Key} {us:List Value},Vals (ks.map kV) us->ItemsAre (i5 P w) ks us
 | [],_,r=>by rw [List.map_nil] at r;cases r;exact .nil
 | k :: ks,_,r=>by
  rw [List.map_cons] at r
  cases r with
  | cons h t=>exact .cons (a2u h) (a2s t)
noncomputable abbrev KT (H:Hp):List (List Key×V)->List (List Key×Addr×Value)->Prop:=Paired λp q=>p.1=q.1/\H q.2.1=some (.tup (p.1.map kV))/\RelV p.2 q.2.2
theorem KT.val {H:Hp} {kvs:List (List Key×V)} {xs:List (List Key×Addr×Value)} (r:KT H kvs xs) (k:List Key):RelO (P4 kvs k) ((atKey xs k).map (·.2)):=by
 induction r with
 | nil=>exact True.intro
 | @cons p q ps qs h t ih=>
  obtain ⟨h1,_,h2⟩:=h
  by_cases e:p.1=k
  ·have e':q.1=k:=h1.symm.trans e
   have b:atKey (q :: qs) k=some q.2:=by simp [atKey,List.find?_cons,e']
   rw [V3 e,b];exact h2
  ·have e':¬ q.1=k:=λz=>e (h1.trans z)
   have b:atKey (q :: qs) k=atKey qs k:=by simp [atKey,List.find?_cons,e']
   rw [W5 e,b];exact ih
theorem KT.repl {H:Hp} {kvs:List (List Key×V)} {xs:List (List Key×Addr×Value)} (r:KT H kvs xs) (k:List Key) {y:V} {u:Value} (ry:RelV y u) :
  KT H (kvs.map λkv=>if kv.1=k then (kv.1,y) else kv) (xs.map (putAt k u)):=by
 induction r with
 | nil=>exact .nil
 | @cons p q ps qs h t ih=>
  rw [List.map_cons,List.map_cons]
  refine .cons ?_ ih
  obtain ⟨h1,h2,h3⟩:=h
  unfold putAt
  by_cases e:p.1=k
  ·rw [if_pos e,if_pos (h1.symm.trans e)];exact ⟨h1,h2,ry⟩
  ·rw [if_neg e,if_neg (λz=>e (h1.trans z))];exact ⟨h1,h2,h3⟩
theorem KT.put {H:Hp} {kvs:List (List Key×V)} {xs:List (List Key×Addr×Value)} (r:KT H kvs xs) (k:List Key) {b:Addr} {y:V} {u:Value} (hb:H b=some (.tup (k.map kV))) (ry:RelV y u) :
  KT H (C7 kvs k y) (storedH xs k b u):=by
 have e:(kvs.any λkv=>decide (kv.1=k))=(atKey xs k).isSome:=by
  rw [a41,(r.val k).isSome_eq,Option.isSome_map]
 unfold C7 storedH
 rw [e]
 by_cases q:(atKey xs k).isSome=true
 ·rw [if_pos q,if_pos q];exact r.repl k ry
 ·rw [if_neg q,if_neg q];exact Paired.snoc r ⟨rfl,hb,ry⟩
theorem KT.keeps {H H':Hp} {kvs:List (List Key×V)} {xs:List (List Key×Addr×Value)} (r:KT H kvs xs) (ht:∀ b ys,H b=some (.tup ys)->H' b=some (.tup ys)):KT H' kvs xs:=
 Paired.mapP r λ_ _ z=>⟨z.1,ht _ _ z.2.1,z.2.2⟩
section
variable {P:Program} {w:World} {H:Hp} {h:Heap} {a:Addr}
theorem c1m {u:HO} (ok:HOk P w H h) (e:Rd H a u):ObjOk P w H h a u:=e.ok ok
theorem a29 {kvs:List (Key×V)} (ok:HOk P w H h) (e:Rd H a (.dK kvs)):kvs.length<=sizeLine/\(a==sysModules)=false/\∃ vs,KV kvs vs/\h.DictOf (i5 P w) a vs:=
 show ObjOk P w H h a (.dK kvs) from c1m ok e
theorem a8m {kvs:List (Key×V)} (ok:HOk P w H h) (e:H a=some (.dK kvs)):kvs.length<=sizeLine/\(a==sysModules)=false/\∃ vs,KV kvs vs/\h.DictOf (i5 P w) a vs:=a29 ok (.inl e)
theorem a05 {ks:List Key} (ok:HOk P w H h) (e:H a=some (.tup (ks.map kV))):(tupleKind (i5 P w)).is h ks a:=by
 obtain ⟨_,its,r,o,h1,h2,n,h3⟩:=(show ObjOk P w H h a (.tup (ks.map kV)) from ok a _ e)
 exact ⟨o,its.toArray,n,h1,h2,h3.1,by simpa using a2s r⟩
theorem a5m {kvs:List (List Key×V)} (ok:HOk P w H h) (e:Rd H a (.dT kvs)):kvs.length<=sizeLine/\(a==sysModules)=false /\
  ∃ xs,KT H kvs xs/\h.DictOfH (tupleKind (i5 P w)) a xs:=by
 obtain ⟨z,y,xs,r,o,es,ep,h1,h2,h3,h4,h5⟩:=(show ObjOk P w H h a (.dT kvs) from c1m ok e)
 refine ⟨z,y,xs,r,o,es,ep,h1,h2,h3,h4,λx hx=>?_,h5⟩
 have all:∀ {l:List (List Key×V)} {m:List (List Key×Addr×Value)},KT H l m->∀ x∈m,(tupleKind (i5 P w)).is h x.1 x.2.1:=by
  intro l m q
  induction q with
  | nil=>intro x hx;exact nomatch hx
  | @cons p q ps qs hq t ih=>
   intro x hx
   rcases List.mem_cons.mp hx with e | hx
   ·subst e
    exact a05 ok (by rw [<- hq.1];exact hq.2.1)
   ·exact ih x hx
 exact all r x hx
theorem d0c {kvs:List (List Key×V)} (ok:HOk P w H h) (e:H a=some (.dT kvs)):kvs.length<=sizeLine/\(a==sysModules)=false /\
  ∃ xs,KT H kvs xs/\h.DictOfH (tupleKind (i5 P w)) a xs:=a5m ok (.inl e)
end
def DGet (H:Hp) (a:Addr) (y:V) (r:Option V):Prop:=
 (∃ kvs k,Rd H a (.dK kvs)/\y=kV k/\r=P4 kvs k)\/∃ kvs k b,Rd H a (.dT kvs)/\y=.ref b/\H b=some (.tup (k.map kV))/\r=P4 kvs k
def DPut (H:Hp) (a:Addr) (y v:V) (H':Hp):Prop:=
 (∃ kvs k,H a=some (.dK kvs)/\y=kV k/\kvs.length<sizeLine/\H'=upd H a (.dK (C7 kvs k v))) \/
 ∃ kvs k b,H a=some (.dT kvs)/\y=.ref b/\H b=some (.tup (k.map kV))/\kvs.length<sizeLine/\H'=upd H a (.dT (C7 kvs k v))
theorem DGet.k {H:Hp} {a:Addr} {kvs:List (Key×V)} {k:Key} (e:H a=some (.dK kvs)):DGet H a (kV k) (P4 kvs k):=.inl ⟨kvs,k,.inl e,rfl,rfl⟩
theorem DPut.k {H:Hp} {a:Addr} {kvs:List (Key×V)} {k:Key} {v:V} (e:H a=some (.dK kvs)) (hl:kvs.length<sizeLine):DPut H a (kV k) v (upd H a (.dK (C7 kvs k v))):=.inl ⟨kvs,k,e,rfl,hl,rfl⟩
section
variable {X:Cx} {pins:List (Addr×Obj)} {σ:St} {H:Hp} {s:Shared} {a:Addr} {y v:V} {u r:Value} {o:Option V} {A:Around} {E:Value->Shared->Prop}
theorem Inv.big (I:Inv X pins σ H s):sysModules<s.heap.objs.size:=by
 have h:mainGlobals<s.heap.objs.size:=(I.mod.glob.keeps I.bk).lt
 exact Nat.lt_trans (by decide) h
theorem b0n {Q:Value->Shared->Prop} (hu:A.units+1<cLine) (I:Inv X pins σ H s) (g:DGet H a y (some v)) (ry:RelV y u) (h:∀ w' s',Inv X pins σ H s'->RelV v w'->Q w' s') :
  wpAny (model X.prog X.w) A (getItem (.ref a) u) Q E s:=by
 rcases g with ⟨kvs,k,e,ey,l⟩ | ⟨kvs,k,b,e,ey,eb,l⟩
 ·subst ey
  obtain ⟨z,hd,vs,rel,dd⟩:=a29 I.hok e
  obtain ⟨w',hw,rw'⟩:=RelO.some_of (v:=v) (o:=valueAt vs k) (by rw [l];exact rel.val k)
  exact wpAny_getItem_of (a2u ry) dd.mapOf hw (h w' _ (I.tok _) rw')
 ·subst ey
  cases (show u=Value.ref b from ry)
  obtain ⟨z,hd,xs,rel,dd⟩:=a5m I.hok e
  obtain ⟨w',hw,rw'⟩:=RelO.some_of (v:=v) (o:=(atKey xs k).map (·.2)) (by rw [l];exact rel.val k)
  obtain ⟨p,hp,hp2⟩:=Option.map_eq_some_iff.mp hw
  refine wpAny_getItem_heap (tupleKind_room_in1 hu) (a05 I.hok eb) dd hp ?_
  rw [hp2]
  exact h w' _ (I.tok _) rw'
theorem a0h {h':Heap} {t':Nat} {ob:HO} (I:Inv X pins σ H s) (mu:Mut (H a)) (hs:Heap.SameBut a s.heap h') (he:∃ q,h'.get? a=some q) (new:ObjOk X.prog X.w (upd H a ob) h' a ob) :
  Inv X pins σ (upd H a ob) { s with heap:=h',toks:=t' }:=
 I.write (x:=a) (e:=a) mu (.inl rfl) (λb q hb z=>(hs.2 b hb).trans z) he new
theorem a7u {P:Program} {w:World} {H':Hp} {h':Heap} {kvs:List (Key×V)} {vs:List (Key×Value)} (z:kvs.length<=sizeLine) (hd:(a==sysModules)=false) (rel:KV kvs vs) (dd:h'.DictOf (i5 P w) a vs) :
  ObjOk P w H' h' a (.dK kvs):=⟨z,hd,vs,rel,dd⟩
theorem b13 {H':Hp} {Q:Unit->Shared->Prop} (hu:A.units+1<cLine) (I:Inv X pins σ H s) (g:DPut H a y v H') (ry:RelV y u) (rv:RelV v r) (h:∀ s',Inv X pins σ H' s'->Q () s') :
  wpAny (model X.prog X.w) A (setItem (.ref a) u r) Q E s:=by
 rcases g with ⟨kvs,k,e,ey,l,eH⟩ | ⟨kvs,k,b,e,ey,eb,l,eH⟩
 ·subst ey eH
  obtain ⟨z,hd,vs,rel,dd⟩:=a8m I.hok e
  have hz:vs.length<=sizeLine:=by rw [<- rel.length];exact z
  have hl:(C7 kvs k v).length<=sizeLine:=by have:=L7 kvs k v;omega
  refine wpAny_setItem_pairs (hsz:=hz) (a2u ry) dd λh' dd' hs=>h _ ?_
  have he:∃ q,h'.get? a=some q:=let ⟨q,_,_,hq,_⟩:=dd';⟨q,hq⟩
  exact a0h I (by rw [e];exact True.intro) hs he (a7u hl hd (rel.put k rv) dd')
 ·subst ey eH
  cases (show u=Value.ref b from ry)
  obtain ⟨z,hd,xs,rel,dd⟩:=d0c I.hok e
  have hz:xs.length<=sizeLine:=by rw [<- Paired.length rel];exact z
  have hl:(C7 kvs k v).length<=sizeLine:=by have:=L7 kvs k v;omega
  refine wpAny_setItem_heap (hsz:=hz) (tupleKind_room_in1 hu) (a05 I.hok eb) dd λh' dd' hs=>h _ ?_
  obtain ⟨q,es,ep,hq,h2,h3,h4,_,h5⟩:=dd'
  refine a0h I (by rw [e];exact True.intro) hs ⟨q,hq⟩ ⟨hl,hd,_,(rel.put k eb rv).keeps λc ys ec=>?_,q,es,ep,hq,h2,h3,h4,h5⟩
  rw [a9 (b4h ec e (λz=>nomatch z))]
  exact ec
end
section
variable {X:Cx} {pins:List (Addr×Obj)} {σ:St} {H:Hp} {s:Shared} {a:Addr} {kvs:List (Key×V)} {k:Key} {u:Value} {A:Around} {E:Value->Shared->Prop}
theorem c7o {Q:Value->Shared->Prop} (I:Inv X pins σ H s) (e:Rd H a (.dK kvs)) (h:∀ t s',Inv X pins σ H s'->Q (.int kvs.length t) s'):wpAny (model X.prog X.w) A (call (.builtin "len") [.ref a]) Q E s:=by
 obtain ⟨z,hd,vs,rel,dd⟩:=a29 I.hok e
 refine call_len_dict hd dd (by rw [<- rel.length];rw [sizeLine_eq] at z;omega) ?_
 rw [<- rel.length]
 exact h _ _ (I.tok _)
end
theorem a6x {X:Cx} {pins:List (Addr×Obj)} {σ:St} {H:Hp} {s:Shared} {a:Addr} {y:V} {o:Option V} (I:Inv X pins σ H s) (g:DGet H a y o):s.TypeIs (.ref a) "dict":=by
 rcases g with ⟨kvs,k,e,_,_⟩ | ⟨kvs,k,b,e,_,_,_⟩
 ·obtain ⟨_,_,vs,_,dd⟩:=a29 I.hok e
  exact dd.typeIs
 ·obtain ⟨_,_,xs,_,dd⟩:=a5m I.hok e
  exact dd.typeIs
theorem b3f {P:Program} {w:World} {H:Hp} (h:Heap) (hb:sysModules<h.objs.size):ObjOk P w H (h.push { cls:=.type "dict",data:=.dict #[] }) h.objs.size (.dK []):=
 ⟨Nat.zero_le _,beq_eq_false_iff_ne.mpr (Ne.symm (Nat.ne_of_lt hb)),[],.nil,Heap.DictOf.new h⟩
def a4u:List (TE×TE)->St->Hp->(List (V×V)->Hp->Prop)->Prop
 | [],_,H,Q=>Q [] H
 | (tk,tv) :: r,σ,H,Q=>tk σ H λx H1=>tv σ H1 λy H2=>a4u r σ H2 λps H3=>Q ((x,y) :: ps) H3
noncomputable abbrev VV:List (V×V)->List (Value×Value)->Prop:=Paired λp q=>RelV p.1 q.1/\RelV p.2 q.2
def PPs (X:Cx) (pos:Pos) (keys:List (Option Expr)) (values:List Expr) (trs:List (TE×TE)):Prop:=
 ∀ (pins:List (Addr×Obj)) (s:Shared) (σ:St) (H:Hp) (Q:List (V×V)->Hp->Prop),Inv X pins σ H s->a4u trs σ H Q ->
  wpAny (model X.prog X.w) X.A (evalPairs (pairTrees keys values X.env pos)) (λvs s'=>∃ ps H',Inv X pins σ H' s'/\VV ps vs/\Q ps H') X.xe s
theorem b7c {X:Cx} {pos:Pos}:PPs X pos [] [] []:=λpins s σ H Q I h=>pairTrees_nil_walk ⟨[],H,I,.nil,h⟩
theorem b5e {X:Cx} {pos:Pos} {k v:Expr} {ks:List (Option Expr)} {vs:List Expr} {tk tv:TE} {trs:List (TE×TE)} (hk:PE X k tk) (hv:PE X v tv) (hr:PPs X pos ks vs trs) :
  PPs X pos (some k :: ks) (v :: vs) ((tk,tv) :: trs):=λpins s σ H Q I h=>
 pairTrees_cons_walk (thn (hk pins s σ H _ I h) λu s1 ⟨x,H1,I1,rx,q1⟩=>thn (hv pins s1 σ H1 _ I1 q1) λw2 s2 ⟨y,H2,I2,ry,q2⟩=>
  thn (hr pins s2 σ H2 _ I2 q2) λws s3 ⟨ps,H3,I3,rel,q3⟩=>⟨(x,y) :: ps,H3,I3,.cons ⟨rx,ry⟩ rel,q3⟩)
noncomputable def I0 (kvs more:List (Key×V)):List (Key×V):=more.foldl (λacc kv=>C7 acc kv.1 kv.2) kvs
theorem KV.merge:∀ {more:List (Key×V)} {rs:List (Key×Value)} {kvs:List (Key×V)} {vs:List (Key×Value)},KV more rs->KV kvs vs->KV (I0 kvs more) (merged vs rs):=by
 intro more rs kvs vs r
 unfold KV at r
 induction r generalizing kvs vs with
 | nil=>intro q;exact q
 | @cons p q ps qs h t ih=>
  intro r0
  have e:KV (C7 kvs p.1 p.2) (stored vs q.1 q.2):=by
   have:=r0.put p.1 h.2
   rw [<- h.1];exact this
  exact ih e
theorem E2:∀ (more kvs:List (Key×V)),(I0 kvs more).length<=kvs.length+more.length
 | [],kvs=>by show kvs.length<=kvs.length+0;omega
 | p :: r,kvs=>by
  have h1:=E2 r (C7 kvs p.1 p.2)
  have h2:=L7 kvs p.1 p.2
  show (I0 (C7 kvs p.1 p.2) r).length<=_
  rw [List.length_cons];omega
theorem a2a {P:Program} {w:World}:∀ {kvs:List (Key×V)} {ws:List (Value×Value)},VV (kvs.map λkv=>(kV kv.1,kv.2)) ws->∃ rs,Carries (i5 P w) ws rs/\KV kvs rs
 | [],_,r=>by rw [List.map_nil] at r;cases r;exact ⟨[],True.intro,.nil⟩
 | p :: kvs,_,r=>by
  rw [List.map_cons] at r
  cases r with
  | @cons a b as bs h t=>
   obtain ⟨rs,c,q⟩:=a2a (P:=P) (w:=w) t
   obtain ⟨b1,b2⟩:=b
   exact ⟨(p.1,b2) :: rs,⟨a2u h.1,rfl,c⟩,.cons ⟨rfl,h.2⟩ q⟩
def c65 (trs:List (TE×TE)):TE:=λσ H Q=>∀ p,H p=none->a4u trs σ (upd H p (.dK [])) λps H2=>H2 p=some (.dK [])/\∃ kvs:List (Key×V),ps=kvs.map (λkv=>(kV kv.1,kv.2))/\kvs.length<=15/\Q (.ref p) (upd H2 p (.dK (I0 [] kvs)))
theorem b7u {X:Cx} {pos:Pos} {keys:List (Option Expr)} {values:List Expr} {trs:List (TE×TE)} (h:PPs X pos keys values trs) (hall:keys.all (·.isSome)=true) (hl:keys.length=values.length) (h0:keys≠[])
  (h15:keys.length<=15):PE X (.Dict keys values pos) (c65 trs):=by
 intro pins s σ H Q I q
 have hn:=I.hok.fresh (Nat.le_refl s.heap.objs.size)
 have I1:=I.laid (a:=s.heap.objs.size) (o:=.dK []) (h':=s.heap.push { cls:=.type "dict",data:=.dict #[] }) (t':=s.toks) (λ_ _ q=>Heap.get?_push_of_some _ q) (Nat.le_refl _) (b3f s.heap I.big)
 refine wpAny_Dict_walk (knd:=i5 X.prog X.w) hall hl h0 h15 (thn (h pins _ σ _ _ I1 (q _ hn)) λws s2 ⟨ps,H2,I2,rel,e,kvs,ep,lk,q2⟩=>?_)
 subst ep
 obtain ⟨rs,c,rk⟩:=a2a (P:=X.prog) (w:=X.w) rel
 obtain ⟨z,hd,vs0,r0,dd⟩:=a8m I2.hok e
 cases r0
 refine ⟨rs,c,dd,λh' dd' hs=>⟨.ref s.heap.objs.size,_,?_,rfl,q2⟩⟩
 have hz:(I0 [] kvs).length<=sizeLine:=by
  have h1:=E2 kvs []
  rw [List.length_nil] at h1
  rw [sizeLine_eq];omega
 have he:∃ q,h'.get? s.heap.objs.size=some q:=let ⟨q,_,_,hq,_⟩:=dd';⟨q,hq⟩
 exact a0h I2 (by rw [e];exact True.intro) hs he (a7u hz hd (rk.merge .nil) dd')
section
variable {X:Cx} {pins:List (Addr×Obj)} {σ:St} {H:Hp} {s:Shared} {a:Addr} {y d:V} {u r:Value} {o:Option V} {A:Around} {E:Value->Shared->Prop}
theorem c4a {Q:Value->Shared->Prop} (hu:A.units+1<cLine) (I:Inv X pins σ H s) (g:DGet H a y o) (ry:RelV y u) (h:∀ w' s',Inv X pins σ H s'->RelV (o.getD .non) w'->Q w' s') :
  wpAny (model X.prog X.w) A (call (.builtin "dict.get") [.ref a,u]) Q E s:=by
 rcases g with ⟨kvs,k,e,ey,l⟩ | ⟨kvs,k,b,e,ey,eb,l⟩
 ·subst ey
  obtain ⟨z,hd,vs,rel,dd⟩:=a29 I.hok e
  refine call_meetsIn PySem.F.slot_dict_get dd.typeIs PySem.F.entry_dict_get (PySem.F.args_dict_get_2 _ _) (meets_dict_get (i5 X.prog X.w) a (a2u ry) hd) ⟨_,dd.mapOf,h _ _ (I.tok _) ?_⟩
  rw [l]
  exact (rel.val k).getD rfl
 ·subst ey
  cases (show u=Value.ref b from ry)
  obtain ⟨z,hd,xs,rel,dd⟩:=a5m I.hok e
  refine call_meetsIn PySem.F.slot_dict_get dd.typeIs PySem.F.entry_dict_get (PySem.F.args_dict_get_2 _ _) (meetsH_dict_get (tupleKind (i5 X.prog X.w)) a b hd) ⟨tupleKind_room_in1 hu,k,xs,a05 I.hok eb,dd,h _ _ (I.tok _) ?_⟩
  rw [l]
  exact (rel.val k).getD rfl
theorem c2e {Q:Value->Shared->Prop} (hu:A.units+1<cLine) (I:Inv X pins σ H s) (g:DGet H a y o) (ry:RelV y u) (rd:RelV d r) (h:∀ w' s',Inv X pins σ H s'->RelV (o.getD d) w'->Q w' s') :
  wpAny (model X.prog X.w) A (call (.builtin "dict.get") [.ref a,u,r]) Q E s:=by
 rcases g with ⟨kvs,k,e,ey,l⟩ | ⟨kvs,k,b,e,ey,eb,l⟩
 ·subst ey
  obtain ⟨z,hd,vs,rel,dd⟩:=a29 I.hok e
  refine call_meetsIn PySem.F.slot_dict_get dd.typeIs PySem.F.entry_dict_get (PySem.F.args_dict_get_3 _ _ _) (meets_dict_get_default (i5 X.prog X.w) a (a2u ry) hd r) ⟨_,dd.mapOf,h _ _ (I.tok _) ?_⟩
  rw [l]
  exact (rel.val k).getD rd
 ·subst ey
  cases (show u=Value.ref b from ry)
  obtain ⟨z,hd,xs,rel,dd⟩:=a5m I.hok e
  refine call_meetsIn PySem.F.slot_dict_get dd.typeIs PySem.F.entry_dict_get (PySem.F.args_dict_get_3 _ _ _) (meetsH_dict_get_default (tupleKind (i5 X.prog X.w)) a b hd r) ⟨tupleKind_room_in1 hu,k,xs,a05 I.hok eb,dd,h _ _ (I.tok _) ?_⟩
  rw [l]
  exact (rel.val k).getD rd
end
end L2
namespace Att
open PySem PySem.W PySem.Calls PyProof.Rows
theorem Z8 {P:Params} {h:Heap}:∀ (ns:List Int) (vs:List Value),WellAll P h vs (ns.map WData.int)->IntsAre vs ns:=by
 intro ns
 induction ns with
 | nil=>
  intro vs w
  rw [List.map_nil] at w
  cases w
  exact .nil
 | cons n ns ih=>
  intro vs w
  rw [List.map_cons] at w
  cases w with
  | cons a b=>
   cases a
   exact .cons _ _ (ih _ b)
theorem b0k {l:OpenLaw} {n:Nat} (hn:l.most=some n) {P:Params} {h:Heap} {args:List WData} {vals:List Value}
  (hpre:l.row.toRowW.claim.pre args=true) (hwl:WellAll P h vals args) :
  ∃ a vs ns,vals=[Value.ref a]/\args=[WData.list (ns.map WData.int)]/\h.get? a=some { cls:=.type "list",data:=.seq vs.toArray }/\IntsAre vs ns/\ns.length<=n:=by
 have hsh:WShape.hasAll [] args [.list .int]=true:=(pre_splitW hpre).1
 have hc:l.pre.holds [] { args:=args }=true:=(pre_splitW hpre).2
 obtain ⟨d,r,rfl,h1,h2⟩:=hasAllW_cons hsh
 obtain rfl:=hasAllW_nil h2
 obtain ⟨xs,rfl,h3⟩:=hasW_list h1
 obtain ⟨ns,rfl⟩:=items_int h3
 have hlen:ns.length<=n:=by
  unfold OpenLaw.pre at hc
  have h4:(WTm.not (.lt (.lit (.int (n:Int))) (.len (.arg 0)))).holds [] { args:=[.list (ns.map .int)] }=true:=by
   have h4:=(holds_andW hc).1
   rw [hn] at h4
   exact h4
  have h5:=condW_of h4 (w_not (w_lt w_lit (w_len_list (w_arg rfl))))
  rw [List.length_map] at h5
  refine Nat.le_of_not_lt λq=>?_
  have q':(n:Int)<((ns.length:Nat):Int):=by omega
  first
   | (rw [decide_eq_true q'] at h5;exact absurd h5 (by decide))
   | (simp at h5;omega)
 cases hwl with
 | cons w1 w2=>
  cases w2
  cases w1 with
  | list ho hall=>exact ⟨_,_,ns,rfl,rfl,ho,Z8 ns _ hall,hlen⟩
theorem b0m (l:OpenLaw) (args:List WData):l.row.toRowW.claim.post args (.bool true) args=true:=
 postW_of (r:=l.row.toRowW) (X:=(true==true))
  (show WShape.has [] (.bool true) .bool=true by first | rfl | decide | simp [WShape.has,WShape.arms,WShape.armsAll])
  (show (WTm.eq .res (.lit (.bool true))).value [] { args:=args,res:=some (.bool true),after:=args }=some (.bool (true==true)) from w_eq_bool (w_res rfl) w_lit) rfl
theorem attach_call {l:OpenLaw} {n:Nat} {q:Program} {loose:List Str} {XP:(Str->Option Value)->Heap->Prop} {YP:World->Heap->Prop} {d:DefRec}
  (hn:l.most=some n) (hdf:d.params.defaults=[])
  (call:∀ (w:World) (s₀ s₁:Shared) (mg mb:Str->Option Value) (fa:Addr) (o:Obj) (pm cd doc:Value) (a:Addr) (vs:List Value) (ns:List Int),
   Ground q loose [] XP w s₀ mg mb s₁.heap->YP w s₁.heap ->
   s₁.heap.get? fa=some o->o.data=.func (docDef d.name d.params d.body d.scope pm cd doc)->s₁.heap.CodeRec cd d.name->mg d.name=some (.ref fa) ->
   s₁.heap.get? a=some { cls:=.type "list",data:=.seq vs.toArray }->IntsAre vs ns->ns.length<=n->s₁.gens=#[] ->
   codeAny (model l.prog w) callerA (.call (.ref fa) ⟨[.ref a],[]⟩) (λr s'=>r=.ok (.ret (.bool true))/\OldK s₁.heap s'.heap/\s'.os=s₁.os/\AllBare s'.gens) s₁) :
  WalkO q loose XP YP l.row.toRowW d [] (λf vs=>PySem.call f vs):=by
 intro w s₀ s₁ mg mb G Y fa o pm cd doc dV kV ho hd hcd hD hmg hg args vals as hpre hlay hrd hwl hlo
 obtain rfl:dV=.none:=Dflts.none hD hdf
 obtain rfl:kV=.none:=Dflts.noKw hD
 obtain ⟨a,vs,ns,rfl,rfl,hobj,hints,hlen⟩:=b0k hn hpre hwl
 refine enter_call (codeAny_mono (call w s₀ s₁ mg mb fa o pm cd doc a vs ns G Y ho (fd_plain hd) hcd hmg hobj hints hlen hg) λr s' hq=>?_)
 obtain ⟨rfl,h2,h3,h4⟩:=hq
 exact ⟨.inl ⟨.bool true,.bool true,[],rfl,λ_=>rfl,.bool true,b0m l _,λ_=>⟨List.Pairwise.nil,λ_ hm=>(nomatch hm)⟩⟩,h2,h3,h4⟩
end Att
namespace L2
open PySem PySem.Spec PyProof.Rows
theorem a3g:∀ {vs:List Value} {ns:List Int},IntsAre vs ns->Vals (ns.map V.int) vs
 | _,_,.nil=>.nil
 | _,_,.cons n t h=>.cons ⟨t,rfl⟩ (a3g h)
def c21 (H:Hp):Prop:=∀ b,H b=none\/∃ o xs,H b=some (.frz o (.lst xs))
theorem b3o {P:Program} {w:World} {K:PySem.W.Frag} {mg mb:Str->Option Value} {CX:CXT} {k:Nat} {fa a:Addr} {fd:FuncData} {x:Str} {sp:Sp} {s₁:Shared} {vs:List Value} {ns:List Int}
  (KX:K.In s₁.heap) (hns:s₁.heap.Ns mainGlobals mg) (hb:s₁.heap.Ns builtinsNs mb) (hbb:∀ x:Str,x ≠ "__name__"->mb x=bootBuiltins x) (hlim:s₁.heap.NoLimit) (hg:s₁.gens=#[])
  (ha:s₁.heap.get? a=some { cls:=.type "list",data:=.seq vs.toArray }) (hi:IntsAre vs ns) (hl:ns.length<=sizeLine) (hr:Room false k callerA)
  (F:∀ base:Heap,K.In base->base.Ns mainGlobals mg->FnOk P w K mg base CX k fa fd [x] sp) (hbind:∀ (s:Shared) (u:Value),BindsTo s fd ⟨[u],[]⟩ [(x,u)])
  (hsp:∀ H:Hp,c21 H->SqL K H a (ns.map V.int)->sp [.ref a] H (λv _=>v=.bl true) λ_ _ _=>False)
  (hCX:∀ H e s',CX [] H s₁ (λ_ _ _=>False) e s'->False) :
  codeAny (model P w) callerA (.call (.ref fa) ⟨[.ref a],[]⟩) (λr s'=>r=.ok (.ret (.bool true))/\OldK s₁.heap s'.heap/\s'.os=s₁.os/\AllBare s'.gens) s₁:=by
 have rv:=a3g hi
 have lenV:=hi.length
 have core:∀ H:Hp,c21 H->SqL K H a (ns.map V.int)->HOk P w H s₁.heap->(∀ b,H b≠none->b=a)->(H a≠none->K.lookup a=none) ->
   codeAny (model P w) callerA (.call (.ref fa) ⟨[.ref a],[]⟩) (λr s'=>r=.ok (.ret (.bool true))/\OldK s₁.heap s'.heap/\s'.os=s₁.os/\AllBare s'.gens) s₁:=by
  intro H hO hS hok hA hK
  have N8:∀ {b:Addr} {o:Obj},s₁.heap.get? b=some o->H b=none->(a4e s₁.heap H).get? b=some o:=λe n=>b2f e n
  have noA:∀ {b:Addr} {o:Obj} {es:Array DictEntry} {ep:Nat},s₁.heap.get? b=some o->o.data=.dict es ep->H b=none:=λ{b o es ep} e d=>by
   cases q:H b with
   | none=>rfl
   | some u=>
    have e':b=a:=hA b (by rw [q];simp)
    subst e'
    rw [ha] at e;cases e
    have d':Data.seq vs.toArray _=Data.dict es ep:=d
    cases d'
  have nsK:∀ {b:Addr} {m:Str->Option Value},s₁.heap.Ns b m->(a4e s₁.heap H).Ns b m:=λ{b m} ⟨o,es,ep,e,d,r⟩=>⟨o,es,ep,N8 e (noA e d),d,r⟩
  have hKb:K.In (a4e s₁.heap H):=λb o e=>N8 (KX b o e) (by
   cases q:H b with
   | none=>rfl
   | some u=>
    have e':b=a:=hA b (by rw [q];simp)
    subst e'
    rw [hK (by rw [q];simp)] at e;cases e)
  have hM:Mod K mg (a4e s₁.heap H):=⟨hKb,nsK hns,⟨mb,nsK hb,hbb⟩,let ⟨mc,h1,h2⟩:=hlim;⟨mc,nsK h1,h2⟩⟩
  have e0:Env0 P w K mg (a4e s₁.heap H) callerA [] s₁ H:=⟨rfl,hM,λb o e=>b9j e,Nat.le_of_eq (b1d _ _),trivial,λb hb=>absurd (show b∈([]:List Addr) from hb) (by simp),hok,.of_eq hg⟩
  refine codeAny_mono ((F _ hKb (nsK hns)).run callerA [] s₁ H ⟨[.ref a],[]⟩ [.ref a] [.ref a] _ _ hr.any e0 (hbind s₁ (.ref a)) (.cons rfl .nil) (hsp H hO hS)) λr s' h=>?_
  cases r with
  | error e=>exact (hCX H e s' h).elim
  | ok fl=>
   cases fl with
   | next=>exact False.elim h
   | brk=>exact False.elim h
   | cont=>exact False.elim h
   | ret u=>
    obtain ⟨v,H',os,bare,un,hok',r',q⟩:=h
    have q':v=.bl true:=q
    subst q'
    obtain rfl:u=Value.bool true:=r'
    refine ⟨rfl,OldK.of_keep λb o e=>?_,os,bare⟩
    cases q:H b with
    | none=>exact un.keep b o e q (by intro z;exact absurd (show b∈([]:List Addr) from z) (by simp)) (by simp)
    | some u=>
     rcases hO b with z | ⟨ob,xs,z⟩
     ·rw [q] at z;cases z
     ·have z2:=un.frzs b ob _ z
      obtain ⟨e1,_⟩:=hok b _ z
      obtain ⟨e2,_⟩:=hok' b _ z2
      rw [e] at e1;cases e1
      exact e2
 cases hk:K.lookup a with
 | some o=>
  have e:=KX a o hk
  rw [ha] at e
  cases e
  refine core (λ_=>none) (λ_=>.inl rfl) (.inr ⟨_,vs.toArray,_,hk,rfl,rfl,rfl,by rw [List.size_toArray,lenV];exact hl,by simpa using rv⟩) (λb u z=>by have z':(none:Option HO)=some u:=z;cases z') (λb z=>absurd rfl z) λz=>absurd rfl z
 | none=>
  refine core (λb=>if b=a then some (.frz { cls:=.type "list",data:=.seq vs.toArray } (.lst (ns.map V.int))) else none) (λb=>?_) (.inl (.inr ⟨{ cls:=.type "list",data:=.seq vs.toArray },if_pos rfl⟩)) (λb u z=>?_) (λb z=>?_) λ_=>hk
  ·by_cases hb:b=a
   ·exact .inr ⟨_,_,if_pos hb⟩
   ·exact .inl (if_neg hb)
  ·by_cases hb:b=a
   ·have z':=(if_pos hb).symm.trans z
    cases z'
    subst hb
    exact ⟨ha,by rw [List.length_map];exact hl,vs,_,rv,ha⟩
   ·have z':=(if_neg hb).symm.trans z
    cases z'
  ·by_cases hb:b=a
   ·exact hb
   ·exact absurd (if_neg hb) z
theorem walk_of {l:PySem.W.OpenLaw} {n k:Nat} {q:Program} {loose:List Str} {XP:(Str->Option Value)->Heap->Prop} {YP:World->Heap->Prop} {d:DefRec} {K:Params->PySem.W.Frag} {CX:World->CXT} {sp:World->Sp} {x:Str}
  (hn:l.most=some n) (hn2:n<=sizeLine) (hdf:d.params.defaults=[]) (hr:Room false k callerA)
  (hY:∀ (w:World) (h:Heap),YP w h->(K w.params).In h)
  (F:∀ (w:World) (mg:Str->Option Value) (fa:Addr) (h:Heap),(K w.params).In h->h.Ns mainGlobals mg->mg d.name=some (.ref fa) ->
   ∃ fd:FuncData,(∀ (s:Shared) (u:Value),BindsTo s fd ⟨[u],[]⟩ [(x,u)]) /\
    ∀ base:Heap,(K w.params).In base->base.Ns mainGlobals mg->FnOk l.prog w (K w.params) mg base (CX w) k fa fd [x] (sp w))
  (hsp:∀ (w:World) (H:Hp) (a:Addr) (ns:List Int),ns.length<=n->c21 H->SqL (K w.params) H a (ns.map V.int)->sp w [.ref a] H (λv _=>v=.bl true) λ_ _ _=>False)
  (hCX:∀ (w:World) (H:Hp) (s:Shared) (e:Value) (s':Shared),CX w [] H s (λ_ _ _=>False) e s'->False) :
  PySem.W.WalkO q loose XP YP l.row.toRowW d [] (λf vs=>PySem.call f vs):=by
 refine Att.attach_call hn hdf λw s₀ s₁ mg mb fa o pm cd doc a vs ns G Y ho hd hcd hmg hobj hints hlen hg=>?_
 have KX:=hY w _ Y
 obtain ⟨fd,hb,hF⟩:=F w mg fa _ KX G.T.g hmg
 exact b3o KX G.T.g G.T.b G.T.builtins G.T.nolimit hg hobj hints (Nat.le_trans hlen hn2) hr hF hb (λH hO hS=>hsp w H a ns hlen hO hS) λH e s'=>hCX w H s₁ e s'
noncomputable def O2 (s:Stmt) (j:Nat):Stmt:=match s with
 | .ClassDef _ _ _ body _ _ _ _ _ _ _=>body.getD j (.Pass ⟨0,0,0,0⟩)
 | _=>.Pass ⟨0,0,0,0⟩
noncomputable def o0 (s:Stmt):Arguments:=match s with
 | .FunctionDef _ a _ _ _ _ _ _ _ _=>a
 | _=>{ posonlyargs:=[],args:=[],vararg:=none,kwonlyargs:=[],kw_defaults:=[],kwarg:=none,defaults:=[] }
noncomputable def i8 (s:Stmt):List Stmt:=match s with
 | .FunctionDef _ _ b _ _ _ _ _ _ _=>b
 | _=>[]
noncomputable def b9 (s:Stmt):Scope:=match s with
 | .FunctionDef _ _ _ _ _ _ sc _ _ _=>sc
 | _=>{ kind:=.function,names:=[],isGenerator:=false,isCoroutine:=false }
noncomputable abbrev CX0:CXT:=⟨λ_ _ _ _ _ _=>False,false⟩
noncomputable abbrev E0:XK:=λ_ _ _=>False
theorem Z1 {X:Cx}:E4 CX0 X E0:=λ_ _ _ _ _ _ _ h=>False.elim h
structure Fun (K:PySem.W.Frag) (x qual:Str) (st:Stmt) (f:Addr) (fd:FuncData):Prop where
 ex:∃ (oc:Value) (od:Option Addr) (kV doc pm:Value) (an:Option Addr) (cdv ct:Value) (osl:Array (Option Value)),
  fd=PySem.W.fnOf x qual (o0 st) (i8 st) (b9 st) .none kV doc pm an cdv ct/\K.lookup f=some ⟨oc,od,.func fd,osl⟩/\PySem.W.codeIn K cdv qual=true
 kp:PySem.W.keepIn K (.ref f)=true
section
variable {P:Program} {w:World} {K:PySem.W.Frag} {mg:Str->Option Value} {base:Heap}
theorem Fun.ok {x qual:Str} {st:Stmt} {f:Addr} {fd:FuncData} {N ps:List Str} {k:Nat} {sp:Sp} (F:Fun K x qual st f fd) (S:FnScope N ps (b9 st)) (len:∀ vs H Q E,sp vs H Q E->vs.length=ps.length)
  (hbody:∀ (cdv:Value) (A:Around) (outer:List Env) (s:Shared) (H:Hp) (vs:List V) (Q:VK) (E:XK),Room false k (A.deeper (envOfC qual (b9 st) s.heap.objs.size f cdv))->sp vs H Q E ->
   ∃ t,PSs (a1k CX0 P w K mg base N qual (b9 st) f cdv A outer s H E).nox (i8 st) t/\t { nx:=λ_ H'=>Q .non H',rt:=Q } (start N vs) H):FnOk P w K mg base CX0 (k+1) f fd ps sp:=by
 obtain ⟨oc,od,kV,doc,pm,an,cdv,ct,osl,rfl,lk,hcd⟩:=F.ex
 refine c1t lk hcd S len λA outer s H vs Q E hr hsp=>?_
 obtain ⟨t,h,q⟩:=hbody cdv A outer s H vs Q E hr hsp
 exact ⟨t,h.nox,q⟩
theorem Fun.binds {x qual:Str} {st:Stmt} {f:Addr} {fd:FuncData} {ps:List Str} (F:Fun K x qual st f fd)
  (h:∀ (kV doc pm:Value) (an:Option Addr) (cdv ct:Value) (us:List Value),us.length=ps.length->bindArgs (PySem.W.fnOf x qual (o0 st) (i8 st) (b9 st) .none kV doc pm an cdv ct) ⟨us,[]⟩=pure (ps.zip us)):Binds K fd ps []:=by
 obtain ⟨oc,od,kV,doc,pm,an,cdv,ct,osl,rfl,lk,hcd⟩:=F.ex
 exact .all (h kV doc pm an cdv ct)
theorem M2 {x qual:Str} {st:Stmt} {f:Addr} {oc:Value} {od an:Option Addr} {osl:Array (Option Value)} {kV doc pm cdv ct:Value} (l:K.lookup f=some ⟨oc,od,.func (PySem.W.fnOf x qual (o0 st) (i8 st) (b9 st) .none kV doc pm an cdv ct),osl⟩)
  (c:PySem.W.codeIn K cdv qual=true) (k:PySem.W.keepIn K (.ref f)=true):Fun K x qual st f (PySem.W.fnOf x qual (o0 st) (i8 st) (b9 st) .none kV doc pm an cdv ct):=⟨⟨oc,od,kV,doc,pm,an,cdv,ct,osl,rfl,l,c⟩,k⟩
end
theorem c7r {q:Bool} {A:Around} {k:Nat} (hr:Room q k A):A.units+1<cLine:=Nat.lt_of_le_of_lt (Nat.add_le_add_left (by decide:1<=64) _) hr.units
section
variable {X:Cx}
theorem pv (i:Nat) {x:Str} {pos:Pos} (hN:X.N[i]?=some x:=by rfl) (hv:Vis X.env.scope x:=by first | exact Or.inl rfl | exact Or.inr (Or.inl rfl) | exact Or.inr (Or.inr rfl)) (hd:(x==("__debug__" : Str))=false:=by decide)
  (hcd:(x==("__classdict__" : Str))=false:=by decide):PE X (.Name x pos) (c2h i):=b21 hN hv hd hcd
theorem b0r:j3 X (.builtin "len") (λxs H Q=>∃ a kvs,xs=[V.ref a]/\H a=some (.dK kvs)/\Q (.int kvs.length) H):=by
 intro pins s σ H xs us Q I r h
 obtain ⟨a,kvs,rfl,ha,q⟩:=h
 obtain ⟨u,rfl,ru⟩:=K0 r
 cases ru
 exact c7o I (.inl ha) λt s' I'=>⟨.int kvs.length,H,I',⟨t,rfl⟩,q⟩
end
theorem d3l {A B:Prop} (h:A):if true=true then A else B:=by
 rw [if_pos rfl]
 exact h
def Same (H H':Hp):Prop:=∀ b o,H b=some o->H' b=some o
theorem Same.seq {K:PySem.W.Frag} {H H':Hp} {a:Addr} {xs:List V} (e:Same H H') (h:SqL K H a xs):SqL K H' a xs:=by
 rcases h with (h | ⟨o,h⟩) | h
 ·exact .inl (.inl (e _ _ h))
 ·exact .inl (.inr ⟨o,e _ _ h⟩)
 ·exact .inr h
theorem a1c {α β:Type} (g:β->α->β) {f:α->β->Sem (ForInStep β)}:∀ (l:List α) (c:β),(∀ x∈l,∀ c,f x c=pure (.yield (g c x)))->forIn l c f=pure (l.foldl g c)
 | [],_,_=>rfl
 | x :: l,c,h=>by
  rw [List.forIn_cons,h x List.mem_cons_self,pure_bind]
  exact a1c g l (g c x) λy hy=>h y (List.mem_cons_of_mem _ hy)
noncomputable def p7 (cells:List (Str×Addr)) (acc:List (Str×Addr)) (x:Str×NameKind):List (Str×Addr):=if x.2=NameKind.free then (x.1,(cells.lookup x.1).getD 0) :: acc else acc
noncomputable def X6 (cells:List (Str×Addr)) (names:List (Str×NameKind)):List (Str×Addr):=names.foldl (p7 cells) []
theorem Q2 {scope:Scope} {env:Env} (h:∀ x∈scope.names,x.2=NameKind.free->∃ c,env.cells.lookup x.1=some c):closureFor scope env=pure (X6 env.cells scope.names):=by
 simp only [closureFor]
 rw [a1c (p7 env.cells) scope.names [] (λx hx c=>by
  obtain ⟨n,k⟩:=x
  by_cases hk:k=NameKind.free
  ·subst hk
   obtain ⟨a,ha⟩:=h _ hx rfl
   simp [cellOf,p7,ha]
  ·have:(k==NameKind.free)=false:=by simpa using hk
   simp [p7,hk,this])]
 rfl
theorem Q3 {cells:List (Str×Addr)}:∀ (names:List (Str×NameKind)) (acc:List (Str×Addr)),(∀ x∈names,x.2=NameKind.free->∃ c,cells.lookup x.1=some c)->(∀ x c,acc.lookup x=some c->cells.lookup x=some c) ->
  ∀ x c,(names.foldl (p7 cells) acc).lookup x=some c->cells.lookup x=some c
 | [],_,_,ha,x,c,e=>ha x c e
 | y :: r,acc,hn,ha,x,c,e=>by
  refine Q3 r (p7 cells acc y) (λz hz=>hn z (List.mem_cons_of_mem _ hz)) (λz d q=>?_) x c e
  unfold p7 at q
  split at q
  ·rename_i hk
   obtain ⟨a,hy⟩:=hn y List.mem_cons_self hk
   rw [List.lookup_cons] at q
   split at q
   ·rename_i hz
    have hz':z=y.1:=by simpa using hz
    rw [hy] at q
    rw [hz',hy];exact q
   ·exact ha z d q
  ·exact ha z d q
theorem a1n {cells:List (Str×Addr)}:∀ (names:List (Str×NameKind)) (acc:List (Str×Addr)) (x:Str),(acc.lookup x).isSome=true->((names.foldl (p7 cells) acc).lookup x).isSome=true
 | [],_,_,h=>h
 | y :: r,acc,x,h=>by
  refine a1n r (p7 cells acc y) x ?_
  unfold p7
  split
  ·rw [List.lookup_cons];split
   ·rfl
   ·exact h
  ·exact h
theorem a1u {cells:List (Str×Addr)}:∀ (names:List (Str×NameKind)) (acc:List (Str×Addr)) (x:Str),(x,NameKind.free)∈names->((names.foldl (p7 cells) acc).lookup x).isSome=true
 | [],_,_,h=>nomatch h
 | y :: r,acc,x,h=>by
  rcases List.mem_cons.mp h with h | h
  ·subst h
   refine a1n r _ x ?_
   simp [p7]
  ·exact a1u r _ x h
theorem mem_of_lookup {α β:Type} [BEq α] [LawfulBEq α]:∀ {l:List (α×β)} {x:α} {y:β},l.lookup x=some y->(x,y)∈l
 | [],_,_,h=>by simp at h
 | (a,b) :: r,x,y,h=>by
  rw [List.lookup_cons] at h
  split at h
  ·rename_i hx
   have:x=a:=by simpa using hx
   cases h;subst this;exact List.mem_cons_self
  ·exact List.mem_cons_of_mem _ (mem_of_lookup h)
theorem Y9 {f:Str×NameKind->Str×NameKind} (hf:∀ y,(f y).1=y.1):∀ (l:List (Str×NameKind)) (x:Str),(l.map f).lookup x=(l.lookup x).map λk=>(f (x,k)).2
 | [],_=>rfl
 | (n,k) :: r,x=>by
  rw [List.map_cons,show f (n,k) :: r.map f=((f (n,k)).1,(f (n,k)).2) :: r.map f from rfl,List.lookup_cons,List.lookup_cons,hf]
  cases hx:x==n with
  | true=>
   have e:x=n:=by simpa using hx
   subst e;rfl
  | false=>exact Y9 hf r x
noncomputable def rlF (env:Env) (y:Str×NameKind):Str×NameKind:=if (y.2==.free&&env.scope.kind==.function&&env.kindOf y.1==some .cell) then (y.1,.cell) else (y.1,y.2)
theorem b7t (env:Env) (y:Str×NameKind):(rlF env y).1=y.1:=by unfold rlF;split <;> rfl
theorem M0 (scope:Scope) (env:Env) (x:Str):(relabel scope env).names.lookup x=(scope.names.lookup x).map λk=>(rlF env (x,k)).2:=Y9 (f:=rlF env) (b7t env) scope.names x
theorem a2b {scope:Scope} {env:Env} {x:Str} (h:scope.names.lookup x=some .free):(relabel scope env).names.lookup x=some .cell\/(relabel scope env).names.lookup x=some .free:=by
 rw [M0,h]
 show some (rlF env (x,.free)).2=_\/some (rlF env (x,.free)).2=_
 unfold rlF
 split
 ·exact .inl rfl
 ·exact .inr rfl
theorem U1 {scope:Scope} {env:Env} {x:Str} {k:NameKind} (h:(relabel scope env).names.lookup x=some k) (hk:k=.cell\/k=.free) (hc:∀ y∈scope.names,y.2≠NameKind.cell):scope.names.lookup x=some .free:=by
 rw [M0] at h
 cases e:scope.names.lookup x with
 | none=>rw [e] at h;cases h
 | some k'=>
  rw [e] at h
  have h':(rlF env (x,k')).2=k:=Option.some.inj h
  have hn:=hc (x,k') (mem_of_lookup e)
  unfold rlF at h'
  split at h'
  ·rename_i hb
   simp only [Bool.and_eq_true,beq_iff_eq] at hb
   exact congrArg some hb.1.1
  ·have h'':k'=k:=h'
   subst h''
   rcases hk with rfl | rfl
   ·exact absurd rfl hn
   ·rfl
theorem HOk.sameBut {P:Program} {w:World} {H:Hp} {h h':Heap} {a:Addr} (ok:HOk P w H h) (hf:H a=none) (hs:Heap.SameBut a h h'):HOk P w H h':=λb ob e=>by
 refine (ok b ob e).stay (λc w' hc q=>(hs.2 c ?_).trans q) (λ_ q=>q) λ_ _ q=>q
 rintro rfl
 rcases hc with rfl | hc
 ·rw [hf] at e;cases e
 ·rw [hf] at hc;cases hc
theorem Un.sameBut {fs ex:List Addr} {H H':Hp} {h h1 h':Heap} {C:Addr} (u:Un fs ex H H' h h1) (hs:Heap.SameBut C h1 h') (hC:h.objs.size<=C):Un fs ex H H' h h':=by
 have ne:∀ b o,h.get? b=some o->b≠C:=λb o e=>Nat.ne_of_lt (Nat.lt_of_lt_of_le (Heap.lt_size e) hC)
 exact ⟨λb o e n hb hx=>(hs.2 b (ne b o e)).trans (u.keep b o e n hb hx),λb o e n hb hx=>let ⟨sl,q⟩:=u.slot b o e n hb hx;⟨sl,(hs.2 b (ne b o e)).trans q⟩,u.free,
  λb o e hx=>let ⟨o',q⟩:=u.there b o e hx;⟨o',(hs.2 b (ne b o e)).trans q⟩,u.tups,u.frzs,u.tbls⟩
noncomputable def i4 (X:Cx) (pins:List (Addr×Obj)) (N':List Str) (scope:Scope) (C:Addr) (fp:List Addr) (s:Shared) (H:Hp):Cx where
 prog:=X.prog
 w:=X.w
 K:=X.K
 mg:=X.mg
 base:=X.base
 A:=X.A
 N:=N'
 s₀:=s
 H₀:=H
 env:=compEnvC scope (X6 X.env.cells scope.names) C X.env
 outer:=X.stack
 stack:=X.stack
 ex:=fp
 fn:=λ_=>false
 calm:=X.calm
 pn:=X.pn++pins
 xe:=λ_ _=>False
structure CompText (N:List Str) (env:Env) (N':List Str) (k:Nat) (caps:List Nat) (scope:Scope):Prop where
 kind:scope.kind=.function
 cell:∀ y∈scope.names,y.2≠NameKind.cell
 loc:∀ y∈scope.names,y.2=NameKind.local->scope.names.lookup y.1=some .local
 free:∀ y∈scope.names,y.2=NameKind.free->scope.names.lookup y.1=some .free/\(env.scope.names.lookup y.1=some .cell\/env.scope.names.lookup y.1=some .free)
 cps:∀ (j i:Nat),caps[j]?=some i->∃ x,N[i]?=some x/\N'[k+j]?=some x/\scope.names.lookup x=some .free
 len:N'.length=k+caps.length
noncomputable def K7 (caps:List Nat) (σ:St):St:=caps.map λi=>(σ[i]?).join
theorem b63 {caps:List Nat} {σ:St} {j:Nat} {v:V} (h:(K7 caps σ)[j]?=some (some v)):∃ i,caps[j]?=some i/\σ[i]?=some (some v):=by
 unfold K7 at h
 rw [List.getElem?_map] at h
 cases e:caps[j]? with
 | none=>rw [e] at h;cases h
 | some i=>
  rw [e] at h
  refine ⟨i,rfl,?_⟩
  have h':(σ[i]?).join=some v:=Option.some.inj h
  cases q:σ[i]? with
  | none=>rw [q] at h';cases h'
  | some o=>rw [q] at h';exact congrArg some h'
section
variable {X:Cx} {pins:List (Addr×Obj)} {σ:St} {H:Hp} {s:Shared} {N':List Str} {k:Nat} {caps:List Nat} {scope:Scope} {fp:List Addr}
theorem b7f (T:CompText X.N X.env N' k caps scope) (I:Inv X pins σ H s) (hf:∀ b∈fp,P2 X pins H b) {C:Addr} (hC:s.heap.objs.size<=C) (hlt:∀ b∈fp,b<s.heap.objs.size):(i4 X pins N' scope C fp s H).Ok:=by
 have fr:∀ x∈scope.names,x.2=NameKind.free->∃ c,X.env.cells.lookup x.1=some c:=λx hx hk=>I.ok.has x.1 (T.free x hx hk).2
 have snd:∀ x c,(X6 X.env.cells scope.names).lookup x=some c->X.env.cells.lookup x=some c:=Q3 scope.names [] fr λx c e=>by simp at e
 refine ⟨I.mod,?_,I.ok.glob,I.ok.blt,hC,λx y c a b=>I.ok.inj x y c (snd x c a) (snd y c b),λx hx=>?_,λx c hfn=>(by cases hfn),I.ok.hd,I.ok.frames,.inl rfl,λb hb=>⟨?_,λx c e=>(hf b hb).2.2.2.2.1 x c (snd x c e)⟩,I.bs,?_,λb o e hb=>?_,λb hb hfs=>?_,I.stack,I.stkFree⟩
 ·exact T.kind
 ·have h:scope.names.lookup x=some .free:=by
   rcases hx with hx | hx
   ·exact U1 hx (.inl rfl) T.cell
   ·exact U1 hx (.inr rfl) T.cell
  exact Option.isSome_iff_exists.mp (a1u scope.names [] x (mem_of_lookup h))
 ·exact Nat.ne_of_lt (Nat.lt_of_lt_of_le (hlt b hb) hC)
 ·exact Nat.le_trans I.ok.bsz I.sz
 ·rcases (hf b hb).2.2.2.1 with z | z
  ·exact I.ok.noex b o e z
  ·exact absurd (Nat.lt_of_lt_of_le (Heap.lt_size (I.ok.bs b o e).1) z) (Nat.lt_irrefl _)
 ·rcases List.mem_cons.mp (I.stkSub b hfs) with z | z
  ·exact (hf b hb).2.1 z
  ·exact (hf b hb).2.2.1 z
theorem a09 (T:CompText X.N X.env N' k caps scope) (I:Inv X pins σ H s) (hf:∀ b∈fp,P2 X pins H b) (hlt:∀ b∈fp,b<s.heap.objs.size) {h':Heap} {m:Str->Option Value} {t:Nat}
  (hn:h'.Ns (s.heap.objs.size+1) m) (hk:∀ b o,s.heap.get? b=some o->h'.get? b=some o) (ha:h'.get? s.heap.objs.size=some { cls:=.type "list",data:=.seq #[] }) :
  Inv (i4 X pins N' scope (s.heap.objs.size+1) fp s H) [] (List.replicate k none++K7 caps σ) (upd H s.heap.objs.size (.lst [])) { s with heap:=h',toks:=t }:=by
 have ok:=b7f T I hf (C:=s.heap.objs.size+1) (Nat.le_succ _) hlt
 have fr:∀ x∈scope.names,x.2=NameKind.free->∃ c,X.env.cells.lookup x.1=some c:=λx hx hk=>I.ok.has x.1 (T.free x hx hk).2
 have snd:∀ x c,(X6 X.env.cells scope.names).lookup x=some c->X.env.cells.lookup x=some c:=Q3 scope.names [] fr λx c e=>by simp at e
 have nacc:H s.heap.objs.size=none:=I.hok.fresh (Nat.le_refl _)
 have lt:∀ b u,H b=some u->b<s.heap.objs.size:=λb u e=>I.hok.lt e
 refine ⟨ok,rfl,I.bare,Un.laid hk (Nat.le_refl _) nacc,⟨m,hn,λi x v e1 e2 e3=>?_⟩,λx c e=>?_,?_,λx c e=>?_,λp hp=>?_,I.hok.laid hk (Nat.le_refl _) ⟨Nat.zero_le _,[],_,.nil,ha⟩,?_⟩
 ·by_cases hi:i<k
  ·rw [List.getElem?_append_left (by simpa using hi)] at e2
   simp [hi] at e2
  ·rw [List.getElem?_append_right (by simpa using Nat.le_of_not_lt hi)] at e2
   rw [List.length_replicate] at e2
   obtain ⟨j,hj,hv⟩:=b63 e2
   obtain ⟨y,h1,h2,h3⟩:=T.cps _ _ hj
   have hik:k+(i-k)=i:=by omega
   rw [hik] at h2
   have hxy:y=x:=Option.some.inj (h2.symm.trans e1)
   subst hxy
   have hvis:=(T.free (y,.free) (mem_of_lookup h3) rfl).2
   obtain ⟨mX,hnX,hlX⟩:=I.loc
   obtain ⟨u,r,l⟩:=hlX j y v h1 hv (by rcases hvis with z | z;exact .inr (.inl z);exact .inr (.inr z))
   refine ⟨u,r,?_⟩
   rcases l with ⟨hk',_⟩ | ⟨_,c,hc,hcell⟩
   ·have hk'':X.env.scope.names.lookup y=some .local:=hk'
    rcases hvis with z | z
    ·rw [hk''] at z;cases z
    ·rw [hk''] at z;cases z
   ·obtain ⟨c',hc'⟩:=Option.isSome_iff_exists.mp (a1u (cells:=X.env.cells) scope.names [] y (mem_of_lookup h3))
    have:c'=c:=Option.some.inj ((snd y c' hc').symm.trans hc)
    subst this
    obtain ⟨oc,ho,hd⟩:=hcell
    exact .inr ⟨a2b h3,c',hc',oc,hk _ _ ho,hd⟩
 ·obtain ⟨v,oc,ho,hd⟩:=I.cell x c (snd x c e)
  exact ⟨v,oc,hk _ _ ho,hd⟩
 ·show upd H s.heap.objs.size (.lst []) (s.heap.objs.size+1)=none
  rw [a9 (Nat.succ_ne_self _)]
  exact I.hok.fresh (Nat.le_succ _)
 ·obtain ⟨v,oc,ho,hd⟩:=I.cell x c (snd x c e)
  rw [a9 (Nat.ne_of_lt (Heap.lt_size ho))]
  exact I.freeC x c (snd x c e)
 ·have hp':p∈X.pn++pins:=by
   have:p∈(X.pn++pins)++[]:=hp
   rwa [List.append_nil] at this
  obtain ⟨e,n,ne,nf,d⟩:=I.pin p hp'
  refine ⟨hk _ _ e,?_,Nat.ne_of_lt (Nat.lt_succ_of_lt (Heap.lt_size e)),λhb=>?_,d⟩
  ·rw [a9 (Nat.ne_of_lt (Heap.lt_size e))];exact n
  ·rcases List.mem_cons.mp (I.stkSub p.1 hb) with z | z
   ·exact ne z
   ·exact nf z
 ·show _=N'.length
  rw [T.len,List.length_append,List.length_replicate]
  unfold K7
  rw [List.length_map]
end
def PTL (X:Cx) (ifs:List Expr) (t:TT):Prop:=
 ∀ (pins:List (Addr×Obj)) (s:Shared) (σ:St) (H:Hp) (Q:Bool->Hp->Prop),Inv X pins σ H s->t σ H Q ->
  wpAny (model X.prog X.w) X.A (forIn ifs true λc r=>if r=true then do let ok <- isTrue c X.env (eval c X.env);pure (ForInStep.yield ok) else pure (ForInStep.yield r)) (TP X pins σ Q) X.xe s
def tTrue:TT:=λ_ H Q=>Q true H
theorem b7k {X:Cx}:PTL X [] tTrue:=λ_ _ _ H _ I h=>by
 rw [List.forIn_nil]
 exact wpAny_pure ⟨H,I,h⟩
theorem b68 {X:Cx} {c:Expr} {t:TT} (h:PT X c t):PTL X [c] t:=λpins s σ H Q I q=>by
 rw [List.forIn_cons]
 refine wpAny_bind ?_
 rw [if_pos rfl]
 refine wpAny_bind (thn (h pins s σ H Q I q) λb s' ⟨H',I',q'⟩=>wpAny_pure ?_)
 dsimp only
 rw [List.forIn_nil]
 exact wpAny_pure ⟨H',I',q'⟩
def b5t (caps:List Nat) (wi:TI) (tc:TT) (te:TE):TE:=λσ H Q=>wi σ H λJ H1=>∀ acc,H1 acc=none->∃ W:Nat->Nat->List V->Hp->Prop,(∃ m,W 0 m [] (upd H1 acc (.lst []))) /\
 ∀ i m ys H2,W i m ys H2->H2 acc=some (.lst ys)/\((J.stop i H2/\Q (.ref acc) H2)\/(J.go i H2/\∀ x H3,J.yld i H2 x H3->tc (some x :: K7 caps σ) H3 λb H5=>
  if b=true then te (some x :: K7 caps σ) H5 λy H6=>H6 acc=some (.lst ys)/\ys.length<sizeLine/\∃ m',m'<m/\W (i+1) m' (ys++[y]) (upd H6 acc (.lst (ys++[y])))
  else ∃ m',m'<m/\W (i+1) m' ys H5))
theorem T0 {M:Model} {A:Around} {E:Value->Shared->Prop} {s:Shared} {α:Type} {t:Sem α} {Q:α->Shared->Prop} {u:Sem Unit} (hu:u=pure ()) (h:wpAny M A u (λ_ s1=>wpAny M A t Q E s1) E s):wpAny M A t Q E s:=by
 have h1:=wpAny_bind (f:=λ_=>t) h
 rw [hu,pure_bind] at h1
 exact h1
theorem q9 {M:Model} {A:Around} {E:Value->Shared->Prop} {s:Shared} {α:Type} {t:Sem α} {Q:α->Shared->Prop} (h:wpAny M A t Q (λ_ _=>False) s):wpAny M A t Q E s:=wpAny_mono h (λ_ _ q=>q) λ_ _ q=>q.elim
theorem c0e {X:Cx} {elt iter:Expr} {x:Str} {px:Pos} {ifs:List Expr} {scope:Scope} {pos:Pos} {N':List Str} {caps:List Nat} {wi:TI} {tc:TT} {te:TE}
  (T:CompText X.N X.env N' 1 caps scope) (hc:X.calm=true) (hN:N'.Nodup) (hx0:N'[0]?=some x) (hxl:scope.names.lookup x=some .local) (hi:PI X (.Name x px) iter wi)
  (ht:∀ pins C fp s H,PTL (i4 X pins N' scope C fp s H) ifs tc) (he:∀ pins C fp s H,PE (i4 X pins N' scope C fp s H) elt te)
  (hs:∀ x,foldedSetIterable iter X.env x=pure x:=by intro _;rfl):PE X (.ListComp elt [⟨.Name x px,iter,ifs,0⟩] scope pos) (b5t caps wi tc te):=by
 intro pins s σ H Q I h
 have fr:∀ x∈scope.names,x.2=NameKind.free->∃ c,X.env.cells.lookup x.1=some c:=λx hx hk=>I.ok.has x.1 (T.free x hx hk).2
 rw [eval_ListComp]
 refine wpAny_comprehension_free (use:=none) rfl hs (Q2 fr) T.kind T.loc ?_
 refine thn (hi pins s σ H _ I h) λv s1 h1=>thn h1 λitv s2 h2=>?_
 obtain ⟨it,fp,tn,J,H2,rfl,I2,Tn,st2,f2,h2⟩:=h2
 obtain ⟨W,⟨m0,w0⟩,turn⟩:=h2 s2.heap.objs.size (I2.hok.fresh (Nat.le_refl _))
 have hlt:∀ b∈fp,b<s2.heap.objs.size:=λb hb=>let ⟨o,e,_⟩:=Tn.obj _ _ st2 b hb;Heap.lt_size e
 refine wpAny_newObj_type (wpAny_newFunctionEnv T.cell (by intro y hy;simp at hy) (λh₁ hns₁ hsb₁=>?_) T.kind)
 dsimp only at hns₁ hsb₁ ⊢
 have hC:(s2.heap.push { cls:=.type "list",dict:=none,data:=.seq ([]:List Value).toArray }).objs.size=s2.heap.objs.size+1:=Heap.size_push ..
 rw [hC] at hns₁ hsb₁
 have old:∀ b o,s2.heap.get? b=some o->h₁.get? b=some o:=λb o e=>hsb₁.extBut b o (Nat.ne_of_lt (Nat.lt_succ_of_lt (Heap.lt_size e))) (Heap.get?_push_of_some _ (Heap.get?_push_of_some _ e))
 have hacc:h₁.get? s2.heap.objs.size=some { cls:=.type "list",data:=.seq #[] }:=hsb₁.extBut _ _ (Nat.ne_of_lt (Nat.lt_succ_self _)) (Heap.get?_push_of_some _ (Heap.get?_push_size _ rfl))
 have hst₁:tn 0 h₁:=Tn.keep _ _ _ st2 λb _ o e=>old b o e
 have I3:=a09 (t:=s2.toks+([]:List (Str×Value)).length) T I2 f2 hlt hns₁ old hacc
 have stat:∀ {H':Hp},(∀ b∈fp,H' b=none)->∀ b∈fp,P2 (i4 X pins N' scope (s2.heap.objs.size+1) fp s2 H2) [] H' b:=λhn b hb=>by
  refine ⟨hn b hb,(I3.ok.exf b hb).1,I3.ok.exfs b hb,.inl hb,(I3.ok.exf b hb).2,λp hp=>?_⟩
  have hp':p∈X.pn++pins:=by
   have:p∈(X.pn++pins)++[]:=hp
   rwa [List.append_nil] at this
  exact (f2 b hb).2.2.2.2.2 p hp'
 have loop:∀ s3:Shared,s3={ s2 with heap:=h₁,toks:=s2.toks+([]:List (Str×Value)).length } ->
   codeAny (model X.prog X.w) X.A (.compLoop (.ListComp elt [⟨.Name x px,iter,ifs,0⟩] scope pos) 0 (.ref it) (.ref s2.heap.objs.size) (compEnvC scope (X6 X.env.cells scope.names) (s2.heap.objs.size+1) X.env))
    (compPost (model X.prog X.w) X.A X.xe none (EP X pins σ Q) (.ref s2.heap.objs.size) (s2.heap.objs.size+1)) s3:=by
  rintro s3 rfl
  refine codeAny_compLoop_tests (λn s'=>∃ i ys H',Inv (i4 X pins N' scope (s2.heap.objs.size+1) fp s2 H2) [] (none :: K7 caps σ) H' s'/\tn i s'.heap/\(∀ b∈fp,H' b=none)/\W i n ys H') ?_ m0
   ⟨0,[],_,I3,hst₁,λb hb=>by rw [a9 (Nat.ne_of_lt (hlt b hb))];exact (f2 b hb).1,w0⟩ (λ_=>rfl)
  rintro n s4 ⟨i,ys,H4,I4,st4,fr4,w4⟩
  obtain ⟨hacc4,turn4⟩:=turn i n ys H4 w4
  refine q9 ?_
  rcases turn4 with ⟨stop,q⟩ | ⟨go,step⟩
  ·refine thn (Tn.done (i4 X pins N' scope (s2.heap.objs.size+1) fp s2 H2) rfl rfl rfl hc i [] s4 _ H4 (λ_ _=>False) I4 (stat fr4) st4 stop) λr s5 ⟨hr,I5⟩=>?_
   subst hr
   obtain ⟨m5,hn5,_⟩:=id I5.loc
   refine ⟨m5,hn5,λh' hs'=>?_⟩
   refine ⟨.ref s2.heap.objs.size,H4,?_,rfl,q⟩
   refine I2.call' (ch:=fp) (s':={ s5 with heap:=h' }) I5.os (Un.sameBut I5.base hs' (Nat.le_succ _)) (I5.hok.sameBut I5.free hs') I5.bare λb hb=>?_
   have:=f2 b hb
   exact ⟨this.2.2.2.1,this.2.1,this.2.2.2.2.1,this.2.2.2.2.2⟩
  ·refine thn (Tn.item (i4 X pins N' scope (s2.heap.objs.size+1) fp s2 H2) rfl rfl rfl hc i [] s4 _ H4 (λ_ _=>False) I4 (stat fr4) st4 go) λr s5 ⟨u,hr,h5⟩=>?_
   subst hr
   dsimp only
   refine q9 (T0 (u:=letOwnedTupleGo (.Name x px) (.ref it) u) rfl (thn h5 λ_ s6 ⟨xv,H6,I6,r6,y6,st6,fr6⟩=>?_))
   have I6':=I6.pinned (stat fr6) (Tn.obj _ _ st6)
   refine thn (a0r (X:=i4 X pins N' scope (s2.heap.objs.size+1) fp s2 H2) (i:=0) hN hx0 (.inl (lookup_relabel_local hxl)) (.inr (lookup_relabel_local hxl)) _ s6 _ H6 xv u (λσ2 H4=>σ2=some xv :: K7 caps σ/\H4=H6) I6' r6 ⟨rfl,rfl⟩) λ_ s7 ⟨σ7,H7,I7,e7,e7'⟩=>?_
   subst e7 e7'
   have back:∀ {σ8:St} {H8:Hp} {s8:Shared},Inv (i4 X pins N' scope (s2.heap.objs.size+1) fp s2 H2) ([]++M1 fp s6.heap) σ8 H8 s8->tn (i+1) s8.heap/\∀ b∈fp,H8 b=none:=λ{σ8 H8 s8} I8=>by
    refine ⟨Tn.keep _ _ _ st6 λb hb o e=>(I8.pin (b,o) (List.mem_append_right _ (List.mem_append_right _ (w6 hb e)))).1,λb hb=>?_⟩
    obtain ⟨o,e,d⟩:=Tn.obj _ _ st6 b hb
    exact (I8.pin (b,o) (List.mem_append_right _ (List.mem_append_right _ (w6 hb e)))).2.1
   refine q9 (thn (ht pins _ fp s2 H2 _ s7 _ _ _ I7 (step xv _ y6)) λb s8 ⟨H8,I8,q8⟩=>?_)
   have wk:∀ {H9:Hp} {s9:Shared},Inv (i4 X pins N' scope (s2.heap.objs.size+1) fp s2 H2) ([]++M1 fp s6.heap) (some xv :: K7 caps σ) H9 s9->Inv (i4 X pins N' scope (s2.heap.objs.size+1) fp s2 H2) [] (none :: K7 caps σ) H9 s9:=λ{H9 s9} I9=>
    I9.unpinned.weak rfl λj v e=>by
     cases j with
     | zero=>simp at e
     | succ j=>simpa using e
   cases b with
   | false=>
    obtain ⟨m',hm,w'⟩:=q8
    exact ⟨m',hm,i+1,ys,H8,wk I8,(back I8).1,(back I8).2,w'⟩
   | true=>
    refine q9 (thn (he pins _ fp s2 H2 _ s8 _ H8 _ I8 q8) λz s9 ⟨y,H9,I9,r9,hacc9,hl9,m',hm,w'⟩=>?_)
    refine q9 (thn (a28 (X:=i4 X pins N' scope (s2.heap.objs.size+1) fp s2 H2) _ s9 _ H9 (.ref s2.heap.objs.size) [y] (.ref s2.heap.objs.size) [z] (λ_ H'=>H'=upd H9 s2.heap.objs.size (.lst (ys++[y]))) I9 rfl (.cons r9 .nil) ⟨_,ys,y,rfl,rfl,hacc9,hl9,rfl⟩) λ_ s10 ⟨_,H10,I10,_,e10⟩=>?_)
    subst e10
    exact ⟨m',hm,i+1,ys++[y],_,wk I10,(back I10).1,(back I10).2,w'⟩
 have fin:=codeAny_compStart_list (loop _ rfl) (Tn.self _ 0 _ _ _ hst₁ (loop _ rfl))
 rw [<- hC] at fin
 exact fin
theorem a66 {X:Cx} {elt iter:Expr} {x:Str} {px:Pos} {y:Str} {py spos:Pos} {iy:Nat} {ifs:List Expr} {scope:Scope} {pos:Pos} {N':List Str} {caps:List Nat} {wi:TI} {tc:TT} {te:TE}
  (hsw:swapsWith (.ListComp elt [⟨.Name x px,iter,ifs,0⟩] scope pos) (some (.Name y py)) spos.line X.env=pure true) (hNX:X.N.Nodup) (hiy:X.N[iy]?=some y) (hy:Loc X.env.scope y) (hf:X.fn y=true\/X.env.scope.names.lookup y=some .local)
  (T:CompText X.N X.env N' 1 caps scope) (hc:X.calm=true) (hN:N'.Nodup) (hx0:N'[0]?=some x) (hxl:scope.names.lookup x=some .local) (hi:PI X (.Name x px) iter wi)
  (ht:∀ pins C fp s H,PTL (i4 X pins N' scope C fp s H) ifs tc) (he:∀ pins C fp s H,PE (i4 X pins N' scope C fp s H) elt te)
  (hs:∀ x,foldedSetIterable iter X.env x=pure x:=by intro _;rfl):PS X (.Assign [.Name y py] (.ListComp elt [⟨.Name x px,iter,ifs,0⟩] scope pos) spos) (b7z (b5t caps wi tc te) (a8a iy)):=by
 intro pins s σ H D I h
 have fr:∀ x∈scope.names,x.2=NameKind.free->∃ c,X.env.cells.lookup x.1=some c:=λx hx hk=>I.ok.has x.1 (T.free x hx hk).2
 rw [exec_Assign_Name_used _ _ _ _ hsw]
 refine wpAny_bind (wpAny_standAt (wpAny_bind ?_))
 show wpAny _ X.A (do let _ <- comprehension (.ListComp elt [⟨.Name x px,iter,ifs,0⟩] scope pos) scope X.env _ (newList []) false (eval iter X.env) (some (assign (.Name y py) X.env))) _ _ s
 refine wpAny_bind (wpAny_mono (wpAny_comprehension_free (use:=some (assign (.Name y py) X.env)) (Q:=λ_ s'=>SP X pins D .next s') rfl hs (Q2 fr) T.kind T.loc ?_) (λ_ s' hq=>wpAny_pure (wpAny_pure hq)) λ_ _ e=>e)
 refine thn (hi pins s σ H _ I h) λv s1 h1=>thn h1 λitv s2 h2=>?_
 obtain ⟨it,fp,tn,J,H2,rfl,I2,Tn,st2,f2,h2⟩:=h2
 obtain ⟨W,⟨m0,w0⟩,turn⟩:=h2 s2.heap.objs.size (I2.hok.fresh (Nat.le_refl _))
 have hlt:∀ b∈fp,b<s2.heap.objs.size:=λb hb=>let ⟨o,e,_⟩:=Tn.obj _ _ st2 b hb;Heap.lt_size e
 refine wpAny_newObj_type (wpAny_newFunctionEnv T.cell (by intro y hy;simp at hy) (λh₁ hns₁ hsb₁=>?_) T.kind)
 dsimp only at hns₁ hsb₁ ⊢
 have hC:(s2.heap.push { cls:=.type "list",dict:=none,data:=.seq ([]:List Value).toArray }).objs.size=s2.heap.objs.size+1:=Heap.size_push ..
 rw [hC] at hns₁ hsb₁
 have old:∀ b o,s2.heap.get? b=some o->h₁.get? b=some o:=λb o e=>hsb₁.extBut b o (Nat.ne_of_lt (Nat.lt_succ_of_lt (Heap.lt_size e))) (Heap.get?_push_of_some _ (Heap.get?_push_of_some _ e))
 have hacc:h₁.get? s2.heap.objs.size=some { cls:=.type "list",data:=.seq #[] }:=hsb₁.extBut _ _ (Nat.ne_of_lt (Nat.lt_succ_self _)) (Heap.get?_push_of_some _ (Heap.get?_push_size _ rfl))
 have hst₁:tn 0 h₁:=Tn.keep _ _ _ st2 λb _ o e=>old b o e
 have I3:=a09 (t:=s2.toks+([]:List (Str×Value)).length) T I2 f2 hlt hns₁ old hacc
 have stat:∀ {H':Hp},(∀ b∈fp,H' b=none)->∀ b∈fp,P2 (i4 X pins N' scope (s2.heap.objs.size+1) fp s2 H2) [] H' b:=λhn b hb=>by
  refine ⟨hn b hb,(I3.ok.exf b hb).1,I3.ok.exfs b hb,.inl hb,(I3.ok.exf b hb).2,λp hp=>?_⟩
  have hp':p∈X.pn++pins:=by
   have:p∈(X.pn++pins)++[]:=hp
   rwa [List.append_nil] at this
  exact (f2 b hb).2.2.2.2.2 p hp'
 have loop:∀ s3:Shared,s3={ s2 with heap:=h₁,toks:=s2.toks+([]:List (Str×Value)).length } ->
   codeAny (model X.prog X.w) X.A (.compLoop (.ListComp elt [⟨.Name x px,iter,ifs,0⟩] scope pos) 0 (.ref it) (.ref s2.heap.objs.size) (compEnvC scope (X6 X.env.cells scope.names) (s2.heap.objs.size+1) X.env))
    (compPost (model X.prog X.w) X.A X.xe (some (assign (.Name y py) X.env)) (λ_ s'=>SP X pins D .next s') (.ref s2.heap.objs.size) (s2.heap.objs.size+1)) s3:=by
  rintro s3 rfl
  refine codeAny_compLoop_tests (λn s'=>∃ i ys H',Inv (i4 X pins N' scope (s2.heap.objs.size+1) fp s2 H2) [] (none :: K7 caps σ) H' s'/\tn i s'.heap/\(∀ b∈fp,H' b=none)/\W i n ys H') ?_ m0
   ⟨0,[],_,I3,hst₁,λb hb=>by rw [a9 (Nat.ne_of_lt (hlt b hb))];exact (f2 b hb).1,w0⟩ (λ_=>rfl)
  rintro n s4 ⟨i,ys,H4,I4,st4,fr4,w4⟩
  obtain ⟨hacc4,turn4⟩:=turn i n ys H4 w4
  refine q9 ?_
  rcases turn4 with ⟨stop,q⟩ | ⟨go,step⟩
  ·refine thn (Tn.done (i4 X pins N' scope (s2.heap.objs.size+1) fp s2 H2) rfl rfl rfl hc i [] s4 _ H4 (λ_ _=>False) I4 (stat fr4) st4 stop) λr s5 ⟨hr,I5⟩=>?_
   subst hr
   obtain ⟨m5,hn5,_⟩:=id I5.loc
   have IX:Inv X pins σ H4 s5:=I2.call' (ch:=fp) I5.os I5.base I5.hok I5.bare λb hb=>by
    have:=f2 b hb
    exact ⟨this.2.2.2.1,this.2.1,this.2.2.2.2.1,this.2.2.2.2.2⟩
   have C0:s2.heap.objs.size<=s2.heap.objs.size+1:=Nat.le_succ _
   have cC:∀ z c,X.env.cells.lookup z=some c->c≠s2.heap.objs.size+1:=λz c e=>by
    obtain ⟨v,oc,ho,_⟩:=I2.cell z c e
    exact Nat.ne_of_lt (Nat.lt_succ_of_lt (Heap.lt_size ho))
   have lC:X.env.locals≠s2.heap.objs.size+1:=Nat.ne_of_lt (Nat.lt_succ_of_lt I2.lt)
   show wpAny _ X.A (assign (.Name y py) X.env (.ref s2.heap.objs.size)) (λ_ s''=>∃ m,s''.heap.Ns (s2.heap.objs.size+1) m/\∀ h',Heap.SameBut (s2.heap.objs.size+1) s''.heap h'->SP X pins D .next { s'' with heap:=h' }) X.xe s5
   refine wpAny_assign_Name (a2t (v:=.ref s2.heap.objs.size) IX hNX hiy hy rfl (λs6 I6 ⟨a,sb,ha⟩=>?_) hf)
   have aC:s2.heap.objs.size+1≠a:=λz=>by
    rcases ha with ha | ha
    ·exact lC (by rw [<- ha,<- z])
    ·exact cC _ _ ha z.symm
   refine ⟨m5,hn5.sameBut sb aC,λh' hs'=>?_⟩
   refine ⟨_,H4,I6.turned (t':=s6.toks) (it:=s2.heap.objs.size+1) (λb o hb e=>hs'.extBut b o hb e) I5.free lC.symm (.inr (Nat.le_trans I2.sz C0)) cC (λp hp=>?_),q⟩
   exact Nat.ne_of_lt (Nat.lt_succ_of_lt (Heap.lt_size (I2.pin p hp).1))
  ·refine thn (Tn.item (i4 X pins N' scope (s2.heap.objs.size+1) fp s2 H2) rfl rfl rfl hc i [] s4 _ H4 (λ_ _=>False) I4 (stat fr4) st4 go) λr s5 ⟨u,hr,h5⟩=>?_
   subst hr
   dsimp only
   refine q9 (T0 (u:=letOwnedTupleGo (.Name x px) (.ref it) u) rfl (thn h5 λ_ s6 ⟨xv,H6,I6,r6,y6,st6,fr6⟩=>?_))
   have I6':=I6.pinned (stat fr6) (Tn.obj _ _ st6)
   refine thn (a0r (X:=i4 X pins N' scope (s2.heap.objs.size+1) fp s2 H2) (i:=0) hN hx0 (.inl (lookup_relabel_local hxl)) (.inr (lookup_relabel_local hxl)) _ s6 _ H6 xv u (λσ2 H4=>σ2=some xv :: K7 caps σ/\H4=H6) I6' r6 ⟨rfl,rfl⟩) λ_ s7 ⟨σ7,H7,I7,e7,e7'⟩=>?_
   subst e7 e7'
   have back:∀ {σ8:St} {H8:Hp} {s8:Shared},Inv (i4 X pins N' scope (s2.heap.objs.size+1) fp s2 H2) ([]++M1 fp s6.heap) σ8 H8 s8->tn (i+1) s8.heap/\∀ b∈fp,H8 b=none:=λ{σ8 H8 s8} I8=>by
    refine ⟨Tn.keep _ _ _ st6 λb hb o e=>(I8.pin (b,o) (List.mem_append_right _ (List.mem_append_right _ (w6 hb e)))).1,λb hb=>?_⟩
    obtain ⟨o,e,d⟩:=Tn.obj _ _ st6 b hb
    exact (I8.pin (b,o) (List.mem_append_right _ (List.mem_append_right _ (w6 hb e)))).2.1
   refine q9 (thn (ht pins _ fp s2 H2 _ s7 _ _ _ I7 (step xv _ y6)) λb s8 ⟨H8,I8,q8⟩=>?_)
   have wk:∀ {H9:Hp} {s9:Shared},Inv (i4 X pins N' scope (s2.heap.objs.size+1) fp s2 H2) ([]++M1 fp s6.heap) (some xv :: K7 caps σ) H9 s9->Inv (i4 X pins N' scope (s2.heap.objs.size+1) fp s2 H2) [] (none :: K7 caps σ) H9 s9:=λ{H9 s9} I9=>
    I9.unpinned.weak rfl λj v e=>by
     cases j with
     | zero=>simp at e
     | succ j=>simpa using e
   cases b with
   | false=>
    obtain ⟨m',hm,w'⟩:=q8
    exact ⟨m',hm,i+1,ys,H8,wk I8,(back I8).1,(back I8).2,w'⟩
   | true=>
    refine q9 (thn (he pins _ fp s2 H2 _ s8 _ H8 _ I8 q8) λz s9 ⟨y,H9,I9,r9,hacc9,hl9,m',hm,w'⟩=>?_)
    refine q9 (thn (a28 (X:=i4 X pins N' scope (s2.heap.objs.size+1) fp s2 H2) _ s9 _ H9 (.ref s2.heap.objs.size) [y] (.ref s2.heap.objs.size) [z] (λ_ H'=>H'=upd H9 s2.heap.objs.size (.lst (ys++[y]))) I9 rfl (.cons r9 .nil) ⟨_,ys,y,rfl,rfl,hacc9,hl9,rfl⟩) λ_ s10 ⟨_,H10,I10,_,e10⟩=>?_)
    subst e10
    exact ⟨m',hm,i+1,ys++[y],_,wk I10,(back I10).1,(back I10).2,w'⟩
 have fin:=codeAny_compStart_list (loop _ rfl) (Tn.self _ 0 _ _ _ hst₁ (loop _ rfl))
 rw [<- hC] at fin
 exact fin
mutual
inductive DAt (K:PySem.W.Frag) (H:Hp):V->PyData->Prop where
 | non:DAt K H .non .none
 | bl (b:Bool):DAt K H (.bl b) (.bool b)
 | int (i:Int):DAt K H (.int i) (.int i)
 | str (x:Str):DAt K H (.str x) (.str x)
 | lst {a:Addr} {xs:List V} {ds:List PyData}:SqL K H a xs->DAll K H xs ds->DAt K H (.ref a) (.list ds)
 | tup {a:Addr} {xs:List V} {ds:List PyData}:SqT K H a xs->DAll K H xs ds->DAt K H (.ref a) (.tuple ds)
inductive DAll (K:PySem.W.Frag) (H:Hp):List V->List PyData->Prop where
 | nil:DAll K H [] []
 | cons {x:V} {d:PyData} {xs:List V} {ds:List PyData}:DAt K H x d->DAll K H xs ds->DAll K H (x :: xs) (d :: ds)
end
def Keeps (K:PySem.W.Frag) (H H':Hp):Prop:=(∀ a xs,SqL K H a xs->SqL K H' a xs)/\∀ a xs,SqT K H a xs->SqT K H' a xs
mutual
theorem DAt.keeps {K:PySem.W.Frag} {H H':Hp} (k:Keeps K H H'):∀ {v:V} {d:PyData},DAt K H v d->DAt K H' v d
 | _,_,.non=>.non
 | _,_,.bl b=>.bl b
 | _,_,.int i=>.int i
 | _,_,.str x=>.str x
 | _,_,.lst h r=>.lst (k.1 _ _ h) (DAll.keeps k r)
 | _,_,.tup h r=>.tup (k.2 _ _ h) (DAll.keeps k r)
theorem DAll.keeps {K:PySem.W.Frag} {H H':Hp} (k:Keeps K H H'):∀ {xs:List V} {ds:List PyData},DAll K H xs ds->DAll K H' xs ds
 | _,_,.nil=>.nil
 | _,_,.cons h r=>.cons (DAt.keeps k h) (DAll.keeps k r)
end
theorem Keeps.of_same {K:PySem.W.Frag} {H H':Hp} (e:Same H H'):Keeps K H H':=
 ⟨λa xs h=>e.seq h,λa xs h=>by
  rcases h with (h | ⟨o,h⟩) | h
  ·exact .inl (.inl (e _ _ h))
  ·exact .inl (.inr ⟨o,e _ _ h⟩)
  ·exact .inr h⟩
theorem Same.laid {H:Hp} {p:Addr} {o:HO} (h:H p=none):Same H (upd H p o):=λb u e=>by rw [a9 (c9 e h)];exact e
theorem Keeps.laid {K:PySem.W.Frag} {H:Hp} {p:Addr} {o:HO} (h:H p=none):Keeps K H (upd H p o):=Keeps.of_same (Same.laid h)
section
variable {X:Cx} {pins:List (Addr×Obj)} {σ:St} {H:Hp} {s:Shared}
mutual
theorem DAt.reads (I:Inv X pins σ H s):∀ {v:V} {d:PyData},DAt X.K H v d->∀ {u:Value},RelV v u->∃ as,Reads s.heap u d as
 | _,_,.non,u,r=>by cases (show u=Value.none from r);exact ⟨_,.none⟩
 | _,_,.bl b,u,r=>by cases (show u=Value.bool b from r);exact ⟨_,.bool b⟩
 | _,_,.int i,u,r=>by obtain ⟨t,e⟩:=(show ∃ t,u=Value.int i t from r);subst e;exact ⟨_,.int i t⟩
 | _,_,.str x,u,r=>by obtain ⟨t,e⟩:=(show ∃ t,u=Value.str x t from r);subst e;exact ⟨_,.str x t⟩
 | _,_,.lst (a:=a) h q,u,r=>by
  cases (show u=Value.ref a from r)
  obtain ⟨its,rv,⟨o,n,e1,e2,e3,e4⟩,_⟩:=I.list h
  obtain ⟨as,ra⟩:=DAll.reads I q rv
  exact ⟨_,.list e1 e2 e4 ra⟩
 | _,_,.tup (a:=a) h q,u,r=>by
  cases (show u=Value.ref a from r)
  obtain ⟨its,rv,⟨o,e1,e2,n,e4⟩,_⟩:=I.tuple h
  obtain ⟨as,ra⟩:=DAll.reads I q rv
  exact ⟨_,.tuple e1 e2 e4 ra⟩
theorem DAll.reads (I:Inv X pins σ H s):∀ {vs:List V} {ds:List PyData},DAll X.K H vs ds->∀ {us:List Value},Vals vs us->∃ as,ReadsAll s.heap us ds as
 | _,_,.nil,us,r=>by cases r;exact ⟨_,.nil⟩
 | _,_,.cons h q,us,r=>by
  cases r with
  | cons r1 r2=>
   obtain ⟨as,h1⟩:=DAt.reads I h r1
   obtain ⟨bs,h2⟩:=DAll.reads I q r2
   exact ⟨_,.cons h1 h2⟩
end
structure Shows (d:PyData):Prop where
 sh:d.showable=true
 nd:d.hasDict=false
 dp:d.depth<=60
 sz:d.shown.length<=sizeLine
theorem b03 (hg:X.A.guards=some []) (hu:X.A.units+64<cLine):j3 X (.builtin "repr") (λxs H Q=>∃ v d,xs=[v]/\DAt X.K H v d/\Shows d/\Q (.str d.shown) H):=by
 intro pins s σ H xs us Q I r h
 obtain ⟨v,d,rfl,hd,S,q⟩:=h
 obtain ⟨u,rfl,ru⟩:=K0 r
 have sh:=S.sh
 have sz:=S.sz
 cases hd with
 | non=>cases (show u=Value.none from ru);exact PySem.P.repr_of_none ⟨.str (PyData.shown .none),H,I.tok _,⟨_,rfl⟩,q⟩
 | bl b=>cases (show u=Value.bool b from ru);exact PySem.P.repr_of_bool ⟨.str (PyData.shown (.bool b)),H,I.tok _,⟨_,rfl⟩,q⟩
 | int i=>obtain ⟨t,e⟩:=(show ∃ t,u=Value.int i t from ru);subst e;exact PySem.P.repr_of_int (by simpa [PyData.showable] using sh) ⟨.str (PyData.shown (.int i)),H,I.tok _,⟨_,rfl⟩,q⟩
 | str x=>obtain ⟨t,e⟩:=(show ∃ t,u=Value.str x t from ru);subst e;exact PySem.P.repr_of_str ⟨.str (PyData.shown (.str x)),H,I.tok _,⟨_,rfl⟩,q⟩ sz
 | lst h1 h2=>
  obtain ⟨as,rr⟩:=DAt.reads I (.lst h1 h2) ru
  obtain ⟨a,rfl⟩:=isRef_of_reads rr rfl
  exact repr_of_reads' rr sh (PyData.noDict_hsm S.nd) hg (by have:=S.dp;omega) (λ_ _ e=>e) (λh' u tk hk=>⟨.str (PyData.shown _),H,I.kept hk,⟨_,rfl⟩,q⟩) sz
 | tup h1 h2=>
  obtain ⟨as,rr⟩:=DAt.reads I (.tup h1 h2) ru
  obtain ⟨a,rfl⟩:=isRef_of_reads rr rfl
  exact repr_of_reads' rr sh (PyData.noDict_hsm S.nd) hg (by have:=S.dp;omega) (λ_ _ e=>e) (λh' u tk hk=>⟨.str (PyData.shown _),H,I.kept hk,⟨_,rfl⟩,q⟩) sz
end
def d05 (K:PySem.W.Frag) (neg:Bool):R2:=λx y H Q=>∃ d e,DAt K H x d/\DAt K H y e/\d.canLay0=true/\e.canLay0=true/\min d.depth e.depth<=60/\Q (.bl (if neg then !PyData.eqv d e else PyData.eqv d e)) H
section
variable {X:Cx}
theorem c5j (hu:X.A.units+64<cLine):OpR X (compareOp .Eq) (d05 X.K false):=by
 intro pins s σ H x y v u Q I rx ry h
 obtain ⟨d,e,hd,he,c1,c2,dp,q⟩:=h
 obtain ⟨as,r1⟩:=hd.reads I rx
 obtain ⟨bs,r2⟩:=he.reads I ry
 exact SeqAt.compareEq_reads r1 r2 c1 c2 (by omega) ⟨.bl (PyData.eqv d e),H,I,rfl,q⟩
theorem c3s (hu:X.A.units+64<cLine):OpR X (compareOp .NotEq) (d05 X.K true):=by
 intro pins s σ H x y v u Q I rx ry h
 obtain ⟨d,e,hd,he,c1,c2,dp,q⟩:=h
 obtain ⟨as,r1⟩:=hd.reads I rx
 obtain ⟨bs,r2⟩:=he.reads I ry
 exact SeqAt.compareNe_reads r1 r2 c1 c2 (by omega) ⟨.bl (!PyData.eqv d e),H,I,rfl,q⟩
end
end L2
namespace L2
open PySem PySem.W PySem.Calls PyProof.Rows
noncomputable def Z3 (K:Frag) (C:Addr):Bool:=match K.lookup C with
 | some ⟨oc,_,.cls cd,sl⟩=>oc==.type "type" && !cd.hasDel&&cd.hasDict&&(sl.toList[4]?).join==some (.builtin "ValueError.__new__")&&!cd.mro.isEmpty&&cd.mro.contains (.ref C)&&cd.mro.contains (.type "ValueError")&&cd.mro.contains (.type "BaseException") &&
   !cd.mro.contains (.type "AttributeError")&&!cd.mro.contains (.type "NameError")&&specialIn K (.ref C) "__call__" == some (some (.builtin "type.__call__"))&&instIn K (.ref C) (.type "type")==some true
 | _=>false
structure MakesX (M:Model) (h:Heap) (C:Addr):Prop where
 obj:∃ oc od cd sl,h.get? C=some ⟨oc,od,.cls cd,sl⟩/\cd.hasDel=false/\cd.mro.isEmpty=false
 made:Looks M h (Bind.madeBy (.ref C)) (some "ValueError.__new__")
 base:Looks M h (Bind.staticBase (.ref C)) (.ref C)
 self:Looks M h (isSubtype (.ref C) (.ref C)) true
 isV:Looks M h (isSubtype (.ref C) (.type "ValueError")) true
 isB:Looks M h (isSubtype (.ref C) (.type "BaseException")) true
 noA:Looks M h (isSubtype (.ref C) (.type "AttributeError")) false
 noN:Looks M h (isSubtype (.ref C) (.type "NameError")) false
 call:Looks M h (specialOf (.ref C) "__call__") (some (.builtin "type.__call__"))
 typ:Looks M h (isInstance (.ref C) (.type "type")) true
 ty:Looks M h (typeOf (.ref C)) (.type "type")
 isT:Looks M h (isType (.ref C)) true
theorem G1 {K:Frag} {M:Model} {h:Heap} (X:K.In h) {C:Addr} (e:Z3 K C=true):MakesX M h C:=by
 unfold Z3 at e
 split at e
 case h_2=>cases e
 rename_i oc od cd sl ho
 simp only [Bool.and_eq_true,Bool.not_eq_true',beq_iff_eq] at e
 obtain ⟨⟨⟨⟨⟨⟨⟨⟨⟨⟨⟨e0,e1⟩,_⟩,e3⟩,e4⟩,e5⟩,e6⟩,e7⟩,e8⟩,e9⟩,e10⟩,e11⟩:=e
 have hc:clsIn K C=some cd:=by unfold clsIn;rw [ho]
 have sub:∀ {b:Value} {r:Bool},cd.mro.contains b=r->Looks M h (isSubtype (.ref C) b) r:=λ{b r} q=>looks_mroIn X (by unfold mroIn;rw [hc,Option.bind_some,if_neg (by rw [e4];decide),q])
 have hm:Looks M h (mroOf (.ref C)) cd.mro:=(looks_clsIn X hc).andThen .now
 obtain ⟨c,l,hl⟩:∃ c l,cd.mro=c :: l:=by
  cases q:cd.mro with
  | nil=>rw [q] at e4;cases e4
  | cons c l=>exact ⟨c,l,rfl⟩
 have made:Looks M h (Bind.madeBy (.ref C)) (some "ValueError.__new__"):=λA Q E s k q=>by
  unfold Bind.madeBy
  refine wpAny_bind (hm A _ E s k ?_)
  rw [hl,List.forIn_cons]
  refine wpAny_bind (wpAny_bind (wpAny_bind (wpAny_bind (wpAny_loadPart (k _ _ (X _ _ ho)) (wpAny_pure ?_)))))
  dsimp only
  rw [<- Array.getElem?_toList,e3]
  exact wpAny_pure (wpAny_pure (wpAny_pure q))
 refine ⟨⟨oc,od,cd,sl,X _ _ ho,e1,e4⟩,made,λA Q E s k q=>?_,sub e5,sub e6,sub e7,sub e8,sub e9,looks_specialIn X e10,looks_instIn X e11,?_,(Looks.ld (X _ _ ho)).andThen .now⟩
 ·unfold Bind.staticBase
  refine wpAny_bind (hm A _ E s k ?_)
  rw [hl,List.forIn_cons]
  exact wpAny_bind (wpAny_bind (wpAny_bind (made A _ E s k (wpAny_pure (wpAny_pure (wpAny_pure q))))))
 ·subst e0;exact (Looks.ld (X _ _ ho)).andThen .now
noncomputable abbrev B2 (C t:Addr):Obj:={ cls:=.ref C,data:=.fields #[.ref t,.none,.none,.none,.bool false,.none] }
noncomputable abbrev D9 (vs:List Value):Obj:={ cls:=.type "tuple",data:=.seq vs.toArray }
section
variable {prog:Program} {w:World} {A:Around} {K:Frag} {C:Addr} {R:Result->Shared->Prop} {h:Heap} {g:Array GenState} {d:Drawn} {t:Nat} {os:OsState}
theorem d2v {rest:List Value} (Y:MakesX (model prog w) h C) (hrest:rest.length<=sizeLine)
  (hq:R (.ok (.ret (.ref (h.objs.size+1)))) ⟨(h.push (D9 rest)).push (B2 C h.objs.size),g,d,t,os⟩) :
  codeAny (model prog w) A (.call (.builtin "ValueError.__new__") ⟨.ref C :: rest,[]⟩) R ⟨h,g,d,t,os⟩:=by
 obtain ⟨⟨oc,od,cd,sl,hC,e1,e4⟩,made,base,self,isV,isB,noA,noN,call,typ,_,_⟩:=Y
 have F:=PySem.F.excBase_ValueError
 refine codeAny_call_builtin_code (Code.quiet_builtin _ F.quiet) ?_
 simp only [checkBuiltinCall,F.newKind,F.newSplit,F.newRow]
 have here:Looks (model prog w) h (Bind.madeHere "ValueError.__new__" (.ref C)) ():=base.andThen (made.andThen (Looks.of_pure (by simp only [Option.map_some,bne_self_eq_false,Bool.false_eq_true,if_false])))
 repeat (first | simp only [bne_self_eq_false,Bool.false_eq_true,if_false] | lk)
 have here2:Looks (model prog w) h (Bind.madeHere "BaseException.__new__" (.ref C)) ():=base.andThen (made.andThen (Looks.of_pure (by simp only [Option.map_some,F.canon,bne_self_eq_false,Bool.false_eq_true,if_false])))
 have ends:=F.ends
 refine codeAny_builtinAt F.entry (PySem.wpAt_bind ?_)
 show PySem.wpAt _ _ _ (stack >>= _) _ _ _
 refine PySem.wpAt_bind (PySem.wpAt_stack λp below=>PySem.wpAt_of_wpAny ?_)
 wp_walk
 refine PySem.wpAt_of_wpAny ?_
 rw [F.owner]
 repeat lk
 rw [if_neg (by rw [List.size_toArray];omega)]
 show wpAny _ _ (newObjAsIs _ _) _ _ _
 have hC2:(h.push (D9 rest)).get? C=some ⟨oc,od,.cls cd,sl⟩:=Heap.get?_push_of_some _ hC
 have hC3:((h.push (D9 rest)).push (B2 C h.objs.size)).get? C=some ⟨oc,od,.cls cd,sl⟩:=Heap.get?_push_of_some _ hC2
 unfold newObjAsIs
 refine wpAny_bind (wpAny_alloc (wpAny_pure (wpAny_bind ?_)))
 show wpAny _ _ (newObjAsIs _ _) _ _ _
 unfold newObjAsIs classHasDel
 refine wpAny_bind (wpAny_alloc (wpAny_bind (wpAny_bind (wpAny_load hC3 (wpAny_pure ?_)))))
 rw [e1]
 refine wpAny_pure (wpAny_pure ?_)
 show R _ _
 rw [Heap.size_push]
 exact hq
theorem c9r {rest:List Value} {f:Addr} (Y:MakesX (model prog w) h C) (hi:Looks (model prog w) h (typeLookup (.ref C) "__init__") (some (.ref f)))
  (hb:∀ self,Looks (model prog w) h (bindSpecial (.ref f) self) (.ref f,[self])) (hrest:rest.length<=sizeLine)
  (hq:codeAny (model prog w) (A.under (.builtin "type.__call__" ⟨.ref C :: rest,[]⟩)) (.call (.ref f) ⟨.ref (h.objs.size+1) :: rest,[]⟩) (InitBack (h.objs.size+1) R) ⟨(h.push (D9 rest)).push (B2 C h.objs.size),g,d,t,os⟩) :
  codeAny (model prog w) A (.call (.ref C) ⟨rest,[]⟩) R ⟨h,g,d,t,os⟩:=by
 have Y':=Y
 obtain ⟨⟨oc,od,cd,sl,hC,e1,e4⟩,made,base,self,isV,isB,noA,noN,call,typ,_,_⟩:=Y
 refine codeAny_of_tree ?_
 show wpAny _ _ (callAny (.ref C) _) _ _ _
 refine nd_load hC (show wpAny _ _ (callAny.viaDunder (.ref C) _) _ _ _ from ?_)
 unfold callAny.viaDunder
 refine wpAny_bind (call.at ?_)
 dsimp only
 rw [tc_bind]
 refine wpAny_bind (wpAny_pure (wpAny_bind (wpAny_pure (wpAny_pure (a:=Fin.again (.call (.builtin "type.__call__") ⟨.ref C :: rest,[]⟩)) (And.intro rfl ?_)))))
 refine codeAny_call_builtin_at (Code.quiet_builtin _ (by decide +kernel)) entry_typeCall (check_slot tc_kind tc_split typ (tc_args _ _ _) ?_)
 have hm:Looks (model prog w) h (mroOf (.ref C)) cd.mro:=((Looks.ld (part:=none) hC).andThen .now).andThen .now
 unfold Builtin.«type.__call__»
 repeat (first | simp only [e4,Bool.false_eq_true,if_false] | with_reducible refine wpAny_call ?_ | lk)
 refine d2v Y' hrest ?_
 have k:∀ b o,h.get? b=some o->((h.push (D9 rest)).push (B2 C h.objs.size)).get? b=some o:=λb o e=>Heap.get?_push_of_some _ (Heap.get?_push_of_some _ e)
 have hx:((h.push (D9 rest)).push (B2 C h.objs.size)).get? (h.objs.size+1)=some (B2 C h.objs.size):=by heap_get
 have t1:Looks (model prog w) ((h.push (D9 rest)).push (B2 C h.objs.size)) (typeOf (.ref (h.objs.size+1))) (.ref C):=(Looks.ld hx).andThen .now
 have s1:=self.keeps k
 have i1:=hi.keeps k
 have b1:=(hb (.ref (h.objs.size+1))).keeps k
 unfold isInstance callSpecial? specialOf
 repeat (first | with_reducible refine wpAny_call ?_ | lk)
 refine codeAny_mono hq λr s' z=>?_
 rcases r with e | (v | _ | _ | _) <;> first | exact z | exact z.elim | skip
 obtain ⟨rfl,z⟩:=z
 exact wpAny_pure (wpAny_pure z)
end
end L2
namespace L2
open PySem PySem.W PySem.Calls PyProof.Rows Builtin Builtin.ObjectAttr
theorem b6u:builtinKind "BaseException.__getattribute__" = some .slot:=by decide +kernel
theorem b1i:splitId "BaseException.__getattribute__" = some ("BaseException","__getattribute__"):=by decide +kernel
theorem b12:plainId "BaseException.__getattribute__" = true:=by decide +kernel
section
variable {prog:Program} {w:World} {A:Around} {R:Result->Shared->Prop} {s:Shared} {x:Addr} {name:Str} {t:Tok}
theorem b57 (hi:Looks (model prog w) s.heap (isInstance (.ref x) (.type "BaseException")) true)
  (h:wpAny (model prog w) A.in1 (Builtin.«object.__getattribute__» ⟨[.ref x,.str name t],[]⟩) (λfin s'=>match fin with | .done f=>R (.ok f) s' | .again c'=>c'.quiet=true/\codeAny (model prog w) A c' R s') (λe s'=>R (.error e) s') s) :
  codeAny (model prog w) A (.call (.builtin "BaseException.__getattribute__") ⟨[.ref x,.str name t],[]⟩) R s:=
 codeAny_call_builtin b12 PySem.F.entry_bexc_ga (@check_slot (model prog w) _ _ _ "BaseException.__getattribute__" "BaseException" "__getattribute__" (.ref x) [.str name t] [] _ b6u b1i hi (PySem.F.args_bexc_ga (.ref x) (.str name t)) h)
end
section
variable {prog:Program} {w:World} {A:Around} {E:Value->Shared->Prop} {s:Shared} {K:Frag} {x C:Addr} {ox:Obj} {od:Option Obj} {name:Str} {expr:Bool} {Q:Value->Shared->Prop}
structure XCls (K:Frag) (C:Addr):Prop where
 ga:findIn K (.ref C) "__getattribute__" = some (some (.builtin "BaseException.__getattribute__"))
 gg:findIn K (.ref C) "__getattr__" = some none
 be:mroIn K C (.type "BaseException")=some true
 ob:mroIn K C (.type "object")=some true
 hd:hasDictIn K C=true
 cl:findIn K (.ref C) "__class__" = some (some (.builtin "object.__class__"))
 cg:specialIn K (.builtin "object.__class__") "__get__" = some (some (.builtin "getset_descriptor.__get__"))
 ct:takesIn K (.builtin "object.__class__")=some true
theorem b4f {fill:Bool} {t:Tok} (X:K.In s.heap) (I:InstAt s.heap x ox C od) (hx:XCls K C)
  (h:wpAny (model prog w) A.in1 (Builtin.«object.__getattribute__» ⟨[.ref x,.str name t],[]⟩) (λfin s'=>match fin with | .done (.ret v)=>wpAny (model prog w) A (handedOut v) Q E s' | _=>False) (λ_ _=>False) s) :
  wpAny (model prog w) A (getAttrBy (.ref x) (.str name t) fill expr) Q E s:=by
 obtain ⟨hp,g,d,tk,os⟩:=s
 have L0:=I.type (M:=model prog w)
 have L1:=looks_findIn (M:=model prog w) X hx.ga
 have L2:=looks_findIn (M:=model prog w) X hx.gg
 have L4:Looks (model prog w) hp (isInstance (.ref x) (.type "BaseException")) true:=L0.andThen (looks_mroIn X hx.be)
 have f3:=(PySem.F.attrBase_ValueError).ga.bind (.ref x)
 have hx0:(expr&&onTheHeap (Value.builtin "BaseException.__getattribute__"))=false:=by cases expr <;> rfl
 have hx2:(Value.builtin "BaseException.__getattribute__" == Value.builtin "object.__getattribute__")=false:=by decide +kernel
 unfold getAttrBy
 refine wpAny_holding (wpAny_bind (L0.at (wpAny_bind (L1.at ?_))))
 repeat (first | simp only [hx2,Bool.and_false,Bool.false_eq_true,if_false] | lk)
 refine wpAny_attempt (wpAny_holding ?_)
 unfold callGetattribute
 rw [hx0]
 simp only [Bool.false_eq_true,if_false]
 unfold boundAndCalled
 refine wpAny_bind (wpAny_of_eq f3 ?_)
 refine wpAny_call (show codeAny _ _ (.call (.builtin "BaseException.__getattribute__") ⟨[.ref x,.str name t],[]⟩) _ _ from b57 L4 ?_)
 refine wpAny_mono h (λfin s' z=>?_) λ_ _ z=>z.elim
 rcases fin with (v | _ | _ | _) | _ <;> first | exact z | exact z.elim
theorem d3i {v:Value} (X:K.In s.heap) (I:InstAt s.heap x ox C od) (hx:XCls K C) (hf:findObj K C od name=some (.value v)) (hh:handedIn v=true) (h:Q v { s with toks:=s.toks+1 }):wpAny (model prog w) A (getAttr (.ref x) name expr) Q E s:=by
 obtain ⟨hp,g,d,t,os⟩:=s
 have L0:=I.type (M:=model prog w)
 have L3:=looks_find (M:=model prog w) X I hf
 unfold getAttr
 refine wpAny_bind (wpAny_mkText (b4f (s:=⟨hp,g,d,t+1,os⟩) X I hx ?_))
 refine wpAny_bind (wpAny_pure (wpAny_bind (wpAny_pure (wpAny_bind (L0.at (wpAny_bind (L3.at (wpAny_pure ?_))))))))
 show wpAny _ _ (handedOut v) _ _ _
 rw [handedOut_of hh]
 exact wpAny_pure h
theorem a6w {od:Option Obj} (hx:XCls K C):findObj K C od "__class__" = some (.bind (.builtin "getset_descriptor.__get__") (.builtin "object.__class__")):=by
 obtain ⟨cd,hc,_⟩:=any_some hx.hd
 unfold findObj
 rw [hc,Option.bind_some,hx.cl,Option.bind_some]
 dsimp only
 rw [hx.cg,Option.bind_some]
 dsimp only
 rw [hx.ct]
 rfl
theorem c5d {R:Option Value->Shared->Prop} (X:K.In s.heap) (I:InstAt s.heap x ox C od) (hx:XCls K C) (h:R (some (.ref C)) { s with toks:=s.toks+1 }):wpAny (model prog w) A (getAttr? (.ref x) "__class__") R E s:=by
 have hf:=a6w (od:=od) hx
 obtain ⟨hp,g,d,t,os⟩:=s
 have L0:=I.type (M:=model prog w)
 have L3:=looks_find (M:=model prog w) X I hf
 unfold getAttr? getAttrBy?
 refine wpAny_bind (wpAny_mkText (wpAny_bind (wpAny_attempt (b4f (s:=⟨hp,g,d,t+1,os⟩) X I hx ?_))))
 refine wpAny_bind (wpAny_pure (wpAny_bind (wpAny_pure (wpAny_bind (L0.at (wpAny_bind (L3.at ?_)))))))
 show wpAny _ _ (holding [.builtin "object.__class__"] (call (.builtin "getset_descriptor.__get__") [.builtin "object.__class__",.ref x,.ref C]) >>= ret) _ _ _
 refine wpAny_bind (wpAny_holding (wpAny_call (class_get (s:=⟨hp,g,d,t+1,os⟩) (ox:=ox) (od:=od) X I hx.ob ?_)))
 refine wpAny_pure ?_
 show wpAny _ _ (handedOut (.ref C)) _ _ _
 exact handed_on rfl (wpAny_pure h)
theorem c75 (hx:XCls K C):KitX K (.ref x) (.ref C) (λh=>∃ ox od,InstAt h x ox C od) where
 ty:=λ_ _ _ ⟨_,_,I⟩=>I.type
 it:=λ_ _ X _=>by
  obtain ⟨cd,hc,_⟩:=any_some hx.hd
  unfold clsIn at hc
  split at hc
  ·rename_i oc odd cd' sl ho
   exact λA' Q' E' s' k q=>by
    unfold isType loadHead
    exact wpAny_bind (wpAny_loadPart (k _ _ (X _ _ ho)) (wpAny_pure q))
  ·cases hc
 ne:=λh tp dd its n sl X htp=>by
  obtain ⟨cd,hc,_⟩:=any_some hx.hd
  refine Bool.eq_false_iff.mpr λq=>?_
  obtain rfl:C=tp:=Value.ref.inj (beq_iff_eq.mp q)
  unfold clsIn at hc
  split at hc
  ·rename_i oc odd cd' sl ho
   have z:=(X _ _ ho).symm.trans htp
   cases z
  ·cases hc
 ca:=λX ⟨_,_,I⟩ k=>c5d X I hx k
end
noncomputable def B3:List Value->Bool
 | .ref _ :: r=>B3 r
 | l=>l==[.type "ValueError",.type "Exception",.type "BaseException",.type "object"]
theorem J9 (self:Value):∀ {l:List Value},B3 l=true->refuseLoop self "__setattr__" l=pure ()
 | .ref c :: r,e=>by rw [refuseLoop_ref];exact J9 self e
 | [],e=>by cases e
 | .none :: r,e=>by cases e
 | .type n :: r,e=>by rw [show (Value.type n :: r)=_ from beq_iff_eq.mp e];exact PySem.F.store_ValueError.passes self
 | .bool _ :: _,e=>by cases e
 | .int _ _ :: _,e=>by cases e
 | .str _ _ :: _,e=>by cases e
 | .bytes _ _ :: _,e=>by cases e
 | .float _ _ :: _,e=>by cases e
 | .builtin _ :: _,e=>by cases e
 | .ellipsis :: _,e=>by cases e
 | .notImplemented :: _,e=>by cases e
section
variable {prog:Program} {w:World} {A:Around} {E:Value->Shared->Prop} {s:Shared} {K:Frag} {x C:Addr} {ox:Obj} {od:Option Obj} {name:Str} {R:Result->Shared->Prop} {v:Value}
theorem c7y {tk:Tok} (X:K.In s.heap) (I:InstAt s.heap x ox C od) (hx:XCls K C) (hv:(clsIn K C).any (λcd=>B3 cd.mro)=true) (hn:findIn K (.ref C) name=some none)
  (h:∀ b,wpAny (model prog w) A.in1 (storeInOwnDict (.ref x) (.ref C) (.str name tk) name v b) (λfin s'=>match fin with | .done f=>R (.ok f) s' | .again c'=>c'.quiet=true/\codeAny (model prog w) A c' R s') (λe s'=>R (.error e) s') s) :
  codeAny (model prog w) A (.call (.builtin "object.__setattr__") ⟨[.ref x,.str name tk,v],[]⟩) R s:=by
 have SF:=PySem.F.store_object
 obtain ⟨cd,hc,ho⟩:=any_some hv
 have sub:Looks (model prog w) s.heap (isInstance (.ref x) (.type "object")) true:=I.type.andThen (looks_mroIn X hx.ob)
 have hm:Looks (model prog w) s.heap (mroOf (.ref C)) cd.mro:=(looks_clsIn X hc).andThen .now
 refine codeAny_call_builtin SF.slot.plain SF.entry (@check_slot (model prog w) _ _ s "object.__setattr__" "object" "__setattr__" (.ref x) [.str name tk,v] [] _ SF.kind SF.split sub (SF.args (.ref x) (.str name tk) v) ?_)
 rw [osa_eq,refuse_eq]
 refine wpAny_bind (wpAny_bind (I.type.here (wpAny_bind (hm.here ?_))))
 rw [J9 _ ho]
 exact wpAny_pure (wpAny_bind (I.type.here (wpAny_bind ((looks_findIn X hn).here (wpAny_bind (wpAny_pure (h _)))))))
noncomputable def tbV:Option Addr->Value
 | none=>.none
 | some T=>.ref T
def IsX (fr:Option Addr) (h:Heap) (x C:Addr) (d:Option Addr):Prop:=∃ vs,h.get? x=some { cls:=.ref C,dict:=d,data:=.fields vs }/\vs.size=6/\vs[1]?=some (tbV fr)
theorem IsX.inst0 {fr:Option Addr} {h:Heap} (i:IsX fr h x C none):∃ ox,InstAt h x ox C none:=by
 obtain ⟨vs,e,_⟩:=i
 exact ⟨_,e,rfl,rfl,True.intro⟩
theorem IsX.inst1 {fr:Option Addr} {h:Heap} {d:Addr} (i:IsX fr h x C (some d)) {o:Obj} (hd:h.get? d=some o):∃ ox,InstAt h x ox C (some o):=by
 obtain ⟨vs,e,_⟩:=i
 exact ⟨_,e,rfl,rfl,hd⟩
theorem c63 {fr:Option Addr} {Q:Unit->Shared->Prop} (X:K.In s.heap) (i:IsX fr s.heap x C none) (hx:XCls K C) (hv:(clsIn K C).any (λcd=>B3 cd.mro)=true) (hs:findIn K (.ref C) "__setattr__" = some (some (.builtin "object.__setattr__"))) (hn:findIn K (.ref C) name=some none)
  (h:∀ h' t',IsX fr h' x C (some s.heap.objs.size)->h'.Ns1 s.heap.objs.size (λy=>if y=name then some v else none)->(∀ b o,b≠x->s.heap.get? b=some o->h'.get? b=some o)->Q () { s with heap:=h',toks:=t' }):wpAny (model prog w) A (setAttr (.ref x) name v) Q E s:=by
 obtain ⟨ox,I⟩:=i.inst0
 obtain ⟨vs,hxo,hsz⟩:=i
 obtain ⟨cd,hc,hd⟩:=any_some hx.hd
 refine set_plain X I hs (c7y (s:={ s with toks:=s.toks+1 }) X I hx hv hn λb=>?_)
 refine wpAny_bind (wpAny_pure (wpAny_bind (wpAny_bind (wpAny_loadPart hxo (wpAny_bind (Looks.here (s:={ s with toks:=s.toks+1 }) (looks_clsIn X hc) ?_))))))
 rw [hd]
 have hxs:x≠s.heap.objs.size:=Nat.ne_of_lt (Heap.lt_size hxo)
 have hx1:(s.heap.push { cls:=.type "dict",data:=.dict #[] }).get? x=some { cls:=.ref C,data:=.fields vs }:=Heap.get?_push_of_some _ hxo
 refine wpAny_bind (wpAny_alloc (wpAny_bind (wpAny_update hx1 (wpAny_pure (a:=some s.heap.objs.size) ?_))))
 have e0:((s.heap.push { cls:=.type "dict",data:=.dict #[] }).update x λo=>{ cls:=o.cls,dict:=some s.heap.objs.size,data:=o.data,slots:=o.slots }).get? s.heap.objs.size=some { cls:=.type "dict",data:=.dict #[] }:=
  (Heap.get?_update_ne _ _ _ _ hxs.symm).trans (Heap.get?_push_at rfl rfl)
 have e1:((s.heap.push { cls:=.type "dict",data:=.dict #[] }).update x λo=>{ cls:=o.cls,dict:=some s.heap.objs.size,data:=o.data,slots:=o.slots }).get? x=some { cls:=.ref C,dict:=some s.heap.objs.size,data:=.fields vs }:=
  Heap.get?_update_self _ hx1 rfl
 have e2:∀ b o,b≠x->s.heap.get? b=some o->((s.heap.push { cls:=.type "dict",data:=.dict #[] }).update x λo=>{ cls:=o.cls,dict:=some s.heap.objs.size,data:=o.data,slots:=o.slots }).get? b=some o:=
  λb o hb e=>(Heap.get?_update_ne _ _ _ _ hb).trans (Heap.get?_push_of_some _ e)
 have n0:((s.heap.push { cls:=.type "dict",data:=.dict #[] }).update x λo=>{ cls:=o.cls,dict:=some s.heap.objs.size,data:=o.data,slots:=o.slots }).Ns s.heap.objs.size (λ_=>none):=
  ⟨_,#[],_,e0,rfl,λe he=>absurd he (by simp),λ_=>rfl⟩
 generalize ((s.heap.push { cls:=.type "dict",data:=.dict #[] }).update x λo=>{ cls:=o.cls,dict:=some s.heap.objs.size,data:=o.data,slots:=o.slots })=h1 at e0 e1 e2 n0 ⊢
 show wpAny _ _ (storeInDict s.heap.objs.size (.str name s.toks) name v) _ _ _
 unfold storeInDict newKeyGuard
 refine wpAny_bind (wpAny_pure (wpAny_bind (wpAny_nsSet1 (Heap.Ns1.of_empty n0) λh' hn' hs'=>?_)))
 obtain ⟨oD,esD,epD,hoD,hdD,hcD⟩:=hn'.count (Within.cons name v Within.nil)
 refine wpAny_bind (wpAny_lookBehind hoD (by rw [hdD];exact pastItsLine_dict (Nat.le_trans hcD (by rw [List.length_cons,List.length_nil,sizeLine_eq];omega))) (wpAny_pure ?_))
 exact h h' _ ⟨vs,(hs'.2 x hxs).trans e1,hsz⟩ hn' λb o hb e=>(hs'.2 b (Nat.ne_of_lt (Heap.lt_size e))).trans (e2 b o hb e)
theorem c6y {fr:Option Addr} {Q:Unit->Shared->Prop} {d:Addr} {mA:Str->Option Value} {ns:List Str} (X:K.In s.heap) (i:IsX fr s.heap x C (some d)) (hd:s.heap.Ns1 d mA) (hdx:d≠x) (hx:XCls K C) (hv:(clsIn K C).any (λcd=>B3 cd.mro)=true) (hs:findIn K (.ref C) "__setattr__" = some (some (.builtin "object.__setattr__"))) (hn:findIn K (.ref C) name=some none)
  (hw:Within mA ns) (hz:ns.length<=1000)
  (h:∀ h' t',h'.Ns1 d (λy=>if y=name then some v else mA y)->Heap.SameBut d s.heap h'->Q () { s with heap:=h',toks:=t' }):wpAny (model prog w) A (setAttr (.ref x) name v) Q E s:=by
 obtain ⟨od,hod,hl⟩:=N3 hd
 obtain ⟨ox,I⟩:=i.inst1 hod
 obtain ⟨vs,hxo,hsz⟩:=i
 obtain ⟨cd,hc,hd'⟩:=any_some hx.hd
 refine set_plain X I hs (c7y (s:={ s with toks:=s.toks+1 }) X I hx hv hn λb=>?_)
 refine wpAny_bind (wpAny_pure (wpAny_bind (wpAny_bind (wpAny_loadPart hxo (wpAny_bind (Looks.here (s:={ s with toks:=s.toks+1 }) (looks_clsIn X hc) ?_))))))
 rw [hd']
 refine wpAny_pure (a:=some d) ?_
 show wpAny _ _ (storeInDict d (.str name s.toks) name v) _ _ _
 unfold storeInDict newKeyGuard
 refine wpAny_bind (wpAny_pure (wpAny_bind (wpAny_nsSet1 (s:={ s with toks:=s.toks+1 }) hd λh' hn' hs'=>?_)))
 obtain ⟨oD,esD,epD,hoD,hdD,hcD⟩:=hn'.count (Within.cons name v hw)
 refine wpAny_bind (wpAny_lookBehind hoD (by rw [hdD];exact pastItsLine_dict (Nat.le_trans hcD (by rw [List.length_cons,sizeLine_eq];omega))) (wpAny_pure ?_))
 exact h h' _ hn' hs'
end
section
variable {prog:Program} {w:World} {A:Around} {E:Value->Shared->Prop} {s:Shared} {K:Frag} {x C:Addr} {d:Option Addr} {R:Result->Shared->Prop} {y:Value}
theorem c7v {fr:Option Addr} (X:K.In s.heap) (i:IsX fr s.heap x C d) (ex:Z3 K C=true)
  (h:∀ h',(∀ b o,b≠x->s.heap.get? b=some o->h'.get? b=some o)->IsX fr h' x C d->R (.ok (.ret .none)) { s with heap:=h' }) :
  codeAny (model prog w) A (.call (.builtin "ValueError.__init__") ⟨[.ref x,y],[]⟩) R s:=by
 have F:=PySem.F.excBase_ValueError
 obtain ⟨vs,hxo,hsz,hfr⟩:=i
 have L0:Looks (model prog w) s.heap (typeOf (.ref x)) (.ref C):=(Looks.ld hxo).andThen .now
 have Y:=G1 (M:=model prog w) X ex
 have sub:Looks (model prog w) s.heap (isInstance (.ref x) (.type "ValueError")) true:=L0.andThen Y.isV
 obtain ⟨oc,odc,cd,sl,hC,_,_⟩:=Y.obj
 have star:=F.noStar
 refine codeAny_call_builtin F.init.plain F.initEntry ?_
 simp only [checkBuiltinCall,F.initKind,F.initSplit,F.initRow]
 refine wpAny_bind (sub.here ?_)
 simp only [Bool.not_true,Bool.false_eq_true,if_false]
 have e1:(s.heap.push { cls:=.type "tuple",data:=.seq #[y] }).get? x=some { cls:=.ref C,dict:=d,data:=.fields vs }:=Heap.get?_push_of_some _ hxo
 obtain ⟨v0,h0⟩:∃ v0,vs[0]?=some v0:=⟨vs[0]'(by omega),Array.getElem?_eq_getElem _⟩
 have fin:R (.ok (.ret .none)) { s with heap:=(s.heap.push { cls:=.type "tuple",data:=.seq #[y] }).update x (Obj.mapFields (·.setIfInBounds 0 (.ref s.heap.objs.size))) }:=by
  refine h _ (λb o hb e=>(Heap.get?_update_ne _ _ _ _ hb).trans (Heap.get?_push_of_some _ e)) ⟨vs.setIfInBounds 0 (.ref s.heap.objs.size),Heap.get?_update_self _ e1 rfl,?_⟩
  rw [Array.size_setIfInBounds]
  exact ⟨hsz,by rw [Array.getElem?_setIfInBounds_ne (by decide)];exact hfr⟩
 unfold Bind.checkArgs
 repeat lk
 rw [h0]
 refine wpAny_pure (wpAny_bind (wpAny_setField e1 rfl (by omega) ?_))
 cases v0 <;> first | exact wpAny_pure (wpAny_pure fin) | exact wpAny_letGo (wpAny_pure fin)
end
end L2
namespace L2
open PySem PySem.Spec PyProof.Rows
noncomputable def P5 (fr:Option Addr) (x C:Addr) (d:Option Addr):HO:=.ext λh=>IsX fr h x C d
noncomputable abbrev P1 (x C:Addr) (d:Option Addr):HO:=P5 none x C d
noncomputable def G0 (d:Addr) (fs:List (Str×V)):HO:=.ext λh=>∃ mA,h.Ns1 d mA/\(∀ f,RelO (fs.lookup f) (mA f))/\PySem.Within mA (fs.map (·.1))/\fs.length<=900
theorem okX {fr:Option Addr} {P:Program} {w:World} {H:Hp} {h:Heap} {x C:Addr} {d:Option Addr} (i:IsX fr h x C d):ObjOk P w H h x (P5 fr x C d):=by
 obtain ⟨vs,e,z⟩:=id i
 refine ⟨i,⟨_,e⟩,λh1 h2 ⟨vs1,e1,z1⟩ k=>⟨vs1,k _ e1,z1⟩⟩
theorem okD {P:Program} {w:World} {H:Hp} {h:Heap} {d:Addr} {fs:List (Str×V)} {mA:Str->Option Value} (n:h.Ns1 d mA) (r:∀ f,RelO (fs.lookup f) (mA f)) (wi:PySem.Within mA (fs.map (·.1))) (l:fs.length<=900):ObjOk P w H h d (G0 d fs):=by
 obtain ⟨o,es,ep,e,q⟩:=id n
 exact ⟨⟨mA,n,r,wi,l⟩,⟨o,e⟩,λh1 h2 ⟨m1,n1,r1,w1,l1⟩ k=>⟨m1,n1.at k,r1,w1,l1⟩⟩
structure XC (K:PySem.W.Frag) (C:Addr):Prop where
 xc:XCls K C
 ex:Z3 K C=true
 vm:(PySem.W.clsIn K C).any (λcd=>B3 cd.mro)=true
 sa:PySem.W.findIn K (.ref C) "__setattr__" = some (some (.builtin "object.__setattr__"))
 kp:PySem.W.keepIn K (.ref C)=true
section
variable {X:Cx} {pins:List (Addr×Obj)} {σ:St} {H:Hp} {s:Shared} {x C:Addr}
theorem Inv.isX {fr:Option Addr} {d:Option Addr} (I:Inv X pins σ H s) (e:H x=some (P5 fr x C d)):IsX fr s.heap x C d:=(I.hok x _ e).1
theorem Inv.isD {d:Addr} {fs:List (Str×V)} (I:Inv X pins σ H s) (e:H d=some (G0 d fs)):∃ mA,s.heap.Ns1 d mA/\(∀ f,RelO (fs.lookup f) (mA f))/\PySem.Within mA (fs.map (·.1))/\fs.length<=900:=(I.hok d _ e).1
theorem Inv.madeX {us:List Value} (I:Inv X pins σ H s):Inv X pins σ (upd H (s.heap.objs.size+1) (P1 (s.heap.objs.size+1) C none)) { s with heap:=(s.heap.push (D9 us)).push (B2 C s.heap.objs.size) }:=by
 have e2:((s.heap.push (D9 us)).push (B2 C s.heap.objs.size)).get? (s.heap.objs.size+1)=some (B2 C s.heap.objs.size):=by
  have:=Heap.get?_push_size (s.heap.push (D9 us)) (o:=B2 C s.heap.objs.size) rfl
  rwa [Heap.size_push] at this
 exact I.laid (a:=s.heap.objs.size+1) (t':=s.toks) (λb u q=>Heap.get?_push_of_some _ (Heap.get?_push_of_some _ q)) (Nat.le_succ _) (okX ⟨_,e2,rfl,rfl⟩)
end
def c3e (C:Addr) (sp:Sp) (E:XK) (t:TA):TE:=λσ H Q=>t σ H λvs H1=>vs.length<=1000/\∀ x,H1 x=none->sp (.ref x :: vs) (upd H1 x (P1 x C none)) (λv H2=>v=.non/\Q (.ref x) H2) E
section
variable {X:Cx} {CX:CXT} {k:Nat} {f C:Addr} {fd:FuncData} {ps:List Str} {sp:Sp} {E:XK} {nm:Str} {p pos:Pos} {e:Expr} {es:List Expr} {t:TA}
theorem a1z (M:XC X.K C) (hi:PySem.W.findIn X.K (.ref C) "__init__" = some (some (.ref f))) (hf:PySem.W.isFn X.K (.ref f)=true) (F:FnOk X.prog X.w X.K X.mg X.base CX k f fd ps sp) (hr:Room CX.q (k+1) X.A) (hg:Gl X nm) (hm:X.mg nm=some (.ref C)) (hb:Binds X.K fd ps []) (hx:E4 CX X E)
  (ha:PA X (e :: es) t) (hdb:(nm==("__debug__" : Str))=false:=by decide) (he:starEach (e :: es) X.env=(false,eval e X.env) :: starEach es X.env:=by rfl) (hpl:(backTo pos (starEach es X.env)).any (·.1)=false:=by rfl) :
  PE X (.Call (.Name nm p) (e :: es) [] pos) (c3e C sp E t):=by
 intro pins s σ H Q I h
 refine wpAny_Call_Name_kw (G5 I hg hm ?_ hdb)
 refine PySem.W.callWith_K (h₀:=X.base) I.ok.mod.kin M.kp (thn (ha pos pins s σ H _ I h) λus s1 ⟨vs,H1,I1,r,hl,q⟩=>⟨I1.kIn,?_⟩) he hpl
 have hq:=q (s1.heap.objs.size+1) (I1.hok.fresh (Nat.le_succ _))
 have I2:=Inv.madeX (C:=C) (us:=us) I1
 have r2:Vals (V.ref (s1.heap.objs.size+1) :: vs) (Value.ref (s1.heap.objs.size+1) :: us):=.cons rfl r
 have hlen:(Value.ref (s1.heap.objs.size+1) :: us++[]).length=ps.length:=by
  have e:=r2.length
  rw [F.len _ _ _ _ hq] at e
  simpa using e.symm
 have hus:us.length<=sizeLine:=by
  have:=r.length
  have z:(1000:Nat)<=sizeLine:=by decide
  omega
 have hb2:=hb _ (Value.ref (s1.heap.objs.size+1) :: us) I2.kIn hlen
 rw [List.append_nil] at hb2
 refine wpAny_call (c9r (f:=f) (G1 I1.kIn M.ex) (PySem.W.looks_findIn I1.kIn hi) (λself=>PySem.W.bind_fn I1.kIn self (beq_iff_eq.mp hf)) hus
  (codeAny_mono (F.run _ X.stack _ _ ⟨Value.ref (s1.heap.objs.size+1) :: us,[]⟩ _ _ _ E (hr.make C us []) (I2.env0.make C us []) hb2 r2 hq) λr s' hq'=>?_))
 cases r with
 | error e=>exact hx pins σ _ _ e s' I2 hq'
 | ok fl=>
  cases fl with
  | ret u=>
   obtain ⟨v,H',I3,rv,ev,q3⟩:=I2.after hq'
   subst ev
   exact ⟨rv,⟨V.ref (s1.heap.objs.size+1),H',I3,rfl,q3⟩⟩
  | next=>exact False.elim hq'
  | brk=>exact False.elim hq'
  | cont=>exact False.elim hq'
end
theorem b32 {H:Hp} {x:Addr} {o:HO} (h:H x=some o):upd H x o=H:=funext λb=>by
 by_cases e:b=x
 ·subst e;rw [c8,h]
 ·rw [a9 e]
def c8x (K:PySem.W.Frag) (ta tv:TE) (f:Str):TS:=λD σ H=>tv σ H λy H1=>ta σ H1 λxv H2=>∃ x C,xv=.ref x/\XC K C/\v7 K C f /\
 ((H2 x=some (P1 x C none)/\∀ d,H2 d=none->D.nx σ (upd (upd H2 d (G0 d [(f,y)])) x (P1 x C (some d)))) \/
 ∃ d fs,d≠x/\H2 x=some (P1 x C (some d))/\H2 d=some (G0 d fs)/\fs.length<900/\D.nx σ (upd H2 d (G0 d (K8 f y fs))))
def c6p (K:PySem.W.Frag) (ta:TE) (f:Str):TE:=λσ H Q=>ta σ H λxv H1=>∃ fr x C d fs v,xv=.ref x/\XC K C/\v7 K C f/\H1 x=some (P5 fr x C (some d))/\H1 d=some (G0 d fs)/\fs.lookup f=some v/\Q v H1
section
variable {X:Cx} {o e value:Expr} {f:Str} {pos pos':Pos} {ta tv:TE}
theorem J8 (ha:PE X o ta) (hv:PE X value tv) (hs:swapsWith value (some (.Attribute o f pos')) pos.line X.env=pure false):PS X (.Assign [.Attribute o f pos'] value pos) (c8x X.K ta tv f):=by
 intro pins s σ H D I h
 refine plainObj_wpAny_Assign_Attribute (thn (hv pins s σ H _ I h) λu s1 ⟨y,H1,I1,ry,q⟩=>thn (ha pins s1 σ H1 _ I1 q) λov s2 ⟨xv,H2,I2,rx,x,C,ex,M,n,q2⟩=>?_) hs
 subst ex
 obtain rfl:ov=Value.ref x:=rx
 rcases q2 with ⟨e0,q2⟩ | ⟨d,fs,hdx,e0,e1,hl,q2⟩
 ·have i0:=I2.isX e0
  obtain ⟨vs0,hx0,_⟩:=id i0
  have nd:H2 s2.heap.objs.size=none:=I2.hok.fresh (Nat.le_refl _)
  have hne:s2.heap.objs.size≠x:=Nat.ne_of_gt (Heap.lt_size hx0)
  refine c63 I2.kIn i0 M.xc M.vm M.sa n λh' t' i1 n1 k1=>?_
  obtain ⟨vs1,hx1,_⟩:=id i1
  obtain ⟨oD,esD,epD,hoD,rD⟩:=id n1
  have m1:(h'.update x λ_=>{ cls:=.ref C,data:=.fields vs0 }).get? x=some { cls:=.ref C,data:=.fields vs0 }:=Heap.get?_update_self _ hx1 rfl
  have m2:∀ b,b≠x->(h'.update x λ_=>{ cls:=.ref C,data:=.fields vs0 }).get? b=h'.get? b:=λb hb=>Heap.get?_update_ne _ _ _ _ hb
  have I3:Inv X pins σ (upd H2 s2.heap.objs.size (G0 s2.heap.objs.size [(f,y)])) { s2 with heap:=h'.update x λ_=>{ cls:=.ref C,data:=.fields vs0 },toks:=t' }:=by
   refine I2.laid (λb ob e=>?_) (Nat.le_refl _) (okD (mA:=λz=>if z=f then some u else none) (n1.at λob e=>(m2 _ hne).trans e) (λg=>?_) (λg hg=>?_) (by show 1<=900;decide))
   ·by_cases hb:b=x
    ·subst hb;rw [hx0] at e;cases e;exact m1
    ·exact (m2 b hb).trans (k1 b ob hb e)
   ·show RelO (List.lookup g [(f,y)]) (if g=f then some u else none)
    rw [List.lookup_cons,List.lookup_nil]
    by_cases q:g=f
    ·subst q;rw [if_pos rfl,show (g==g)=true from by simp];exact ry
    ·have:(g==f)=false:=by simpa using q
     rw [this,if_neg q];exact True.intro
   ·by_cases q:g=f
    ·subst q;exact List.mem_cons_self
    ·exact absurd (if_neg q) hg
  have I4:=I3.write (h':=h') (t':=t') (x:=x) (e:=x) (o:=P1 x C (some s2.heap.objs.size)) (by rw [a9 hne.symm,e0];exact True.intro) (.inl rfl) (λb ob hb e=>((m2 b hb).symm.trans e)) ⟨_,hx1⟩ (okX i1)
  exact ⟨σ,_,I4,q2 _ nd⟩
 ·obtain ⟨mA,n0,r0,w0,l0⟩:=I2.isD e1
  refine c6y I2.kIn (I2.isX e0) n0 hdx M.xc M.vm M.sa n w0 (by rw [List.length_map];omega) λh' t' n1 sb=>?_
  obtain ⟨oD,esD,epD,hoD,rD⟩:=id n1
  refine ⟨σ,_,I2.write (t':=t') (x:=d) (e:=d) (o:=G0 d (K8 f y fs)) (by rw [e1];exact True.intro) (.inl rfl) (λb ob hb e=>(sb.2 b hb).trans e) ⟨_,hoD⟩ (okD n1 (λg=>?_) (λg hg=>?_) ?_),q2⟩
  ·show RelO ((K8 f y fs).lookup g) (if g=f then some u else mA g)
   rw [Y6]
   by_cases q:g=f
   ·rw [if_pos q,if_pos q];exact ry
   ·rw [if_neg q,if_neg q];exact r0 g
  ·by_cases q:g=f
   ·rw [q];exact (X0 f y fs).1
   ·exact (X0 f y fs).2 g (w0 g λz=>hg (by show (if g=f then some u else mA g)=none;rw [if_neg q];exact z))
  ·have:=Z4 f y fs;omega
theorem b9m (he:PE X e ta) (hb:attributeBase e f X.env (eval e X.env)=eval e X.env):PE X (.Attribute e f pos) (c6p X.K ta f):=by
 intro pins s σ H Q I h
 refine b66 hb (thn (he pins s σ H _ I h) λu s1 ⟨xv,H1,I1,rx,fr,x,C,d,fs,v,ex,M,n,e0,e1,l,q⟩=>?_)
 subst ex
 obtain rfl:u=Value.ref x:=rx
 obtain ⟨mA,n0,r0,w0,l0⟩:=I1.isD e1
 obtain ⟨od,hod,hl⟩:=N3 n0
 obtain ⟨ox,J⟩:=(I1.isX e0).inst1 hod
 have rf:=r0 f
 rw [l] at rf
 obtain ⟨uv,hm,rv⟩:=RelO.some_of rf
 exact d3i I1.kIn J M.xc (PySem.W.findObj_own M.xc.hd n rfl (by rw [hl,hm])) (b1c rv) ⟨v,H1,I1.tok _,rv,q⟩
noncomputable def c7h:V->Option Value
 | .ref a=>some (.ref a)
 | .ty n=>some (.type n)
 | _=>none
theorem a3d:j3 X (.builtin "isinstance") (λxs H Q=>∃ fr x C d y c b,xs=[.ref x,y]/\XC X.K C/\H x=some (P5 fr x C d)/\(∀ d',d=some d'->∃ fs,H d'=some (G0 d' fs))/\c7h y=some c/\PySem.W.kitOne X.K (.ref C) c=some b/\Q (.bl b) H):=by
 intro pins s σ H xs us Q I r h
 obtain ⟨fr,x,C,d,y,c,b,rfl,M,e0,hd,hc,hk,q⟩:=h
 obtain ⟨u,u2,rfl,ru,ru2⟩:=a56 r
 cases (show u=Value.ref x from ru)
 have e2:u2=c:=by
  cases y <;> first | (cases hc;exact ru2) | cases hc
 subst e2
 have J:∃ ox od,PySem.W.InstAt s.heap x ox C od:=by
  cases d with
  | none=>obtain ⟨ox,J⟩:=(I.isX e0).inst0;exact ⟨ox,_,J⟩
  | some d'=>
   obtain ⟨fs,e1⟩:=hd d' rfl
   obtain ⟨mA,n0,_⟩:=I.isD e1
   obtain ⟨od,hod,_⟩:=N3 n0
   obtain ⟨ox,J⟩:=(I.isX e0).inst1 hod
   exact ⟨ox,_,J⟩
 exact PySem.W.kia_one (c75 M.xc) I.kIn J hk (λz=>nomatch z) λtk=>⟨.bl b,H,I.tok _,rfl,q⟩
end
noncomputable def TbO (T:Addr):HO:=.ext λh=>∃ o ts,h.get? T=some o/\o.data=.fields ts/\3<ts.size
theorem okT {P:Program} {w:World} {H:Hp} {h:Heap} {T:Addr} {o:Obj} {ts:Array Value} (e:h.get? T=some o) (d:o.data=.fields ts) (z:3<ts.size):ObjOk P w H h T (TbO T):=
 ⟨⟨o,ts,e,d,z⟩,⟨o,e⟩,λh1 h2 ⟨o,ts,e,d,z⟩ k=>⟨o,ts,k _ e,d,z⟩⟩
structure Fx (K:PySem.W.Frag) (H:Hp) (a C:Addr) (d tb:Option Addr):Prop where
 xc:XC K C
 at_:H a=some (P5 tb a C d)
 dc:∀ d',d=some d'->d'≠a/\∃ fs,H d'=some (G0 d' fs)
 tb_:∀ T,tb=some T->T≠a/\H T=some (TbO T)
def Mv (H:Hp) (a C:Addr) (d:Option Addr) (H':Hp):Prop:=(∀ b o,b≠a->H b=some o->H' b=some o)/\∃ tb,H' a=some (P5 tb a C d)
section
variable {X:Cx} {pins:List (Addr×Obj)} {σ:St} {H:Hp} {s:Shared} {a C T:Addr} {d tb:Option Addr} {A:Around} {E:Value->Shared->Prop} {Q:Unit->Shared->Prop}
theorem Inv.slots {h':Heap} (I:Inv X pins σ H s) (hs:Heap.SlotsOnly (frs X.stack) s.heap h'):Inv X pins σ H { s with heap:=h' }:=by
 have k:∀ b u,H b≠none->s.heap.get? b=some u->h'.get? b=some u:=λb u n e=>(hs.2.1 b λz=>n (I.stkFree b z)).trans e
 have un:Un (frs X.stack) [] H H s.heap h':=⟨λb o e _ nf _=>(hs.2.1 b nf).trans e,λb o e _ _ _=>hs.2.2 b o e,λ_ _ _ n _=>n,λb o e _=>let ⟨sl,q⟩:=hs.2.2 b o e;⟨_,q⟩,λ_ _ e=>e,λ_ _ _ e=>e,λb ps e=>⟨#[],by rw [e];simp⟩⟩
 have hk:HOk X.prog X.w H h':=λb u e=>(I.hok b u e).stay (λc v hc q=>k c v (by
  rcases hc with hc | hc
  ·rw [hc,e];simp
  ·rw [hc];simp) q) (λ_ q=>q) λ_ _ q=>q
 exact I.call (g':=s.gens) (d':=s.drawn) (t':=s.toks) (ch:=[]) un hk I.bare λb z=>absurd z (by simp)
theorem Fx.isX (fx:Fx X.K H a C d tb) (I:Inv X pins σ H s):IsX tb s.heap a C d:=I.isX fx.at_
theorem Inv.setTb {v:Value} (I:Inv X pins σ H s) (e:H T=some (TbO T)) (k:Inv X pins σ H { s with heap:=s.heap.update T (Obj.mapFields (·.setIfInBounds 3 v)) }->Q () { s with heap:=s.heap.update T (Obj.mapFields (·.setIfInBounds 3 v)) }) :
  wpAny (model X.prog X.w) A (setField (.ref T) 3 v) Q E s:=by
 obtain ⟨o,ts,e1,e2,z⟩:=(I.hok T _ e).1
 refine wpAny_setField e1 e2 z (k ?_)
 have hd:=Obj.data_mapFields e2 (·.setIfInBounds 3 v)
 have hu:=Heap.get?_update_self (Obj.mapFields (·.setIfInBounds 3 v)) e1 (Obj.isFreed_of_fields hd)
 have I2:=I.write (h':=s.heap.update T (Obj.mapFields (·.setIfInBounds 3 v))) (t':=s.toks) (x:=T) (e:=T) (o:=TbO T) (by rw [e];exact True.intro) (.inl rfl) (λb u n q=>(Heap.get?_update_other _ _ (Ne.symm n)).trans q) ⟨_,hu⟩ (okT hu hd (by simpa using z))
 rw [b32 e] at I2
 exact I2
theorem a54 {hadNext:Bool} {head:Value} (I:Inv X pins σ H s) (hA:A.frames=some X.stack) (hst:X.stack=X.env :: X.outer) (hf:X.env.frame=some X.env.locals) (fx:Fx X.K H a C d tb)
  (h:∀ H' s' T,Inv X pins σ H' s'->Fx X.K H' a C d (some T)->Mv H a C d H'->Q () s') :
  wpAny (model X.prog X.w) A (do let fr <- frameOf X.env;let pl <- entryPlaceOf X.env.locals hadNext;let b <- EntryCells.newEntry head fr .none (rawInt X.env.locals) .none pl;setField (.ref a) 1 b) Q E s:=by
 have hl:=I.stack
 rw [hst] at hl hA
 refine wpAny_bind (wpAny_frameOf_fun hA hl hf λh₁ hs₁=>?_)
 have I1:Inv X pins σ H { s with heap:=h₁ }:=I.slots (by rw [hst];exact hs₁)
 refine wpAny_bind (wpAny_entryPlaceOf λpl hpl=>?_)
 unfold EntryCells.newEntry newFields
 refine wpAny_bind (wpAny_newObj_type ?_ (hpl.sizeOk5 _ _ _ _ _))
 have e0:=Heap.get?_push_size h₁ (o:={ cls:=.type "traceback",dict:=none,data:=.fields ([head,.ref X.env.locals,.none,rawInt X.env.locals,.none]++(if pl.isEmpty then List.replicate 6 Value.none else pl)).toArray }) rfl
 have I2:=I1.laid (h':=h₁.push { cls:=.type "traceback",dict:=none,data:=.fields ([head,.ref X.env.locals,.none,rawInt X.env.locals,.none]++(if pl.isEmpty then List.replicate 6 Value.none else pl)).toArray }) (a:=h₁.objs.size) (t':=s.toks) (o:=TbO h₁.objs.size) (λb u q=>Heap.get?_push_of_some _ q) (Nat.le_refl _)
  (okT e0 rfl (by simp only [List.size_toArray,List.length_append,List.length_cons,List.length_nil] <;> omega))
 have nT:H h₁.objs.size=none:=I1.hok.fresh (Nat.le_refl _)
 have hTa:h₁.objs.size≠a:=λz=>by rw [z,fx.at_] at nT;cases nT
 have e2:upd H h₁.objs.size (TbO h₁.objs.size) a=some (P5 tb a C d):=by rw [a9 hTa.symm];exact fx.at_
 generalize (h₁.push { cls:=.type "traceback",dict:=none,data:=.fields ([head,.ref X.env.locals,.none,rawInt X.env.locals,.none]++(if pl.isEmpty then List.replicate 6 Value.none else pl)).toArray })=h₂ at I2 ⊢
 obtain ⟨vs,hxo,hsz,hv⟩:=I2.isX e2
 refine wpAny_setField hxo rfl (by omega) ?_
 have hu:=Heap.get?_update_self (Obj.mapFields (·.setIfInBounds 1 (Value.ref h₁.objs.size))) hxo rfl
 have I3:=I2.write (h':=h₂.update a (Obj.mapFields (·.setIfInBounds 1 (Value.ref h₁.objs.size)))) (t':=s.toks) (x:=a) (e:=a) (o:=P5 (some h₁.objs.size) a C d) (by rw [e2];exact True.intro) (.inl rfl)
  (λb u n q=>(Heap.get?_update_other _ _ (Ne.symm n)).trans q) ⟨_,hu⟩ (okX ⟨_,hu,by simpa using hsz,by simp [tbV,hsz]⟩)
 refine h _ _ h₁.objs.size I3 ⟨fx.xc,c8,λd' z=>?_,λT z=>?_⟩ ⟨λb o n q=>?_,_,c8⟩
 ·obtain ⟨n,fs,q⟩:=fx.dc d' z
  exact ⟨n,fs,by rw [a9 n,a9 (c9 q nT)];exact q⟩
 ·cases z
  exact ⟨hTa,by rw [a9 hTa];exact c8⟩
 ·rw [a9 n,a9 (c9 q nT)];exact q
theorem a8o (I:Inv X pins σ H s) (hA:A.frames=some X.stack) (hst:X.stack=X.env :: X.outer) (hf:X.env.frame=some X.env.locals) (fx:Fx X.K H a C d tb)
  (h:∀ H' s' T,Inv X pins σ H' s'->Fx X.K H' a C d (some T)->Mv H a C d H'->Q () s'):wpAny (model X.prog X.w) A (noteFrame (.ref a) X.env) Q E s:=by
 obtain ⟨vs,hxo,hsz,hv⟩:=fx.isX I
 unfold noteFrame
 simp only [hf]
 cases tb with
 | none=>
  refine wpAny_bind (wpAny_field hxo rfl (x:=.none) hv ?_)
  rw [if_neg (by decide)]
  exact a54 I hA hst hf fx h
 | some T=>
  refine wpAny_bind (wpAny_field hxo rfl (x:=.ref T) hv ?_)
  rw [if_pos (show (Value.ref T != Value.none)=true from by simp)]
  obtain ⟨nT,eT⟩:=fx.tb_ T rfl
  obtain ⟨o,ts,e1,e2,z⟩:=(I.hok T _ eT).1
  refine wpAny_bind (wpAny_field e1 e2 (x:=ts[3]) (Array.getElem?_eq_getElem z) ?_)
  by_cases hq:(ts[3]==rawInt X.env.locals)=true
  ·rw [if_pos hq]
   exact wpAny_pure (h H s T I fx ⟨λb o _ q=>q,_,fx.at_⟩)
  ·rw [if_neg hq]
   exact wpAny_bind (I.setTb eT λI2=>a54 I2 hA hst hf fx h)
theorem N4 {fl:Option Addr} (I:Inv X pins σ H s) (fx:Fx X.K H a C d (some T)) (h:∀ s',Inv X pins σ H s'->Q () s'):wpAny (model X.prog X.w) A (setFlight (.ref a) fl) Q E s:=by
 obtain ⟨vs,hxo,hsz,hv⟩:=fx.isX I
 unfold setFlight
 refine wpAny_bind (wpAny_field hxo rfl (x:=.ref T) hv ?_)
 rw [if_pos (show (Value.ref T != Value.none)=true from by simp)]
 exact I.setTb (fx.tb_ T rfl).2 λI2=>h _ I2
theorem a7d (I:Inv X pins σ H s) (hA:A.frames=some X.stack) (hst:X.stack=X.env :: X.outer) (hf:X.env.frame=some X.env.locals) (fx:Fx X.K H a C d tb)
  (h:∀ H' s' T,Inv X pins σ H' s'->Fx X.K H' a C d (some T)->Mv H a C d H'->Q () s'):wpAny (model X.prog X.w) A (leaving X.env (.ref a)) Q E s:=by
 unfold leaving
 exact wpAny_bind (a8o I hA hst hf fx λH1 s1 T I1 fx1 m1=>N4 I1 fx1 λs2 I2=>h H1 s2 T I2 fx1 m1)
end
end L2
namespace L2
open PySem PySem.W PySem.Calls PySem.Spec PyProof.Rows
section
variable {prog:Program} {w:World} {A:Around} {E:Value->Shared->Prop} {s:Shared} {K:Frag} {env:PySem.Env}
theorem a4i {x:Sem Value} {Q:Flow->Shared->Prop} (hh:A.handled=none)
  (h:wpAny (model prog w) A x (λv s1=>∃ a C d,v=.ref a/\K.In s1.heap/\XC K C/\IsX none s1.heap a C d/\E (.ref a) s1) E s):wpAny (model prog w) A (raiseStmt env (some x) none) Q E s:=by
 unfold raiseStmt
 refine wpAny_bind (wpAny_mono h (λv s1 h1=>?_) λ_ _ x=>x)
 obtain ⟨a,C,d,rfl,X,M,⟨vs,hxo,hsz,hv⟩,hE⟩:=h1
 have Y:=G1 (M:=model prog w) X M.ex
 have L0:Looks (model prog w) s1.heap (typeOf (.ref a)) (.ref C):=(Looks.ld hxo).andThen .now
 have L1:Looks (model prog w) s1.heap (isType (.ref a)) false:=(Looks.ld hxo).andThen .now
 have L2:Looks (model prog w) s1.heap (isInstance (.ref a) (.type "BaseException")) true:=L0.andThen Y.isB
 have L3:=Y.ty
 unfold excFromValue isExcClass raisedInstance setFlight
 refine wpAny_bind (wpAny_pure (wpAny_bind (wpAny_holding (wpAny_bind (wpAny_bind (L1.here ?_))))))
 simp only [Bool.false_eq_true,if_false]
 refine wpAny_pure ?_
 simp only [Bool.false_eq_true,if_false]
 refine wpAny_bind (L2.here ?_)
 simp only [if_true]
 refine wpAny_pure (wpAny_bind (L1.here ?_))
 simp only [Bool.false_eq_true,if_false]
 refine wpAny_bind (wpAny_bind (L0.here (wpAny_bind (L3.here ?_))))
 rw [if_pos (by rfl)]
 refine wpAny_pure (wpAny_bind (wpAny_bind (wpAny_field hxo rfl (x:=.none) hv ?_)))
 rw [if_neg (by decide)]
 exact wpAny_pure (wpAny_raiseNew_none hh hE)
theorem a7p {a C T:Addr} {d tb:Option Addr} {b:Bool} {Q:Bool->Shared->Prop} (X:K.In s.heap) (M:XC K C) (MT:XC K T) (i:IsX tb s.heap a C d) (hk:kitOne K (.ref C) (.ref T)=some b) (h:Q b s) :
  wpAny (model prog w) A (excMatches (.ref a) (.ref T)) Q E s:=by
 obtain ⟨vs,hxo,hsz,hv⟩:=i
 have Y:=G1 (M:=model prog w) X M.ex
 have YT:=G1 (M:=model prog w) X MT.ex
 have L0:Looks (model prog w) s.heap (typeOf (.ref a)) (.ref C):=(Looks.ld hxo).andThen .now
 have LT:Looks (model prog w) s.heap (isInstance (.ref T) (.type "tuple")) false:=YT.ty.andThen (Looks.of_pure tc_notTuple)
 have LE:Looks (model prog w) s.heap (isExcClass (.ref T)) true:=YT.isT.andThen YT.isB
 have LS:Looks (model prog w) s.heap (isSubtype (.ref C) (.ref T)) b:=by
  unfold kitOne at hk
  by_cases e:((Value.ref C:Value)==.ref T)=true
  ·rw [if_pos e] at hk;cases hk
   cases (eq_of_beq e);exact Y.self
  ·rw [if_neg e] at hk
   exact (kit_cls X hk).2.2
 unfold excMatches
 refine wpAny_bind (LT.here ?_)
 simp only [Bool.false_eq_true,if_false]
 refine wpAny_bind (wpAny_pure ?_)
 rw [List.forIn_cons]
 refine wpAny_bind (wpAny_bind (wpAny_bind (LE.here ?_)))
 simp only [Bool.not_true,Bool.false_eq_true,if_false]
 refine wpAny_pure ?_
 dsimp only
 rw [List.forIn_nil]
 refine wpAny_pure (wpAny_bind (L0.here ?_))
 rw [List.forIn_cons]
 refine wpAny_bind (wpAny_bind (wpAny_bind (LS.here ?_)))
 cases b with
 | true=>exact wpAny_pure (wpAny_pure (wpAny_pure h))
 | false=>
  simp only [Bool.false_eq_true,if_false]
  refine wpAny_pure ?_
  dsimp only
  rw [List.forIn_nil]
  exact wpAny_pure (wpAny_pure h)
end
end L2
namespace L2
open PySem PySem.Spec PyProof.Rows
noncomputable def a2c (X:Cx) (v:Value):Cx:={ X with A:=X.A.mark (some v),calm:=false,xe:=λ_ _=>False }
section
variable {X:Cx} {pins:List (Addr×Obj)} {σ:St} {H:Hp} {s:Shared} {v:Value}
theorem Inv.hushed (I:Inv X pins σ H s) (v:Value):Inv (a2c X v) pins σ H s:=
 have ok:=I.ok
 ⟨⟨ok.mod,ok.kind,ok.glob,ok.blt,ok.above,ok.inj,ok.has,ok.cab,λz=>absurd (show (false:Bool)=true from z) (by decide),ok.frames,ok.stk,ok.exf,ok.bs,ok.bsz,ok.noex,ok.exfs,ok.funs,ok.frf⟩,I.os,I.bare,I.base,I.loc,I.cell,I.free,I.freeC,I.pin,I.hok,I.len⟩
theorem Inv.unhush (ok:X.Ok) (I:Inv (a2c X v) pins σ H s):Inv X pins σ H s:=⟨ok,I.os,I.bare,I.base,I.loc,I.cell,I.free,I.freeC,I.pin,I.hok,I.len⟩
theorem a0g {M:Model} {A:Around} {E:Value->Shared->Prop} {i:Nat} {x:Str} {pos:Pos} {Q:Unit->Shared->Prop} (I:Inv X pins σ H s) (hN:X.N.Nodup) (hi:X.N[i]?=some x) (hk:X.env.scope.names.lookup x=some .local)
  (h:∀ s',Inv X pins (σ.set i none) H s'->Q () s'):wpAny M A (do bindName X.env x .none;unbindBehindTheSuite X.env x pos) Q E s:=by
 obtain ⟨m,hn,hl⟩:=id I.loc
 have hcls:(X.env.scope.kind==.class||(X.env.scope.kind==.module&&X.env.locals != X.env.globals))=false:=by rw [I.ok.kind];rfl
 have hiσ:i<σ.length:=by rw [I.len];exact (List.getElem?_eq_some_iff.mp hi).1
 have cne:=I.cne
 refine wpAny_nameGoes_keeps hk hn hcls λh' v hn' hs=>?_
 have tracked:HOk X.prog X.w H h':=λb ob e=>by
  refine (I.hok b ob e).stay (λc w' hc q=>(hs.2 c ?_).trans q) (λ_ q=>q) λ_ _ q=>q
  rintro rfl
  rcases hc with hc | hc
  ·rw [<- hc,I.free] at e;cases e
  ·rw [I.free] at hc;cases hc
 refine h _ ⟨I.ok,I.os,I.bare,⟨λb o e n hb hx=>?_,λb o e n hb hx=>?_,I.base.free,λb o e hx=>?_,I.base.tups,I.base.frzs,I.base.tbls⟩,⟨_,hn',λj y v' e1 e2 e3=>?_⟩,λy c e=>?_,I.free,I.freeC,λp hp=>?_,tracked,by simpa using I.len⟩
 ·exact (hs.2 b (Nat.ne_of_lt (Nat.lt_of_lt_of_le (Heap.lt_size e) I.ok.above))).trans (I.base.keep b o e n hb hx)
 ·obtain ⟨sl,e1⟩:=I.base.slot b o e n hb hx
  exact ⟨sl,(hs.2 b (Nat.ne_of_lt (Nat.lt_of_lt_of_le (Heap.lt_size e) I.ok.above))).trans e1⟩
 ·obtain ⟨o',e1⟩:=I.base.there b o e hx
  exact ⟨o',(hs.2 b (Nat.ne_of_lt (Nat.lt_of_lt_of_le (Heap.lt_size e) I.ok.above))).trans e1⟩
 ·by_cases hj:j=i
  ·subst hj
   rw [List.getElem?_set_self hiσ] at e2
   cases e2
  ·rw [List.getElem?_set_ne (Ne.symm hj)] at e2
   obtain ⟨u',r',q⟩:=hl j y v' e1 e2 e3
   refine ⟨u',r',?_⟩
   rcases q with ⟨k,e⟩ | ⟨k,c,e,z⟩
   ·refine .inl ⟨k,?_⟩
    have:y≠x:=λe=>hj (a15 hN e1 (e▸hi))
    simp [this,e]
   ·exact .inr ⟨k,c,e,z.sameBut hs (cne y c e)⟩
 ·obtain ⟨w',z⟩:=I.cell y c e
  exact ⟨w',z.sameBut hs (cne y c e)⟩
 ·obtain ⟨e,n,ne,nf,d⟩:=I.pin p hp
  exact ⟨(hs.2 p.1 ne).trans e,n,ne,nf,d⟩
end
section
variable {X:Cx} {pins:List (Addr×Obj)} {σ:St} {H:Hp} {s:Shared}
theorem c6f {v:V} {d:PyData} {u:Value} {E:Value->Shared->Prop} (hg:X.A.guards=some []) (hu:X.A.units+80<cLine) (I:Inv X pins σ H s) (hd:DAt X.K H v d) (ru:RelV v u) (S:Shows d) (hl:d.shown.length<=4000) (hx:∀ x,v=.str x->x.length<=4000) :
  wpAny (model X.prog X.w) X.A (formatField u Str.empty) (λz s'=>∃ y t,z=.str y t/\y.length<=4000/\Inv X pins σ H s') E s:=by
 have sh:=S.sh
 have sz:=S.sz
 have big:(4000:Nat)<=sizeLine:=by decide
 cases hd with
 | non=>cases (show u=Value.none from ru);exact wpAny_formatField_none ⟨_,_,rfl,hl,I.tok _⟩
 | bl b=>cases (show u=Value.bool b from ru);exact wpAny_formatField_bool ⟨_,_,rfl,hl,I.tok _⟩
 | int i=>obtain ⟨t,e⟩:=(show ∃ t,u=Value.int i t from ru);subst e;exact formatField_int_small (by simpa [PyData.showable] using sh) ⟨_,_,rfl,hl,I.tok _⟩
 | str x=>obtain ⟨t,e⟩:=(show ∃ t,u=Value.str x t from ru);subst e;exact formatField_str (λt' tk=>⟨_,_,rfl,hx x rfl,I.tok _⟩) (Nat.le_trans (hx x rfl) big)
 | lst h1 h2=>
  obtain ⟨as,rr⟩:=DAt.reads I (.lst h1 h2) ru
  obtain ⟨a,rfl⟩:=isRef_of_reads rr rfl
  exact formatField_of_reads rr sh (PyData.noDict_hsm S.nd) hg (by have:=S.dp;omega) (λ_ _ e=>e) (λh' u tk hk=>⟨_,_,rfl,hl,I.kept hk⟩) sz
 | tup h1 h2=>
  obtain ⟨as,rr⟩:=DAt.reads I (.tup h1 h2) ru
  obtain ⟨a,rfl⟩:=isRef_of_reads rr rfl
  exact formatField_of_reads rr sh (PyData.noDict_hsm S.nd) hg (by have:=S.dp;omega) (λ_ _ e=>e) (λh' u tk hk=>⟨_,_,rfl,hl,I.kept hk⟩) sz
end
theorem a10 {M:Model} {A:Around} {E:Value->Shared->Prop} {Q Q':Str->Shared->Prop} (k:∀ out s,Q out s->Q' out s):∀ (parts:List (Sem Value)) (acc:Str) (s:Shared),Joins M A E parts acc Q s->Joins M A E parts acc Q' s
 | [],acc,s,h=>k _ _ h
 | x :: r,acc,s,h=>wpAny_mono h (λv s1 ⟨y,t,e,l,q⟩=>⟨y,t,e,l,a10 k r _ s1 q⟩) λ_ _ z=>z
noncomputable abbrev TF:=St->Hp->(Hp->Prop)->Prop
def PFs (X:Cx) (es:List Expr) (n:Nat) (t:TF):Prop:=
 ∀ (acc:Str) (pins:List (Addr×Obj)) (s:Shared) (σ:St) (H:Hp) (Q:Hp->Prop),acc.length+n<=sizeLine->Inv X pins σ H s->t σ H Q ->
  Joins (model X.prog X.w) X.A X.xe (evalEach es X.env) acc (λout s1=>out.length<=sizeLine/\∃ H',Inv X pins σ H' s1/\Q H') s
def fNil:TF:=λ_ H Q=>Q H
def d1x (K:PySem.W.Frag) (te:TE) (t:TF):TF:=λσ H Q=>te σ H λv H1=>∃ d,DAt K H1 v d/\Shows d/\d.shown.length<=4000/\(∀ x,v=.str x->x.length<=4000)/\t σ H1 Q
section
variable {X:Cx} {e:Expr} {es:List Expr} {n:Nat} {t:TF} {te:TE} {pos:Pos}
theorem V9:PFs X [] 0 fNil:=λacc pins s σ H Q hl I q=>⟨by omega,H,I,q⟩
theorem D5 {x:Str} {k:Nat} (h:PFs X es n t) (hx:x.length<=1000:=by decide):PFs X (.Constant (.str x) k pos :: es) (1000+n) t:=λacc pins s σ H Q hl I q=>by
 refine Calls.Constant_str ⟨x,_,rfl,?_,?_⟩
 ·rw [strLen_append];omega
 ·exact h (acc++x) pins _ σ H Q (by rw [strLen_append];omega) (I.tok _) q
theorem J0 (hg:X.A.guards=some []) (hu:X.A.units+80<cLine) (he:PE X e te) (h:PFs X es n t):PFs X (.FormattedValue e (-1) none pos :: es) (4000+n) (d1x X.K te t):=λacc pins s σ H Q hl I q=>by
 refine wpAny_FormattedValue_plain (thn (he pins s σ H _ I q) λu s1 ⟨v,H1,I1,ru,d,hd,S,l1,l2,q1⟩=>?_)
 refine thn (c6f hg hu I1 hd ru S l1 l2) λz s2 ⟨y,tk,ez,ly,I2⟩=>?_
 refine ⟨y,tk,ez,?_,?_⟩
 ·rw [strLen_append];omega
 ·exact h (acc++y) pins s2 σ H1 Q (by rw [strLen_append];omega) I2 q1
def tFs (t:TF):TE:=λσ H Q=>t σ H λH'=>∀ z:Str,z.length<=sizeLine->Q (.str z) H'
theorem V5 {e2:Expr} (h:PFs X (e :: e2 :: es) n t) (hn:n<=100000):PE X (.JoinedStr (e :: e2 :: es) pos) (tFs t):=by
 intro pins s σ H Q I q
 refine wpAny_JoinedStr ?_
 have big:(100000:Nat)<=sizeLine:=by decide
 have key:=h Str.empty pins s σ H _ (by show 0+n<=sizeLine;omega) I q
 exact a10 (λout s1 ⟨l,H',I',q'⟩=>⟨l,.str out,H',I'.tok _,⟨_,rfl⟩,q' out l⟩) _ _ _ key
theorem L5 {CX:CXT} {k:Nat} {f B:Addr} {fd:FuncData} {ps:List Str} {sp:Sp} {E:XK} {nm m:Str} {p apos:Pos} {pl:Sem Bool} {mc:Value} {ta:TA}
  (hg:Gl X nm) (hm:X.mg nm=some (.ref B)) (hs:PySem.W.specialIn X.K (.ref B) "__getattribute__" = some (some (.builtin "type.__getattribute__"))) (hrd:PySem.W.readsIn X.K B mc=true) (hf:PySem.W.findCls X.K (.ref B) mc m=some (.val (.ref f))) (hk:PySem.W.keepIn X.K (.ref f)=true)
  (F:FnOk X.prog X.w X.K X.mg X.base CX k f fd ps sp) (hr:Room CX.q k X.A) (hb:Binds X.K fd ps []) (hx:E4 CX X E) (ha:PA X (e :: es) ta)
  (hdb:(nm==("__debug__" : Str))=false:=by decide) (hst:starEach (e :: es) X.env=(false,eval e X.env) :: starEach es X.env:=by rfl) (hpl:(backTo pos (starEach es X.env)).any (·.1)=false:=by rfl)
  (ht:eval (.Call (.Attribute (.Name nm p) m apos) (e :: es) [] pos) X.env=(do
   let ov <- eval (.Name nm p) X.env
   standAt apos.atName
   let (f,first) <- holding [ov] (getMethod ov m pl)
   callWith pos f first (backTo pos (starEach (e :: es) X.env)) (backToKw pos (keywordEach [] X.env))):=by rfl) :
  PE X (.Call (.Attribute (.Name nm p) m apos) (e :: es) [] pos) (b2m sp [] E ta):=by
 intro pins s σ H Q I h
 refine PySem.W.methodCall_KW (pl:=pl) (G5 I hg hm ?_ hdb) ht
 refine PySem.W.method_cls I.kIn hs (PySem.W.cls_value I.kIn hrd hf rfl ?_)
 refine PySem.W.callWith_K (first:=[]) (h₀:=X.base) I.ok.mod.kin hk (thn (ha pos pins _ σ H _ (I.tok _) h) λus s1 ⟨vs,H1,I1,r,q⟩=>⟨I1.kIn,?_⟩) hst hpl
 exact a7b F hr hb .nil hx I1 r q
def c6h (K:PySem.W.Frag) (ta:TA):TE:=λσ H Q=>ta σ H λvs H1=>∃ x C d y,vs=[.ref x,y]/\XC K C/\H1 x=some (P1 x C d)/\Q .non H1
theorem b5k {p apos:Pos} {pl:Sem Bool} {ta:TA} (hg:Gl X "ValueError") (hm:X.mg "ValueError" = none) (hf:PySem.W.findCls X.K (.type "ValueError") (.type "type") "__init__" = some (.val (.builtin "ValueError.__init__"))) (ha:PA X (e :: es) ta)
  (hst:starEach (e :: es) X.env=(false,eval e X.env) :: starEach es X.env:=by rfl) (hpl:(backTo pos (starEach es X.env)).any (·.1)=false:=by rfl)
  (ht:eval (.Call (.Attribute (.Name "ValueError" p) "__init__" apos) (e :: es) [] pos) X.env=(do
   let ov <- eval (.Name "ValueError" p) X.env
   standAt apos.atName
   let (f,first) <- holding [ov] (getMethod ov "__init__" pl)
   callWith pos f first (backTo pos (starEach (e :: es) X.env)) (backToKw pos (keywordEach [] X.env))):=by rfl) :
  PE X (.Call (.Attribute (.Name "ValueError" p) "__init__" apos) (e :: es) [] pos) (c6h X.K ta):=by
 intro pins s σ H Q I h
 refine PySem.W.methodCall_KW (pl:=pl) (K9 I hg hm (show bootBuiltins "ValueError" = some (.type "ValueError") by rfl) ?_) ht
 obtain ⟨m,hfr⟩:=I.fr
 refine PySem.W.method_type hfr I.ok.mod.kin (by rfl) (by decide +kernel) hf rfl ?_
 refine PyProof.Rows.callWith_builtin1 (thn (ha pos pins _ σ H _ (I.tok _) h) λus s1 ⟨vs,H1,I1,r,x,C,d,y,ev,M,e0,q⟩=>?_) hst hpl
 subst ev
 obtain ⟨u,u2,rfl,ru,ru2⟩:=a56 r
 cases (show u=Value.ref x from ru)
 refine wpAny_call (c7v I1.kIn (I1.isX e0) M.ex λh' k1 i1=>?_)
 obtain ⟨vs1,hx1,_⟩:=id i1
 have I2:=I1.write (h':=h') (t':=s1.toks) (x:=x) (e:=x) (o:=P1 x C d) (by rw [e0];exact True.intro) (.inl rfl) (λb ob hb z=>k1 b ob hb z) ⟨_,hx1⟩ (okX i1)
 rw [b32 e0] at I2
 exact ⟨.non,H1,I2,rfl,q⟩
end
end L2
namespace Hn
open PySem L2
def spHE (K:PySem.W.Frag):Sp:=λvs H Q _=>∃ (x:Addr) (y:V) (C:Addr) (d:Option Addr),vs=[.ref x,y]/\XC K C/\H x=some (P1 x C d)/\Q .non H
structure Fmt (K:PySem.W.Frag) (H:Hp) (v:V) (d:PyData):Prop where
 at_:DAt K H v d
 sh:Shows d
 l1:d.shown.length<=4000
 l2:∀ x,v=.str x->x.length<=4000
def Got (H:Hp) (x C:Addr) (fs:List (Str×V)) (H':Hp):Prop:=∃ d,H d=none/\d≠x/\H' x=some (P1 x C (some d))/\H' d=some (G0 d fs)/\∀ b,b≠x->b≠d->H' b=H b
def sp1 (K:PySem.W.Frag) (f:Str):Sp:=λvs H Q _=>∃ (x:Addr) (v:V) (C:Addr) (dv:PyData),vs=[.ref x,v]/\XC K C/\v7 K C f/\H x=some (P1 x C none)/\Fmt K H v dv/\∀ H',Got H x C [(f,v)] H'->Q .non H'
def sp2 (K:PySem.W.Frag) (f g:Str):Sp:=λvs H Q _=>∃ (x:Addr) (v u:V) (C:Addr) (dv du:PyData),vs=[.ref x,v,u]/\XC K C/\v7 K C f/\v7 K C g/\H x=some (P1 x C none)/\Fmt K H v dv/\Fmt K H u du /\
 ∀ H',Got H x C [(f,v),(g,u)] H'->Q .non H'
structure TxE (K:PySem.W.Frag) (mg:Str->Option Value) (B fB:Addr):Prop where
 mV:mg "ValueError" = none
 fV:PySem.W.findCls K (.type "ValueError") (.type "type") "__init__" = some (.val (.builtin "ValueError.__init__"))
 mB:mg "HandError" = some (.ref B)
 sB:PySem.W.specialIn K (.ref B) "__getattribute__" = some (some (.builtin "type.__getattribute__"))
 rB:PySem.W.readsIn K B (.type "type")=true
 cB:PySem.W.findCls K (.ref B) (.type "type") "__init__" = some (.val (.ref fB))
 kB:PySem.W.keepIn K (.ref fB)=true
theorem a9u (v u:V):K8 ("at" : Str) u ([("word",v)]:List (Str×V))=([("word",v),("at",u)]:List (Str×V)):=by
 show (if ("word" : Str) = "at" then [(("word" : Str),u)] else (("word" : Str),v) :: K8 "at" u [])=([("word",v),("at",u)]:List (Str×V))
 rw [if_neg (by decide +kernel)]
 rfl
section
variable {K:PySem.W.Frag}
theorem Fmt.laid {H:Hp} {x:Addr} {o:HO} {v:V} {d:PyData} (h:Fmt K H v d) (hx:H x=none):Fmt K (upd H x o) v d:=⟨h.at_.keeps (Keeps.laid hx),h.sh,h.l1,h.l2⟩
end
end Hn
namespace L3
open PySem PySem.Spec PyProof.Rows L2
inductive D where
 | non | bl (b:Bool) | int (i:Int) | str (x:Str) | tup (ds:List D) | lst (ds:List D) | scr (ds:List D) | ref (n:Nat)
inductive O where
 | lst (ds:List D) | dct (kvs:List (Key×D)) | exc (c:Nat) (fs:List (Str×D))
noncomputable abbrev Sto:=List O
inductive R (α:Type) where
 | ok (a:α) (S:Sto) | exn (n:Nat) (S:Sto) | bad
noncomputable abbrev M (α:Type):=Sto->R α
noncomputable def ret {α:Type} (a:α):M α:=λS=>.ok a S
noncomputable def bad {α:Type}:M α:=λ_=>.bad
noncomputable def bind {α β:Type} (m:M α) (k:α->M β):M β:=λS=>match m S with
 | .ok a S'=>k a S'
 | .exn n S'=>.exn n S'
 | .bad=>.bad
noncomputable abbrev Env:=List (Option D)
structure Mp where
 pl:List Addr
 rs:List Addr
noncomputable def Mp.push (μ:Mp) (p:Addr):Mp:=⟨μ.pl++[p],μ.rs⟩
def TupAt (K:PySem.W.Frag) (μ:Mp) (H:Hp) (a:Addr) (xs:List V):Prop:=
 (Rd H a (.tup xs)/\a∉μ.pl/\a∉μ.rs)\/∃ (o:Obj) (its:Array Value) (n:Nat),K.lookup a=some o/\o.cls=.type "tuple"/\o.data=.seq its n/\its.size<=sizeLine/\Vals xs its.toList/\o.dict=none
def ScrAt (K:PySem.W.Frag) (μ:Mp) (H:Hp) (a:Addr) (xs:List V):Prop:=
 (Rd H a (.lst xs)/\a∉μ.pl/\a∉μ.rs)\/∃ (o:Obj) (its:Array Value) (n:Nat),K.lookup a=some o/\o.cls=.type "list"/\o.dict=none/\o.data=.seq its n/\its.size<=sizeLine/\Vals xs its.toList
def LstAt (μ:Mp) (H:Hp) (a:Addr) (xs:List V):Prop:=H a=some (.lst xs)/\a∉μ.pl/\a∉μ.rs
theorem TupAt.sq {K:PySem.W.Frag} {μ:Mp} {H:Hp} {a:Addr} {xs:List V} (h:TupAt K μ H a xs):SqT K H a xs:=h.imp (λz=>z.1) λ⟨o,its,n,a,b,c,d,e,_⟩=>⟨o,its,n,a,b,c,d,e⟩
theorem ScrAt.sq {K:PySem.W.Frag} {μ:Mp} {H:Hp} {a:Addr} {xs:List V} (h:ScrAt K μ H a xs):SqL K H a xs:=h.imp (λz=>z.1) id
theorem LstAt.sq {K:PySem.W.Frag} {μ:Mp} {H:Hp} {a:Addr} {xs:List V} (h:LstAt μ H a xs):SqL K H a xs:=.inl (.inl h.1)
mutual
inductive RD (K:PySem.W.Frag) (μ:Mp) (H:Hp):D->V->Prop where
 | non:RD K μ H .non .non
 | bl (b:Bool):RD K μ H (.bl b) (.bl b)
 | int (i:Int):RD K μ H (.int i) (.int i)
 | str (x:Str):RD K μ H (.str x) (.str x)
 | tup {a:Addr} {xs:List V} {ds:List D}:TupAt K μ H a xs->RDs K μ H ds xs->RD K μ H (.tup ds) (.ref a)
 | lst {a:Addr} {xs:List V} {ds:List D}:LstAt μ H a xs->RDs K μ H ds xs->RD K μ H (.lst ds) (.ref a)
 | scr {a:Addr} {xs:List V} {ds:List D}:ScrAt K μ H a xs->RDs K μ H ds xs->RD K μ H (.scr ds) (.ref a)
 | ref {n:Nat} {a:Addr}:μ.pl[n]?=some a->RD K μ H (.ref n) (.ref a)
inductive RDs (K:PySem.W.Frag) (μ:Mp) (H:Hp):List D->List V->Prop where
 | nil:RDs K μ H [] []
 | cons {d:D} {v:V} {ds:List D} {vs:List V}:RD K μ H d v->RDs K μ H ds vs->RDs K μ H (d :: ds) (v :: vs)
end
structure Lat (μ:Mp) (H:Hp) (μ':Mp) (H':Hp):Prop where
 pre:∀ (n:Nat) (a:Addr),μ.pl[n]?=some a->μ'.pl[n]?=some a
 oth:∀ a o,H a=some o->a∉μ.pl->H' a=some o
 new:∀ a,a∈μ'.pl->a∈μ.pl\/H a=none
 rsv:μ'.rs=μ.rs
theorem Lat.refl (μ:Mp) (H:Hp):Lat μ H μ H:=⟨λ_ _ h=>h,λ_ _ h _=>h,λ_ h=>.inl h,rfl⟩
theorem Lat.out {μ μ':Mp} {H H':Hp} (l:Lat μ H μ' H') {a:Addr} {o:HO} (h:H a=some o) (n:a∉μ.pl):a∉μ'.pl:=λz=>by
 rcases l.new a z with q | q
 ·exact n q
 ·rw [h] at q;cases q
theorem Lat.trans {μ μ1 μ2:Mp} {H H1 H2:Hp} (l:Lat μ H μ1 H1) (k:Lat μ1 H1 μ2 H2):Lat μ H μ2 H2:=by
 refine ⟨λn a h=>k.pre n a (l.pre n a h),λa o h n=>k.oth a o (l.oth a o h n) (l.out h n),λa h=>?_,k.rsv.trans l.rsv⟩
 rcases k.new a h with q | q
 ·exact l.new a q
 ·by_cases m:a∈μ.pl
  ·exact .inl m
  ·right
   cases e:H a with
   | none=>rfl
   | some o=>rw [l.oth a o e m] at q;cases q
theorem Rd.later {μ μ':Mp} {H H':Hp} (l:Lat μ H μ' H') {a:Addr} {u:HO} (h:Rd H a u) (n:a∉μ.pl):Rd H' a u/\a∉μ'.pl:=by
 rcases h with h | ⟨o,h⟩
 ·exact ⟨.inl (l.oth _ _ h n),l.out h n⟩
 ·exact ⟨.inr ⟨o,l.oth _ _ h n⟩,l.out h n⟩
theorem TupAt.later {K:PySem.W.Frag} {μ μ':Mp} {H H':Hp} (l:Lat μ H μ' H') {a:Addr} {xs:List V} (h:TupAt K μ H a xs):TupAt K μ' H' a xs:=h.imp (λz=>⟨(Rd.later l z.1 z.2.1).1,(Rd.later l z.1 z.2.1).2,by rw [l.rsv];exact z.2.2⟩) id
theorem ScrAt.later {K:PySem.W.Frag} {μ μ':Mp} {H H':Hp} (l:Lat μ H μ' H') {a:Addr} {xs:List V} (h:ScrAt K μ H a xs):ScrAt K μ' H' a xs:=h.imp (λz=>⟨(Rd.later l z.1 z.2.1).1,(Rd.later l z.1 z.2.1).2,by rw [l.rsv];exact z.2.2⟩) id
theorem LstAt.later {μ μ':Mp} {H H':Hp} (l:Lat μ H μ' H') {a:Addr} {xs:List V} (h:LstAt μ H a xs):LstAt μ' H' a xs:=⟨l.oth _ _ h.1 h.2.1,l.out h.1 h.2.1,by rw [l.rsv];exact h.2.2⟩
mutual
theorem RD.later {K:PySem.W.Frag} {μ μ':Mp} {H H':Hp} (l:Lat μ H μ' H'):∀ {d:D} {v:V},RD K μ H d v->RD K μ' H' d v
 | _,_,.non=>.non
 | _,_,.bl b=>.bl b
 | _,_,.int i=>.int i
 | _,_,.str x=>.str x
 | _,_,.tup h r=>.tup (h.later l) (RDs.later l r)
 | _,_,.lst h r=>.lst (h.later l) (RDs.later l r)
 | _,_,.scr h r=>.scr (h.later l) (RDs.later l r)
 | _,_,.ref h=>.ref (l.pre _ _ h)
theorem RDs.later {K:PySem.W.Frag} {μ μ':Mp} {H H':Hp} (l:Lat μ H μ' H'):∀ {ds:List D} {vs:List V},RDs K μ H ds vs->RDs K μ' H' ds vs
 | _,_,.nil=>.nil
 | _,_,.cons h r=>.cons (RD.later l h) (RDs.later l r)
end
section
variable {K:PySem.W.Frag} {μ:Mp} {H:Hp}
theorem RDs.length:∀ {ds:List D} {vs:List V},RDs K μ H ds vs->ds.length=vs.length
 | _,_,.nil=>rfl
 | _,_,.cons _ r=>by simp [RDs.length r]
theorem RDs.get:∀ {ds:List D} {vs:List V} {i:Nat} {d:D},RDs K μ H ds vs->ds[i]?=some d->∃ v,vs[i]?=some v/\RD K μ H d v
 | _,_,_,_,.nil,e=>by simp at e
 | _,_,0,_,.cons h _,e=>by simp at e;subst e;exact ⟨_,rfl,h⟩
 | _,_,i+1,d,.cons _ r,e=>by
  obtain ⟨v,h1,h2⟩:=RDs.get (i:=i) (d:=d) r (by simpa using e)
  exact ⟨v,by simpa using h1,h2⟩
theorem RDs.append:∀ {ds es:List D} {vs us:List V},RDs K μ H ds vs->RDs K μ H es us->RDs K μ H (ds++es) (vs++us)
 | _,_,_,_,.nil,s=>s
 | _,_,_,_,.cons h r,s=>.cons h (RDs.append r s)
theorem RDs.take:∀ {ds:List D} {vs:List V} (n:Nat),RDs K μ H ds vs->RDs K μ H (ds.take n) (vs.take n)
 | _,_,0,_=>by simpa using RDs.nil
 | _,_,_+1,.nil=>by simpa using RDs.nil
 | _,_,n+1,.cons h r=>by simpa using RDs.cons h (RDs.take n r)
theorem RDs.drop:∀ {ds:List D} {vs:List V} (n:Nat),RDs K μ H ds vs->RDs K μ H (ds.drop n) (vs.drop n)
 | _,_,0,h=>by simpa using h
 | _,_,_+1,.nil=>by simpa using RDs.nil
 | _,_,n+1,.cons _ r=>by simpa using RDs.drop n r
theorem RDs.set {d:D} {v:V} (q:RD K μ H d v):∀ {ds:List D} {vs:List V} (n:Nat),RDs K μ H ds vs->RDs K μ H (ds.set n d) (vs.set n v)
 | _,_,_,.nil=>by simpa using RDs.nil
 | _,_,0,.cons h r=>by simpa using RDs.cons q r
 | _,_,n+1,.cons h r=>by simpa using RDs.cons h (RDs.set q n r)
theorem RDs.rep {ds:List D} {vs:List V} (r:RDs K μ H ds vs):∀ k:Nat,RDs K μ H (List.replicate k ds).flatten (List.replicate k vs).flatten
 | 0=>.nil
 | k+1=>by
  rw [List.replicate_succ,List.replicate_succ,List.flatten_cons,List.flatten_cons]
  exact r.append (RDs.rep r k)
theorem RDs.ints:∀ ns:List Int,RDs K μ H (ns.map D.int) (ns.map V.int)
 | []=>.nil
 | n :: ns=>.cons (.int n) (RDs.ints ns)
end
def a75 (K:PySem.W.Frag) (μ:Mp) (H:Hp):List (Str×D)->List (Str×V)->Prop:=Paired λp q=>p.1=q.1/\RD K μ H p.2 q.2
def KvsAt (K:PySem.W.Frag) (μ:Mp) (H:Hp):List (Key×D)->List (Key×V)->Prop:=Paired λp q=>p.1=q.1/\RD K μ H p.2 q.2
def OAt (K:PySem.W.Frag) (cl:Nat->Addr) (μ:Mp) (H:Hp) (a:Addr):O->Prop
 | .lst ds=>∃ xs,H a=some (.lst xs)/\RDs K μ H ds xs
 | .dct kvs=>∃ ks,H a=some (.dK ks)/\KvsAt K μ H kvs ks
 | .exc c fs=>XC K (cl c)/\∃ gs,a75 K μ H fs gs/\∃ fr,((gs=[]/\H a=some (P5 fr a (cl c) none))\/∃ d,d≠a/\d∉μ.pl/\H a=some (P5 fr a (cl c) (some d))/\H d=some (G0 d gs))
structure Rep (K:PySem.W.Frag) (cl:Nat->Addr) (μ:Mp) (S:Sto) (H:Hp):Prop where
 len:μ.pl.length=S.length
 nd:μ.pl.Nodup
 ats:∀ (n:Nat) (o:O) (a:Addr),S[n]?=some o->μ.pl[n]?=some a->OAt K cl μ H a o
 res:∀ a,a∈μ.rs->a∉μ.pl/\∃ u,H a=some u
theorem Paired.mono {α β:Type} {P Q:α->β->Prop} (h:∀ a b,P a b->Q a b):∀ {xs:List α} {ys:List β},Paired P xs ys->Paired Q xs ys
 | _,_,.nil=>.nil
 | _,_,.cons r t=>.cons (h _ _ r) (Paired.mono h t)
section
variable {K:PySem.W.Frag} {cl:Nat->Addr} {μ:Mp} {S:Sto} {H:Hp}
theorem OAt.some {a:Addr} {o:O} (h:OAt K cl μ H a o):∃ u,H a=some u:=by
 cases o with
 | lst ds=>obtain ⟨xs,e,_⟩:=h;exact ⟨_,e⟩
 | dct kvs=>obtain ⟨xs,e,_⟩:=h;exact ⟨_,e⟩
 | exc c fs=>
  obtain ⟨_,gs,_,fr,⟨_,e⟩ | ⟨d,_,_,e,_⟩⟩:=h
  ·exact ⟨_,e⟩
  ·exact ⟨_,e⟩
theorem Rep.tracked (r:Rep K cl μ S H) {a:Addr} (h:a∈μ.pl):∃ u,H a=some u:=by
 obtain ⟨n,hn,e⟩:=List.getElem_of_mem h
 have hs:n<S.length:=by rw [<- r.len];exact hn
 exact (r.ats n S[n] a (List.getElem?_eq_getElem hs) (by rw [List.getElem?_eq_getElem hn,e])).some
theorem Rep.notrs (r:Rep K cl μ S H) {p:Addr} (h:H p=none):p∉μ.rs:=λz=>by
 obtain ⟨_,u,e⟩:=r.res p z
 rw [h] at e;cases e
theorem Rep.notin (r:Rep K cl μ S H) {p:Addr} (h:H p=none):p∉μ.pl:=λz=>by
 obtain ⟨u,e⟩:=r.tracked z
 rw [h] at e;cases e
theorem Lat.laid {p:Addr} {o:HO} (h:H p=none):Lat μ H μ (upd H p o):=⟨λ_ _ h=>h,λa u e _=>by rw [a9 (c9 e h)];exact e,λ_ h=>.inl h,rfl⟩
theorem Rep.keep {H':Hp} (r:Rep K cl μ S H) (l:Lat μ H μ H') (k:∀ a,a∈μ.pl->H' a=H a):Rep K cl μ S H':=by
 refine ⟨r.len,r.nd,λn o a e1 e2=>?_,λa m=>let ⟨h1,u,h2⟩:=r.res a m;⟨h1,u,l.oth _ _ h2 h1⟩⟩
 have ka:=k a (List.mem_of_getElem? e2)
 have h:=r.ats n o a e1 e2
 cases o with
 | lst ds=>obtain ⟨xs,e,q⟩:=h;exact ⟨xs,by rw [ka];exact e,q.later l⟩
 | dct kvs=>obtain ⟨xs,e,q⟩:=h;exact ⟨xs,by rw [ka];exact e,Paired.mono (λ_ _ ⟨z,w⟩=>⟨z,w.later l⟩) q⟩
 | exc c fs=>
  obtain ⟨xc,gs,q,fr,h⟩:=h
  refine ⟨xc,gs,Paired.mono (λ_ _ ⟨z,w⟩=>⟨z,w.later l⟩) q,fr,?_⟩
  rcases h with ⟨z,e⟩ | ⟨d,h1,h2,e,e2⟩
  ·exact .inl ⟨z,by rw [ka];exact e⟩
  ·exact .inr ⟨d,h1,h2,by rw [ka];exact e,l.oth _ _ e2 h2⟩
theorem Rep.laid {p:Addr} {o:HO} (r:Rep K cl μ S H) (h:H p=none):Rep K cl μ S (upd H p o):=r.keep (Lat.laid h) λa m=>a9 λz=>r.notin h (z▸m)
theorem Lat.pushed {p:Addr} {H':Hp} (h:H p=none) (k:∀ a u,H a=some u->H' a=some u):Lat μ H (μ.push p) H':=
 ⟨λn a e=>by show (μ.pl++[p])[n]?=_;rw [List.getElem?_append_left (List.getElem?_eq_some_iff.mp e).1];exact e,λa u e _=>k a u e,λa m=>by
  rcases List.mem_append.mp m with z | z
  ·exact .inl z
  ·exact .inr (by rw [List.mem_singleton.mp z];exact h),rfl⟩
theorem OAt.later {μ':Mp} {H':Hp} {a:Addr} {o:O} (h:OAt K cl μ H a o) (l:Lat μ H μ' H') (ka:H' a=H a):OAt K cl μ' H' a o:=by
 cases o with
 | lst ds=>obtain ⟨xs,e,q⟩:=h;exact ⟨xs,by rw [ka];exact e,q.later l⟩
 | dct kvs=>obtain ⟨xs,e,q⟩:=h;exact ⟨xs,by rw [ka];exact e,Paired.mono (λ_ _ ⟨z,w⟩=>⟨z,w.later l⟩) q⟩
 | exc c fs=>
  obtain ⟨xc,gs,q,fr,h⟩:=h
  refine ⟨xc,gs,Paired.mono (λ_ _ ⟨z,w⟩=>⟨z,w.later l⟩) q,fr,?_⟩
  rcases h with ⟨z,e⟩ | ⟨d,h1,h2,e,e2⟩
  ·exact .inl ⟨z,by rw [ka];exact e⟩
  ·exact .inr ⟨d,h1,l.out e2 h2,by rw [ka];exact e,l.oth _ _ e2 h2⟩
theorem Rep.pushed {p:Addr} {H':Hp} {o:O} (r:Rep K cl μ S H) (h:H p=none) (k:∀ a u,H a=some u->H' a=some u) (ho:OAt K cl (μ.push p) H' p o):Rep K cl (μ.push p) (S++[o]) H':=by
 have l:=Lat.pushed (μ:=μ) h k
 refine ⟨by simp [Mp.push,r.len],?_,λn u a e1 e2=>?_,λa m=>?_⟩
 ·show (μ.pl++[p]).Nodup
  rw [List.nodup_append]
  exact ⟨r.nd,by simp,λa m b m2=>by rw [List.mem_singleton.mp m2];rintro rfl;exact r.notin h m⟩
 ·have e2:(μ.pl++[p])[n]?=some a:=e2
  by_cases hn:n<S.length
  ·rw [List.getElem?_append_left hn] at e1
   rw [List.getElem?_append_left (by rw [r.len];exact hn)] at e2
   have q:=r.ats n u a e1 e2
   obtain ⟨z,ez⟩:=q.some
   exact q.later l ((k a z ez).trans ez.symm)
  ·have hn2:n=S.length:=by
    have:=(List.getElem?_eq_some_iff.mp e1).1
    simp at this;omega
   subst hn2
   rw [<- r.len] at e2
   simp at e1 e2
   subst e1;subst e2
   exact ho
 ·obtain ⟨h1,u,h2⟩:=r.res a m
  refine ⟨λz=>?_,u,k a u h2⟩
  rcases List.mem_append.mp (show a∈μ.pl++[p] from z) with z | z
  ·exact h1 z
  ·rw [List.mem_singleton.mp z,h] at h2;cases h2
theorem Lat.wrote {a:Addr} {o:HO} (h:a∈μ.pl):Lat μ H μ (upd H a o):=⟨λ_ _ h=>h,λb u e n=>by rw [a9 (λz=>n (by rw [z];exact h))];exact e,λ_ h=>.inl h,rfl⟩
theorem Rep.wrote {n:Nat} {a:Addr} {u:HO} {o:O} (r:Rep K cl μ S H) (e:μ.pl[n]?=some a) (ho:OAt K cl μ (upd H a u) a o):Rep K cl μ (S.set n o) (upd H a u):=by
 have m:a∈μ.pl:=List.mem_of_getElem? e
 refine ⟨by simp [r.len],r.nd,λk w b e1 e2=>?_,λb mb=>let ⟨h1,u',h2⟩:=r.res b mb;⟨h1,u',by rw [a9 (λz=>h1 (by rw [z];exact m))];exact h2⟩⟩
 by_cases hk:n=k
 ·subst hk
  rw [e] at e2;cases e2
  rw [List.getElem?_set_self (by have:=(List.getElem?_eq_some_iff.mp e).1;rw [r.len] at this;exact this)] at e1
  cases e1;exact ho
 ·rw [List.getElem?_set_ne hk] at e1
  have hb:b≠a:=λz=>by
   subst z
   obtain ⟨h1,q1⟩:=List.getElem?_eq_some_iff.mp e
   obtain ⟨h2,q2⟩:=List.getElem?_eq_some_iff.mp e2
   exact hk ((List.getElem_inj r.nd).mp (q1.trans q2.symm))
  exact (r.ats k w b e1 e2).later (Lat.wrote m) (a9 hb)
end
noncomputable def Mp.hold (μ:Mp) (p:Addr):Mp:=⟨μ.pl,p :: μ.rs⟩
mutual
theorem RD.move {K:PySem.W.Frag} {μ μ':Mp} {H H':Hp} (hp:∀ (n:Nat) (a:Addr),μ.pl[n]?=some a->μ'.pl[n]?=some a) (ho:∀ a u,H a=some u->a∉μ.pl->a∉μ.rs->H' a=some u/\a∉μ'.pl/\a∉μ'.rs):∀ {d:D} {v:V},RD K μ H d v->RD K μ' H' d v
 | _,_,.non=>.non
 | _,_,.bl b=>.bl b
 | _,_,.int i=>.int i
 | _,_,.str x=>.str x
 | _,_,.tup h r=>.tup (h.imp (λ⟨q,n1,n2⟩=>by
   rcases q with q | ⟨o,q⟩
   ·exact ⟨.inl (ho _ _ q n1 n2).1,(ho _ _ q n1 n2).2⟩
   ·exact ⟨.inr ⟨o,(ho _ _ q n1 n2).1⟩,(ho _ _ q n1 n2).2⟩) id) (RDs.move hp ho r)
 | _,_,.lst h r=>.lst (ho _ _ h.1 h.2.1 h.2.2) (RDs.move hp ho r)
 | _,_,.scr h r=>.scr (h.imp (λ⟨q,n1,n2⟩=>by
   rcases q with q | ⟨o,q⟩
   ·exact ⟨.inl (ho _ _ q n1 n2).1,(ho _ _ q n1 n2).2⟩
   ·exact ⟨.inr ⟨o,(ho _ _ q n1 n2).1⟩,(ho _ _ q n1 n2).2⟩) id) (RDs.move hp ho r)
 | _,_,.ref h=>.ref (hp _ _ h)
theorem RDs.move {K:PySem.W.Frag} {μ μ':Mp} {H H':Hp} (hp:∀ (n:Nat) (a:Addr),μ.pl[n]?=some a->μ'.pl[n]?=some a) (ho:∀ a u,H a=some u->a∉μ.pl->a∉μ.rs->H' a=some u/\a∉μ'.pl/\a∉μ'.rs):∀ {ds:List D} {vs:List V},RDs K μ H ds vs->RDs K μ' H' ds vs
 | _,_,.nil=>.nil
 | _,_,.cons h r=>.cons (RD.move hp ho h) (RDs.move hp ho r)
end
section
variable {K:PySem.W.Frag} {cl:Nat->Addr} {μ:Mp} {S:Sto} {H:Hp}
theorem Rep.move {μ':Mp} {H':Hp} (r:Rep K cl μ S H) (hr:∀ a,a∈μ'.rs->a∉μ'.pl/\∃ u,H' a=some u) (hp:μ'.pl=μ.pl) (hk:∀ a,a∈μ.pl->H' a=H a) (hx:∀ a u,H a=some (.ext u)->H' a=some (.ext u)) (ho:∀ a u,H a=some u->a∉μ.pl->a∉μ.rs->H' a=some u/\a∉μ'.pl/\a∉μ'.rs):Rep K cl μ' S H':=by
 have hp':∀ (n:Nat) (a:Addr),μ.pl[n]?=some a->μ'.pl[n]?=some a:=λn a e=>by rw [hp];exact e
 refine ⟨by rw [hp];exact r.len,by rw [hp];exact r.nd,λn o a e1 e2=>?_,hr⟩
 rw [hp] at e2
 have ka:=hk a (List.mem_of_getElem? e2)
 have h:=r.ats n o a e1 e2
 cases o with
 | lst ds=>obtain ⟨xs,e,q⟩:=h;exact ⟨xs,by rw [ka];exact e,q.move hp' ho⟩
 | dct kvs=>obtain ⟨xs,e,q⟩:=h;exact ⟨xs,by rw [ka];exact e,Paired.mono (λ_ _ ⟨z,w⟩=>⟨z,w.move hp' ho⟩) q⟩
 | exc c fs=>
  obtain ⟨xc,gs,q,fr,h⟩:=h
  refine ⟨xc,gs,Paired.mono (λ_ _ ⟨z,w⟩=>⟨z,w.move hp' ho⟩) q,fr,?_⟩
  rcases h with ⟨z,e⟩ | ⟨d,h1,h2,e,e2⟩
  ·exact .inl ⟨z,by rw [ka];exact e⟩
  ·exact .inr ⟨d,h1,by rw [hp];exact h2,by rw [ka];exact e,hx _ _ e2⟩
end
section
variable (K:PySem.W.Frag) (cl:Nat->Addr) (xe:Addr->Hp->Prop)
def Post {α:Type} (μ:Mp) (H:Hp) (r:R α) (G:α->Sto->Mp->Hp->Prop):Prop:=match r with
 | .ok a S=>∀ μ' H',Lat μ H μ' H'->Rep K cl μ' S H'->G a S μ' H'
 | .exn n S=>∀ μ' H' a,Lat μ H μ' H'->Rep K cl μ' S H'->μ'.pl[n]?=some a->xe a H'
 | .bad=>False
end
section
variable {K:PySem.W.Frag} {cl:Nat->Addr} {xe:Addr->Hp->Prop} {α β:Type} {μ μ1:Mp} {H H1:Hp}
theorem Post.later {r:R α} {G:α->Sto->Mp->Hp->Prop} (h:Post K cl xe μ H r G) (l:Lat μ H μ1 H1):Post K cl xe μ1 H1 r G:=by
 cases r with
 | ok a S=>exact λμ' H' k r=>h μ' H' (l.trans k) r
 | exn n S=>exact λμ' H' a k r e=>h μ' H' a (l.trans k) r e
 | bad=>exact h
theorem Post.imp {r:R α} {G G':α->Sto->Mp->Hp->Prop} (h:Post K cl xe μ H r G) (k:∀ a S μ' H',Lat μ H μ' H'->Rep K cl μ' S H'->G a S μ' H'->G' a S μ' H'):Post K cl xe μ H r G':=by
 cases r with
 | ok a S=>exact λμ' H' l r=>k a S μ' H' l r (h μ' H' l r)
 | exn n S=>exact h
 | bad=>exact h
theorem Post.bind {m:M α} {k:α->M β} {S:Sto} {G:β->Sto->Mp->Hp->Prop} (h:Post K cl xe μ H (bind m k S) G):Post K cl xe μ H (m S) (λa S1 μ1 H1=>Post K cl xe μ1 H1 (k a S1) G):=by
 unfold L3.bind at h
 cases e:m S with
 | ok a S1=>
  rw [e] at h
  exact λμ' H' l r=>Post.later h l
 | exn n S1=>rw [e] at h;exact h
 | bad=>rw [e] at h;exact h
theorem Post.ret {a:α} {S:Sto} {G:α->Sto->Mp->Hp->Prop} (h:Post K cl xe μ H (ret a S) G):∀ μ' H',Lat μ H μ' H'->Rep K cl μ' S H'->G a S μ' H':=h
end
def EnvOk (K:PySem.W.Frag) (μ:Mp) (H:Hp) (ρ:Env) (σ:L2.St):Prop:=ρ.length=σ.length/\∀ (i:Nat) (d:D),ρ[i]?=some (some d)->∃ v,σ[i]?=some (some v)/\RD K μ H d v
theorem EnvOk.later {K:PySem.W.Frag} {μ μ1:Mp} {H H1:Hp} {ρ:Env} {σ:L2.St} (h:EnvOk K μ H ρ σ) (l:Lat μ H μ1 H1):EnvOk K μ1 H1 ρ σ:=⟨h.1,λi d e=>let ⟨v,q,r⟩:=h.2 i d e;⟨v,q,r.later l⟩⟩
theorem EnvOk.set {K:PySem.W.Frag} {μ:Mp} {H:Hp} {ρ:Env} {σ:L2.St} {d:D} {v:V} (h:EnvOk K μ H ρ σ) (r:RD K μ H d v) (i:Nat):EnvOk K μ H (ρ.set i (some d)) (σ.set i (some v)):=by
 refine ⟨by simp [h.1],λj e he=>?_⟩
 by_cases hij:i=j
 ·subst hij
  have hi:i<ρ.length:=by
   have:=(List.getElem?_eq_some_iff.mp he).1
   simpa using this
  rw [List.getElem?_set_self hi] at he
  cases he
  exact ⟨v,List.getElem?_set_self (by rw [<- h.1];exact hi),r⟩
 ·rw [List.getElem?_set_ne hij] at he
  obtain ⟨u,q,r2⟩:=h.2 j e he
  exact ⟨u,by rw [List.getElem?_set_ne hij];exact q,r2⟩
section
variable (K:PySem.W.Frag) (cl:Nat->Addr) (xe:Addr->Hp->Prop)
def tD (f:Env->M D):TE:=λσ H Q=>∃ μ S ρ,EnvOk K μ H ρ σ/\Rep K cl μ S H/\Post K cl xe μ H (f ρ S) λd _ μ' H'=>∀ v,RD K μ' H' d v->Q v H'
def tDs (f:Env->M (List D)):TA:=λσ H Q=>∃ μ S ρ,EnvOk K μ H ρ σ/\Rep K cl μ S H/\Post K cl xe μ H (f ρ S) λds _ μ' H'=>∀ vs,RDs K μ' H' ds vs->Q vs H'
def tBo (f:Env->M Bool):TT:=λσ H Q=>∃ μ S ρ,EnvOk K μ H ρ σ/\Rep K cl μ S H/\Post K cl xe μ H (f ρ S) λb _ _ H'=>Q b H'
def rP2 (g:D->D->M D):R2:=λx y H Q=>∃ μ S d e,RD K μ H d x/\RD K μ H e y/\Rep K cl μ S H/\Post K cl xe μ H (g d e S) λr _ μ' H'=>∀ v,RD K μ' H' r v->Q v H'
def rPs (g:List D->M D):List V->Hp->VK->Prop:=λxs H Q=>∃ μ S ds,RDs K μ H ds xs/\Rep K cl μ S H/\Post K cl xe μ H (g ds S) λr _ μ' H'=>∀ v,RD K μ' H' r v->Q v H'
end
theorem PE.imp {X:Cx} {e:Expr} {t t':TE} (h:PE X e t) (k:∀ σ H Q,t' σ H Q->t σ H Q):PE X e t':=λpins s σ H Q I q=>h pins s σ H Q I (k σ H Q q)
theorem PT.imp {X:Cx} {e:Expr} {t t':TT} (h:PT X e t) (k:∀ σ H Q,t' σ H Q->t σ H Q):PT X e t':=λpins s σ H Q I q=>h pins s σ H Q I (k σ H Q q)
theorem PW.imp {X:Cx} {e:Expr} {t t':TT} (h:PW X e t) (k:∀ σ H Q,t' σ H Q->t σ H Q):PW X e t':=λw pins s σ H Q I q=>h w pins s σ H Q I (k σ H Q q)
theorem PA.imp {X:Cx} {es:List Expr} {t t':TA} (h:PA X es t) (k:∀ σ H Q,t' σ H Q->t σ H Q):PA X es t':=λp pins s σ H Q I q=>h p pins s σ H Q I (k σ H Q q)
theorem PS.imp {X:Cx} {st:Stmt} {t t':TS} (h:PS X st t) (k:∀ D σ H,t' D σ H->t D σ H):PS X st t':=λpins s σ H D I q=>h pins s σ H D I (k D σ H q)
theorem PSs.imp {X:Cx} {st:List Stmt} {t t':TS} (h:PSs X st t) (k:∀ D σ H,t' D σ H->t D σ H):PSs X st t':=λpins s σ H D I q=>h pins s σ H D I (k D σ H q)
section
variable {X:Cx} {cl:Nat->Addr} {xe:Addr->Hp->Prop} {a b c:Expr} {es:List Expr} {pos:Pos} {f g:Env->M D}
theorem f9 {e:Expr}:PE X e (tD X.K cl xe λ_=>bad):=λ_ _ _ _ _ _ ⟨_,_,_,_,_,p⟩=>p.elim
theorem a6z {e:Expr}:PT X e (tBo X.K cl xe λ_=>bad):=λ_ _ _ _ _ _ ⟨_,_,_,_,_,p⟩=>p.elim
theorem pw_bad {e:Expr}:PW X e (tBo X.K cl xe λ_=>bad):=λ_ _ _ _ _ _ _ ⟨_,_,_,_,_,p⟩=>p.elim
theorem M4 {e:Expr} {v:V} {d:D} (h:PE X e (tC v)) (r:∀ μ H,RD X.K μ H d v):PE X e (tD X.K cl xe λ_=>ret d):=PE.imp h λσ H Q ⟨μ,S,ρ,eo,rp,p⟩=>p.ret μ H (Lat.refl _ _) rp v (r μ H)
noncomputable def getD (i:Nat) (ρ:Env):M D:=match ρ[i]? with
 | some (some d)=>ret d
 | _=>bad
theorem c4n {i:Nat} {e:Expr} (h:PE X e (c2h i)):PE X e (tD X.K cl xe λρ=>getD i ρ):=PE.imp h λσ H Q ⟨μ,S,ρ,eo,rp,p⟩=>by
 cases e:ρ[i]? with
 | none=>simp only [getD,e] at p;exact p.elim
 | some o=>
  cases o with
  | none=>simp only [getD,e] at p;exact p.elim
  | some d=>
   simp only [getD,e] at p
   obtain ⟨v,q,r⟩:=eo.2 i d e
   exact ⟨v,q,p.ret μ H (Lat.refl _ _) rp v r⟩
theorem c35 {op:Operator} {h:D->D->M D} (ha:PE X a (tD X.K cl xe f)) (hb:PE X b (tD X.K cl xe g)) (ho:OpR X (binaryOp op) (rP2 X.K cl xe h)) :
  PE X (.BinOp a op b pos) (tD X.K cl xe λρ=>bind (f ρ) λx=>bind (g ρ) λy=>h x y):=PE.imp (c9v ho ha hb) λσ H Q ⟨μ,S,ρ,eo,rp,p⟩=>
 ⟨μ,S,ρ,eo,rp,p.bind.imp λx S1 μ1 H1 l1 r1 p1 v rv=>⟨μ1,S1,ρ,eo.later l1,r1,p1.bind.imp λy S2 μ2 H2 l2 r2 p2 u ru=>⟨μ2,S2,x,y,rv.later l2,ru,r2,p2⟩⟩⟩
theorem c2t {op:CmpOp} {h:D->D->M D} (ha:PE X a (tD X.K cl xe f)) (hb:PE X b (tD X.K cl xe g)) (ho:OpR X (compareOp op) (rP2 X.K cl xe h)) (hm:behindInMarks op b=false) :
  PE X (.Compare a [op] [b] pos) (tD X.K cl xe λρ=>bind (f ρ) λx=>bind (g ρ) λy=>h x y):=PE.imp (b9r ho ha hb hm) λσ H Q ⟨μ,S,ρ,eo,rp,p⟩=>
 ⟨μ,S,ρ,eo,rp,p.bind.imp λx S1 μ1 H1 l1 r1 p1 v rv=>⟨μ1,S1,ρ,eo.later l1,r1,p1.bind.imp λy S2 μ2 H2 l2 r2 p2 u ru=>⟨μ2,S2,x,y,rv.later l2,ru,r2,p2⟩⟩⟩
theorem d0a {h:D->D->M D} (ha:PE X a (tD X.K cl xe f)) (hb:PE X b (tD X.K cl xe g)) (ho:IxR X (rP2 X.K cl xe h)) (hs:a4b b) :
  PE X (.Subscript a b pos) (tD X.K cl xe λρ=>bind (f ρ) λx=>bind (g ρ) λy=>h x y):=PE.imp (d0q ho ha hb hs) λσ H Q ⟨μ,S,ρ,eo,rp,p⟩=>
 ⟨μ,S,ρ,eo,rp,p.bind.imp λx S1 μ1 H1 l1 r1 p1 v rv=>⟨μ1,S1,ρ,eo.later l1,r1,p1.bind.imp λy S2 μ2 H2 l2 r2 p2 u ru=>⟨μ2,S2,x,y,rv.later l2,ru,r2,p2⟩⟩⟩
theorem d0d {t:Env->M Bool} (hc:PT X c (tBo X.K cl xe t)) (ha:PE X a (tD X.K cl xe f)) (hb:PE X b (tD X.K cl xe g)):PE X (.IfExp c a b pos) (tD X.K cl xe λρ=>bind (t ρ) λq=>if q=true then f ρ else g ρ):=PE.imp (b3m hc ha hb) λσ H Q ⟨μ,S,ρ,eo,rp,p⟩=>
 ⟨μ,S,ρ,eo,rp,p.bind.imp λq S1 μ1 H1 l1 r1 p1=>by
  cases q with
  | true=>exact ⟨μ1,S1,ρ,eo.later l1,r1,p1⟩
  | false=>exact ⟨μ1,S1,ρ,eo.later l1,r1,p1⟩⟩
theorem c32 {t:Env->M Bool} (h:PT X a (tBo X.K cl xe t)):PT X (.UnaryOp .Not a pos) (tBo X.K cl xe λρ=>bind (t ρ) λq=>ret (!q)):=PT.imp (c56 h) λσ H Q ⟨μ,S,ρ,eo,rp,p⟩=>
 ⟨μ,S,ρ,eo,rp,p.bind.imp λq S1 μ1 H1 l1 r1 p1=>p1.ret μ1 H1 (Lat.refl _ _) r1⟩
theorem c0o {t:Env->M Bool} (h:PT X a (tBo X.K cl xe t)):PW X (.BoolOp .And [a] pos) (tBo X.K cl xe t):=pw_and1 h
theorem c51 {t:Env->M Bool} (h:PT X a (tBo X.K cl xe t)):PW X (.BoolOp .Or [a] pos) (tBo X.K cl xe t):=pw_or1 h
theorem c40 {t u:Env->M Bool} {rest:List Expr} (h:PT X a (tBo X.K cl xe t)) (k:PW X (.BoolOp .And (b :: rest) pos) (tBo X.K cl xe u)):PW X (.BoolOp .And (a :: b :: rest) pos) (tBo X.K cl xe λρ=>bind (t ρ) λq=>if q=true then u ρ else ret false):=PW.imp (pw_and h k) λσ H Q ⟨μ,S,ρ,eo,rp,p⟩=>
 ⟨μ,S,ρ,eo,rp,p.bind.imp λq S1 μ1 H1 l1 r1 p1=>by
  cases q with
  | true=>exact ⟨μ1,S1,ρ,eo.later l1,r1,p1⟩
  | false=>exact p1.ret μ1 H1 (Lat.refl _ _) r1⟩
theorem d0m {t u:Env->M Bool} {rest:List Expr} (h:PT X a (tBo X.K cl xe t)) (k:PW X (.BoolOp .Or (b :: rest) pos) (tBo X.K cl xe u)):PW X (.BoolOp .Or (a :: b :: rest) pos) (tBo X.K cl xe λρ=>bind (t ρ) λq=>if q=true then ret true else u ρ):=PW.imp (pw_or h k) λσ H Q ⟨μ,S,ρ,eo,rp,p⟩=>
 ⟨μ,S,ρ,eo,rp,p.bind.imp λq S1 μ1 H1 l1 r1 p1=>by
  cases q with
  | true=>exact p1.ret μ1 H1 (Lat.refl _ _) r1
  | false=>exact ⟨μ1,S1,ρ,eo.later l1,r1,p1⟩⟩
noncomputable def asB (d:D):M Bool:=match d with
 | .bl b=>ret b
 | _=>bad
theorem c4h {K:PySem.W.Frag} {μ1:Mp} {H1:Hp} {S:Sto} {d:D} {v:V} {Q:Bool->Hp->Prop} (rv:RD K μ1 H1 d v) (rp:Rep K cl μ1 S H1) (p:Post K cl xe μ1 H1 (asB d S) λb _ _ H'=>Q b H'):∃ k,v=.bl k/\Q k H1:=by
 cases rv with
 | bl b=>exact ⟨b,rfl,p.ret μ1 H1 (Lat.refl _ _) rp⟩
 | _=>exact p.elim
theorem c2g {op:CmpOp} {h:D->D->M D} (ha:PE X a (tD X.K cl xe f)) (hb:PE X b (tD X.K cl xe g)) (ho:OpR X (compareOp op) (rP2 X.K cl xe h)) (hm:behindInMarks op b=false) :
  PT X (.Compare a [op] [b] pos) (tBo X.K cl xe λρ=>bind (f ρ) λx=>bind (g ρ) λy=>bind (h x y) asB):=PT.imp (c0f ho ha hb hm) λσ H Q ⟨μ,S,ρ,eo,rp,p⟩=>
 ⟨μ,S,ρ,eo,rp,p.bind.imp λx S1 μ1 H1 l1 r1 p1 v rv=>⟨μ1,S1,ρ,eo.later l1,r1,p1.bind.imp λy S2 μ2 H2 l2 r2 p2 u ru=>⟨μ2,S2,x,y,rv.later l2,ru,r2,p2.bind.imp λz S3 μ3 H3 l3 r3 p3 w rw=>c4h rw r3 p3⟩⟩⟩
end
end L3
namespace HT
open PySem PySem.Spec PyProof.Rows
theorem noFill_tuple_mul:fillsNumberSlot (.type "tuple") "mul" = pure false:=
 PySem.fillsNumberSlot_seq (id:="tuple.__mul__") (r:=some (.builtin "tuple.__rmul__")) F.slot_tuple_mul.lookup (by decide +kernel) F.slot_tuple_rmul.lookup (by decide +kernel)
theorem repeat_tuple:seqRepeat? (.type "tuple")=pure (some (.builtin "tuple.__mul__")):=by
 unfold seqRepeat?
 rw [PySem.seqSlot_of (T:="tuple") (name:="__mul__") (id:="tuple.__mul__") F.slot_tuple_mul.lookup (by decide +kernel),PySem.seqSlot_of (T:="tuple") (name:="__rmul__") (id:="tuple.__rmul__") F.slot_tuple_rmul.lookup (by decide +kernel)]
 rfl
theorem int_rmul_tuple (a:Int) (t:Tok) (l:Addr) (items:Array Value) (n:Nat) (dd:Option Addr) (sl:Array (Option Value)) :
  Meets (Builtin.«int.__rmul__» ⟨[.int a t,.ref l],[]⟩) (λ_ R s=>s.heap.get? l=some { cls:=.type "tuple",dict:=dd,data:=.seq items n,slots:=sl }/\R (.ok (.ret Value.notImplemented)) s):=
 .of_wp λprog w A R s h=>by obtain ⟨hp,g,d,tk,os⟩:=s;obtain ⟨hl,h⟩:=h;wp_walk;exact ⟨_,rfl,h⟩
theorem tuple_mul1 (l:Addr) (items:Array Value) (n:Nat) (dd:Option Addr) (sl:Array (Option Value)) (u:Tok) :
  Meets (Builtin.«tuple.__mul__» ⟨[.ref l,.int 1 u],[]⟩) (λ_ R s=>s.heap.get? l=some { cls:=.type "tuple",dict:=dd,data:=.seq items n,slots:=sl }/\R (.ok (.ret (.ref l))) s):=
 .of_wp λprog w A R s h=>by obtain ⟨hp,g,d,tk,os⟩:=s;obtain ⟨hl,h⟩:=h;wp_walk;exact ⟨_,rfl,h⟩
theorem a7t {k:Int} (h1:1<=k) (h2:k<2 ^ 63):¬ ((decide (k < -(2 ^ 63))||decide (k≥2 ^ 63))=true):=by
 simp only [Bool.or_eq_true,decide_eq_true_eq]
 omega
theorem tuple_mul2 (l:Addr) (items:Array Value) (n:Nat) (dd:Option Addr) (sl:Array (Option Value)) (k:Int) (u:Tok) (h0:¬ (items.isEmpty||k==1)=true) (h1:2<=k) (h2:k<2 ^ 63) (hsz:items.size * k.toNat<=sizeLine) :
  Meets (Builtin.«tuple.__mul__» ⟨[.ref l,.int k u],[]⟩) (λ_ R s=>s.heap.get? l=some { cls:=.type "tuple",dict:=dd,data:=.seq items n,slots:=sl }/\R (.ok (.ret (.ref s.heap.objs.size))) { s with heap:=s.heap.push { cls:=.type "tuple",data:=.seq ((List.replicate k.toNat items).foldl (·++·) #[]) } }):=
 .of_wp λprog w A R s h=>by
  obtain ⟨hp,g,d,tk,os⟩:=s;obtain ⟨hl,h⟩:=h
  have c1:=a7t (k:=k) (by omega) h2
  have hsl:(sizeLine:Nat)=2 ^ 24:=sizeLine_eq
  have ek:((k.toNat:Nat):Int)=k:=Int.toNat_of_nonneg (by omega)
  have em:(items.size:Int) * k=((items.size * k.toNat:Nat):Int):=by rw [Int.natCast_mul,ek]
  have c2:¬ (decide (k<=0)||items.isEmpty)=true:=by
   simp only [Bool.or_eq_true,decide_eq_true_eq] at h0 ⊢
   intro z
   rcases z with z | z
   ·omega
   ·exact h0 (.inl z)
  have c3:¬ ((items.size:Int) * k > (2 ^ 63-1) / 8):=by rw [em];omega
  have c4:¬ Builtin.Tuple.tupleTooMany ((items.size:Int) * k)=true:=by
   rw [em]
   simp only [Builtin.Tuple.tupleTooMany,decide_eq_true_eq]
   omega
  have hz:((List.replicate k.toNat items).foldl (·++·) #[]).size<=sizeLine:=by
   rw [AutoListH.size_joined,Nat.mul_comm];simpa using hsz
  wp_walk
  rw [if_neg c1]
  have ht:IsTup hp l items:=⟨_,hl,rfl,n,rfl⟩
  show wpAny _ _ (Builtin.Tuple.tupleItemsOf (.ref l) >>= _) _ _ _
  refine wpAny_bind (tupleItemsOf_ ht ?_)
  show wpAny _ _ (if (items.isEmpty||k==1)=true then _ else _) _ _ _
  rw [if_neg h0]
  show wpAny _ _ (if (decide (k<=0)||items.isEmpty)=true then _ else _) _ _ _
  rw [if_neg c2]
  show wpAny _ _ (if (items.size:Int) * k > (2 ^ 63-1) / 8 then _ else _) _ _ _
  rw [if_neg c3]
  show wpAny _ _ (if Builtin.Tuple.tupleTooMany ((items.size:Int) * k)=true then _ else _) _ _ _
  rw [if_neg c4]
  refine wpAny_bind (m:=Builtin.Tuple.tupleExact _) (wpAny_newObj_type ?_ hz)
  exact wpAny_pure ⟨_,rfl,h⟩
end HT
namespace L2
open PySem PySem.Spec PyProof.Rows
section
variable {X:Cx}
theorem b8c:OpR X (binaryOp .Mult) (λx y H Q=>∃ a k xs,x=.ref a/\y=.int k/\SqT X.K H a xs/\xs≠[]/\1<=k/\k<2 ^ 63/\xs.length * k.toNat<=sizeLine/\(k=1->Q (.ref a) H)/\(k≠1->∀ p,H p=none->Q (.ref p) (upd H p (.tup (List.replicate k.toNat xs).flatten)))):=by
 intro pins s σ H x y v u Q I rx ry h
 obtain ⟨a,k,xs,rfl,rfl,ha,hx,k1,k2,hz,q1,q2⟩:=h
 cases rx
 obtain ⟨t,rfl⟩:=ry
 obtain ⟨its,r1,p1,_⟩:=I.tuple ha
 obtain ⟨⟨cls,dd,data,sl⟩,ho,hc,n,hd⟩:=id p1
 simp only at hc hd
 subst hc hd
 have hl:=r1.length
 by_cases he:k=1
 ·subst he
  exact wpAny_binaryOp_repeat_ref (T:="tuple") (U:="int") (by decide) ⟨_,ho,rfl⟩ (λs'=>typeIs_int s' 1 t) HT.noFill_tuple_mul F.fills_int_mul F.slot_int_rmul HT.repeat_tuple F.slot_int_index.lookup
   (call_meets F.slot_int_rmul (typeIs_int s 1 t) F.entry_int_rmul (F.args_int_rmul_2 _ _) (HT.int_rmul_tuple 1 t a its.toArray n dd sl)
    ⟨ho,rfl,⟨_,ho,rfl⟩,call_meets F.slot_tuple_mul ⟨_,ho,rfl⟩ F.entry_tuple_mul (F.args_tuple_mul_2 _ _) (HT.tuple_mul1 a its.toArray n dd sl t) ⟨ho,.ref a,H,I,rfl,q1 rfl⟩⟩)
 ·have hne:its≠[]:=λz=>hx (r1.nil_iff.mp z)
  have h0:¬ (its.toArray.isEmpty||k==1)=true:=by
   simp only [Bool.or_eq_true,beq_iff_eq]
   rintro (z | z)
   ·exact hne (by simpa using z)
   ·exact he z
  refine wpAny_binaryOp_repeat_ref (T:="tuple") (U:="int") (by decide) ⟨_,ho,rfl⟩ (λs'=>typeIs_int s' k t) HT.noFill_tuple_mul F.fills_int_mul F.slot_int_rmul HT.repeat_tuple F.slot_int_index.lookup
   (call_meets F.slot_int_rmul (typeIs_int s k t) F.entry_int_rmul (F.args_int_rmul_2 _ _) (HT.int_rmul_tuple k t a its.toArray n dd sl)
    ⟨ho,rfl,⟨_,ho,rfl⟩,call_meets F.slot_tuple_mul ⟨_,ho,rfl⟩ F.entry_tuple_mul (F.args_tuple_mul_2 _ _) (HT.tuple_mul2 a its.toArray n dd sl k t h0 (by omega) k2 (by rw [List.size_toArray,<- hl];exact hz)) ⟨ho,?_⟩⟩)
  have f0:List.foldl (λx1 x2=>x1++x2) #[] (List.replicate k.toNat its.toArray)=(List.replicate k.toNat its).flatten.toArray:=by
   have:=X3 its k.toNat []
   rw [List.nil_append] at this
   exact this
  rw [f0]
  refine ⟨.ref s.heap.objs.size,_,I.laid (t':=s.toks) (o:=.tup (List.replicate k.toNat xs).flatten) (λb ob q=>Heap.get?_push_of_some _ q) (Nat.le_refl _) ?_,rfl,q2 he _ (I.hok.fresh (Nat.le_refl _))⟩
  exact ⟨by rw [a8s,Nat.mul_comm];exact hz,_,r1.rep k.toNat,TupN.new _ _⟩
end
end L2
namespace L3
open PySem PySem.Spec PyProof.Rows L2
noncomputable def u4 (d:D):M (List D):=match d with
 | .lst ds=>ret ds
 | .ref n=>λS=>match S[n]? with
  | some (.lst ds)=>.ok ds S
  | _=>.bad
 | _=>bad
noncomputable def Z7 (d:D):M (List D):=match d with
 | .tup ds=>ret ds
 | .scr ds=>ret ds
 | d=>u4 d
section
variable {K:PySem.W.Frag} {cl:Nat->Addr} {xe:Addr->Hp->Prop} {μ:Mp} {H:Hp} {S:Sto} {α:Type}
theorem v3 {d:D} {v:V} {G:List D->Sto->Mp->Hp->Prop} (rd:RD K μ H d v) (rp:Rep K cl μ S H) (p:Post K cl xe μ H (u4 d S) G):∃ a xs ds,v=.ref a/\H a=some (.lst xs)/\RDs K μ H ds xs/\u4 d S=.ok ds S:=by
 cases rd with
 | lst h r=>exact ⟨_,_,_,rfl,h.1,r,rfl⟩
 | ref e=>
  rename_i n a
  simp only [u4] at p
  cases q:S[n]? with
  | none=>rw [q] at p;exact p.elim
  | some o=>
   cases o with
   | lst ds=>
    obtain ⟨xs,h1,h2⟩:=rp.ats n _ a q e
    exact ⟨a,xs,ds,rfl,h1,h2,by simp only [u4,q]⟩
   | dct _=>rw [q] at p;exact p.elim
   | exc _ _=>rw [q] at p;exact p.elim
 | _=>exact p.elim
theorem a42 {d:D} {v:V} {G:List D->Sto->Mp->Hp->Prop} (rd:RD K μ H d v) (rp:Rep K cl μ S H) (p:Post K cl xe μ H (Z7 d S) G):∃ a xs ds,v=.ref a/\(SqL K H a xs\/SqT K H a xs)/\RDs K μ H ds xs/\Z7 d S=.ok ds S:=by
 cases rd with
 | tup h r=>exact ⟨_,_,_,rfl,.inr h.sq,r,rfl⟩
 | scr h r=>exact ⟨_,_,_,rfl,.inl h.sq,r,rfl⟩
 | lst h r=>exact ⟨_,_,_,rfl,.inl h.sq,r,rfl⟩
 | ref e=>
  obtain ⟨a,xs,ds,h1,h2,h3,h4⟩:=v3 (.ref e) rp p
  exact ⟨a,xs,ds,h1,.inl (.inl (.inl h2)),h3,h4⟩
 | _=>exact p.elim
theorem Post.ok_bind {β:Type} {m:M α} {k:α->M β} {a:α} {G:β->Sto->Mp->Hp->Prop} (e:m S=.ok a S) (p:Post K cl xe μ H (L3.bind m k S) G):Post K cl xe μ H (k a S) G:=by
 unfold L3.bind at p;rw [e] at p;exact p
theorem G3 {ds:List D} {xs:List V} {p:Addr} (rp:Rep K cl μ S H) (r:RDs K μ H ds xs) (hp:H p=none):Lat μ H μ (upd H p (.tup xs))/\Rep K cl μ S (upd H p (.tup xs))/\RD K μ (upd H p (.tup xs)) (.tup ds) (.ref p):=
 ⟨Lat.laid hp,rp.laid hp,.tup (.inl ⟨.inl c8,rp.notin hp,rp.notrs hp⟩) (r.later (Lat.laid hp))⟩
theorem G7 {ds:List D} {xs:List V} {p:Addr} (rp:Rep K cl μ S H) (r:RDs K μ H ds xs) (hp:H p=none):Lat μ H μ (upd H p (.lst xs))/\Rep K cl μ S (upd H p (.lst xs))/\RD K μ (upd H p (.lst xs)) (.lst ds) (.ref p):=
 ⟨Lat.laid hp,rp.laid hp,.lst ⟨c8,rp.notin hp,rp.notrs hp⟩ (r.later (Lat.laid hp))⟩
theorem Post.guard {c:Prop} [Decidable c] {a:α} {G:α->Sto->Mp->Hp->Prop} (p:Post K cl xe μ H ((if c then L3.ret a else L3.bad) S) G):c/\∀ μ' H',Lat μ H μ' H'->Rep K cl μ' S H'->G a S μ' H':=by
 by_cases hc:c
 ·rw [if_pos hc] at p;exact ⟨hc,p⟩
 ·rw [if_neg hc] at p;exact p.elim
end
noncomputable def k7 {α β:Type} (f:α->Option β):List α->Option (List β)
 | []=>some []
 | x :: xs=>match f x,k7 f xs with
  | some y,some ys=>some (y :: ys)
  | _,_=>none
noncomputable def i9:Nat->Sto->D->Option PyData
 | 0,_,_=>none
 | n+1,S,d=>match d with
  | .non=>some .none
  | .bl b=>some (.bool b)
  | .int i=>some (.int i)
  | .str x=>some (.str x)
  | .tup ds=>(k7 (i9 n S) ds).map .tuple
  | .lst ds=>(k7 (i9 n S) ds).map .list
  | .scr ds=>(k7 (i9 n S) ds).map .list
  | .ref k=>match S[k]? with
   | some (.lst ds)=>(k7 (i9 n S) ds).map .list
   | _=>none
theorem a6d {K:PySem.W.Frag} {μ:Mp} {H:Hp} {S:Sto} {n:Nat} (ih:∀ {d:D} {v:V} {q:PyData},i9 n S d=some q->RD K μ H d v->DAt K H v q):∀ {ds:List D} {vs:List V} {qs:List PyData},k7 (i9 n S) ds=some qs->RDs K μ H ds vs->DAll K H vs qs
 | [],_,qs,e,r=>by cases r;cases e;exact .nil
 | d :: ds,_,qs,e,r=>by
  cases r with
  | cons h t=>
   simp only [k7] at e
   cases e1:i9 n S d with
   | none=>rw [e1] at e;cases e
   | some q=>
    cases e2:k7 (i9 n S) ds with
    | none=>rw [e1,e2] at e;cases e
    | some qs'=>
     rw [e1,e2] at e;cases e
     exact .cons (ih e1 h) (a6d ih e2 t)
theorem A8 {K:PySem.W.Frag} {cl:Nat->Addr} {μ:Mp} {H:Hp} {S:Sto} (rp:Rep K cl μ S H):∀ (n:Nat) {d:D} {v:V} {q:PyData},i9 n S d=some q->RD K μ H d v->DAt K H v q
 | 0,_,_,_,e,_=>by cases e
 | n+1,d,v,q,e,r=>by
  have all:∀ {ds:List D} {vs:List V} {qs:List PyData},k7 (i9 n S) ds=some qs->RDs K μ H ds vs->DAll K H vs qs:=λe r=>a6d (λe r=>A8 rp n e r) e r
  have um:∀ {ds:List D} {C:List PyData->PyData},(k7 (i9 n S) ds).map C=some q->∃ qs,k7 (i9 n S) ds=some qs/\q=C qs:=λ{ds C} e=>by
   cases e1:k7 (i9 n S) ds with
   | none=>rw [e1] at e;cases e
   | some qs=>rw [e1] at e;cases e;exact ⟨qs,rfl,rfl⟩
  cases r with
  | non=>cases e;exact .non
  | bl b=>cases e;exact .bl b
  | int i=>cases e;exact .int i
  | str x=>cases e;exact .str x
  | tup h t=>obtain ⟨qs,e1,rfl⟩:=um e;exact .tup h.sq (all e1 t)
  | lst h t=>obtain ⟨qs,e1,rfl⟩:=um e;exact .lst h.sq (all e1 t)
  | scr h t=>obtain ⟨qs,e1,rfl⟩:=um e;exact .lst h.sq (all e1 t)
  | ref h=>
   rename_i k a
   simp only [i9] at e
   cases q1:S[k]? with
   | none=>rw [q1] at e;cases e
   | some o=>
    rw [q1] at e
    cases o with
    | lst ds=>
     obtain ⟨qs,e1,rfl⟩:=um e
     obtain ⟨xs,h1,h2⟩:=rp.ats k _ a q1 h
     exact .lst (.inl (.inl h1)) (all e1 h2)
    | dct _=>cases e
    | exc _ _=>cases e
noncomputable def d8 (x y:D):M D:=match x,y with
 | .int i,.int j=>ret (.int (i+j))
 | .str a,.str b=>if a.length+b.length<=sizeLine then ret (.str (a++b)) else bad
 | .tup xs,.tup ys=>if xs.length+ys.length<=sizeLine then ret (.tup (xs++ys)) else bad
 | x,y=>bind (u4 x) λxs=>bind (u4 y) λys=>if xs.length+ys.length<=sizeLine then ret (.lst (xs++ys)) else bad
noncomputable def a74 (x y:D):M D:=match x,y with
 | .int i,.int j=>ret (.int (i-j))
 | _,_=>bad
instance (i j:Int):Decidable (CMul i j):=by unfold CMul;infer_instance
instance (i j:Int):Decidable (b4e i j):=by unfold b4e;infer_instance
instance (i j:Int):Decidable (b98 i j):=by unfold b98;infer_instance
noncomputable def a16 (x y:D):M D:=match x,y with
 | .int i,.int j=>if 0<j then ret (.int (i % j)) else bad
 | _,_=>bad
noncomputable def K2 (x y:D):M D:=match x,y with
 | .int i,.int j=>if b4e i j then ret (.int (i / j)) else bad
 | _,_=>bad
noncomputable def b7l (x y:D):M D:=match x,y with
 | .int i,.int j=>if b98 i j then ret (.int (i ^ j.toNat)) else bad
 | _,_=>bad
noncomputable def C9 (x y:D):M D:=match x,y with
 | .int i,.int j=>if CMul i j then ret (.int (i * j)) else bad
 | .tup ds,.int k=>if (ds≠[]/\1<=k/\k<2 ^ 63)/\ds.length * k.toNat<=sizeLine then ret (.tup (List.replicate k.toNat ds).flatten) else bad
 | x,.int k=>bind (u4 x) λxs=>if (-(2 ^ 63)<=k/\k<2 ^ 63)/\xs.length * k.toNat<=sizeLine then ret (.lst (List.replicate k.toNat xs).flatten) else bad
 | _,_=>bad
section
variable {X:Cx} {cl:Nat->Addr} {xe:Addr->Hp->Prop}
theorem b2g:OpR X (binaryOp .Add) (λx y H Q=>∃ a b ys,x=.ref a/\y=.ref b/\SqT X.K H a []/\SqT X.K H b ys/\Q (.ref b) H):=by
 intro pins s σ H x y v u Q I rx ry h
 obtain ⟨a,b,ys,rfl,rfl,ha,hb,q⟩:=h
 cases rx
 cases ry
 obtain ⟨its,r1,p1,_⟩:=I.tuple ha
 obtain ⟨its2,r2,p2,_⟩:=I.tuple hb
 cases r1
 obtain ⟨⟨cls,dd,data,sl⟩,ho,hc,n,hd⟩:=id p1
 obtain ⟨⟨cls2,dd2,data2,sl2⟩,ho2,hc2,n2,hd2⟩:=id p2
 simp only at hc hd hc2 hd2
 subst hc hd hc2 hd2
 exact concat_meets ⟨_,ho,rfl⟩ ⟨_,ho2,rfl⟩ noFill_tuple_add seq_tuple_add PySem.F.slot_tuple_add PySem.F.entry_tuple_add (PySem.F.args_tuple_add_2 _ _)
   (tuple_addW0 a b #[] its2.toArray n n2 dd dd2 sl sl2 rfl) ⟨ho,ho2,⟨.ref b,H,I,rfl,q⟩⟩
theorem c74:OpR X (binaryOp .Add) (rP2 X.K cl xe d8):=by
 intro pins s σ H x y v u Q I rx ry ⟨μ,S,d,e,rd,re,rp,p⟩
 have L:Post X.K cl xe μ H (bind (u4 d) (λxs=>bind (u4 e) λys=>if xs.length+ys.length<=sizeLine then ret (.lst (xs++ys)) else bad) S) (λr _ μ' H'=>∀ v,RD X.K μ' H' r v->Q v H')->wpAny (model X.prog X.w) X.A (binaryOp .Add v u) (EP X pins σ Q) X.xe s:=λp=>by
  obtain ⟨a,xs,ds,rfl,h1,r1,e1⟩:=v3 rd rp p.bind
  have p:=p.ok_bind e1
  obtain ⟨b,ys,es,rfl,h2,r2,e2⟩:=v3 re rp p.bind
  obtain ⟨hl,p⟩:=(p.ok_bind e2).guard
  refine c3a pins s σ H _ _ v u Q I rx ry ⟨a,b,xs,ys,rfl,rfl,h1,h2,by rw [<- r1.length,<- r2.length];exact hl,λz hz=>?_⟩
  obtain ⟨l,rp2,rd2⟩:=G7 rp (r1.append r2) hz
  exact p μ _ l rp2 _ rd2
 cases d <;> cases e <;> try (exact L p)
 case int.int i j=>cases rd;cases re;exact c6b pins s σ H _ _ v u Q I rx ry ⟨i,j,rfl,rfl,p μ H (Lat.refl _ _) rp _ (.int _)⟩
 case str.str i j=>
  cases rd;cases re
  obtain ⟨hl,p⟩:=Post.guard p
  exact a73 pins s σ H _ _ v u Q I rx ry ⟨i,j,rfl,rfl,hl,p μ H (Lat.refl _ _) rp _ (.str _)⟩
 case tup.tup ds es=>
  obtain ⟨hl,p⟩:=Post.guard p
  cases rd with
  | tup h1 r1=>
   cases re with
   | tup h2 r2=>
    rename_i a xs b ys
    cases ds with
    | nil=>
     cases r1
     exact b2g pins s σ H _ _ v u Q I rx ry ⟨a,b,ys,rfl,rfl,h1.sq,h2.sq,p μ H (Lat.refl _ _) rp _ (.tup h2 r2)⟩
    | cons d ds=>
     cases r1 with
     | cons q1 q2=>
      rename_i v1 vs1
      refine c0b pins s σ H _ _ v u Q I rx ry ⟨a,b,_,ys,rfl,rfl,h1.sq,h2.sq,by simp,by rw [<- r2.length];simpa [q2.length] using hl,λz=>?_,λz w hw=>?_⟩
      ·subst z
       cases r2
       rw [List.append_nil] at p
       exact p μ H (Lat.refl _ _) rp _ (.tup h1 (.cons q1 q2))
      ·obtain ⟨l,rp2,rd2⟩:=G3 rp ((RDs.cons q1 q2).append r2) hw
       exact p μ _ l rp2 _ rd2
theorem c8g:OpR X (binaryOp .Sub) (rP2 X.K cl xe a74):=by
 intro pins s σ H x y v u Q I rx ry ⟨μ,S,d,e,rd,re,rp,p⟩
 cases d <;> cases e <;> try (exact False.elim p)
 case int.int i j=>cases rd;cases re;exact c2q pins s σ H _ _ v u Q I rx ry ⟨i,j,rfl,rfl,p μ H (Lat.refl _ _) rp _ (.int _)⟩
theorem c71:OpR X (binaryOp .Mod) (rP2 X.K cl xe a16):=by
 intro pins s σ H x y v u Q I rx ry ⟨μ,S,d,e,rd,re,rp,p⟩
 cases d <;> cases e <;> try (exact False.elim p)
 case int.int i j=>
  cases rd;cases re
  obtain ⟨hl,p⟩:=Post.guard p
  exact c41 pins s σ H _ _ v u Q I rx ry ⟨i,j,rfl,rfl,hl,p μ H (Lat.refl _ _) rp _ (.int _)⟩
theorem c3z:OpR X (binaryOp .FloorDiv) (rP2 X.K cl xe K2):=by
 intro pins s σ H x y v u Q I rx ry ⟨μ,S,d,e,rd,re,rp,p⟩
 cases d <;> cases e <;> try (exact False.elim p)
 case int.int i j=>
  cases rd;cases re
  obtain ⟨hl,p⟩:=Post.guard p
  exact c0a pins s σ H _ _ v u Q I rx ry ⟨i,j,rfl,rfl,hl,p μ H (Lat.refl _ _) rp _ (.int _)⟩
theorem c9q:OpR X (binaryOp .Pow) (rP2 X.K cl xe b7l):=by
 intro pins s σ H x y v u Q I rx ry ⟨μ,S,d,e,rd,re,rp,p⟩
 cases d <;> cases e <;> try (exact False.elim p)
 case int.int i j=>
  cases rd;cases re
  obtain ⟨hl,p⟩:=Post.guard p
  exact c3j pins s σ H _ _ v u Q I rx ry ⟨i,j,rfl,rfl,hl,p μ H (Lat.refl _ _) rp _ (.int _)⟩
theorem c78:OpR X (binaryOp .Mult) (rP2 X.K cl xe C9):=by
 intro pins s σ H x y v u Q I rx ry ⟨μ,S,d,e,rd,re,rp,p⟩
 have L:∀ k:Int,e=.int k->Post X.K cl xe μ H (bind (u4 d) (λxs=>if (-(2 ^ 63)<=k/\k<2 ^ 63)/\xs.length * k.toNat<=sizeLine then ret (.lst (List.replicate k.toNat xs).flatten) else bad) S) (λr _ μ' H'=>∀ v,RD X.K μ' H' r v->Q v H')->wpAny (model X.prog X.w) X.A (binaryOp .Mult v u) (EP X pins σ Q) X.xe s:=λk he q=>by
  clear p
  subst he
  cases re
  obtain ⟨a,xs,ds,rfl,h1,r1,e1⟩:=v3 rd rp q.bind
  obtain ⟨⟨⟨k1,k2⟩,hl⟩,p⟩:=(q.ok_bind e1).guard
  refine c6i pins s σ H _ _ v u Q I rx ry ⟨a,k,xs,rfl,rfl,h1,k1,k2,by rw [<- r1.length];exact hl,λz hz=>?_⟩
  obtain ⟨l,rp2,rd2⟩:=G7 rp (r1.rep k.toNat) hz
  exact p μ _ l rp2 _ rd2
 cases d <;> cases e <;> try (exact False.elim p)
 case int.int i j=>
  cases rd;cases re
  obtain ⟨hl,p⟩:=Post.guard p
  exact c6e pins s σ H _ _ v u Q I rx ry ⟨i,j,rfl,rfl,hl,p μ H (Lat.refl _ _) rp _ (.int _)⟩
 case tup.int ds k=>
  cases re
  obtain ⟨⟨⟨k0,k1,k2⟩,hl⟩,p⟩:=Post.guard p
  cases rd with
  | tup h1 r1=>
   rename_i a xs
   have hx:xs≠[]:=λz=>by subst z;cases r1;exact k0 rfl
   refine b8c pins s σ H _ _ v u Q I rx ry ⟨a,k,xs,rfl,rfl,h1.sq,hx,k1,k2,by rw [<- r1.length];exact hl,λz=>?_,λz w hw=>?_⟩
   ·subst z
    have e:(List.replicate (1:Int).toNat ds).flatten=ds:=by simp
    rw [e] at p
    exact p μ H (Lat.refl _ _) rp _ (.tup h1 r1)
   ·obtain ⟨l,rp2,rd2⟩:=G3 rp (r1.rep k.toNat) hw
    exact p μ _ l rp2 _ rd2
 all_goals exact L _ rfl p
end
noncomputable def eqP (neg:Bool) (x y:D):M D:=λS=>match i9 64 S x,i9 64 S y with
 | some p,some q=>(if p.canLay0=true/\q.canLay0=true/\min p.depth q.depth<=60 then ret (.bl (if neg then !PyData.eqv p q else PyData.eqv p q)) else bad) S
 | _,_=>.bad
noncomputable def eqD (neg:Bool) (x y:D):M D:=match x,y with
 | .str a,.str b=>ret (.bl (if neg then !decide (a=b) else decide (a=b)))
 | .int a,.int b=>ret (.bl (if neg then !decide (a=b) else decide (a=b)))
 | x,y=>eqP neg x y
noncomputable def b2r (f:Int->Int->Bool) (x y:D):M D:=match x,y with
 | .int i,.int j=>ret (.bl (f i j))
 | _,_=>bad
noncomputable def a6l (neg:Bool) (d:PyData) (ps:List PyData):M D:=if d.canLay0=true/\PyData.canLayAll0 ps=true/\min (PyData.depthAll ps) d.depth<=60 then ret (.bl (if neg then !(ps.any λy=>PyData.eqv y d) else ps.any λy=>PyData.eqv y d)) else bad
noncomputable def inD (neg:Bool) (x y:D):M D:=λS=>match i9 64 S x,i9 64 S y with
 | some d,some (.list ps)=>a6l neg d ps S
 | some d,some (.tuple ps)=>a6l neg d ps S
 | _,_=>.bad
noncomputable def isD (neg:Bool) (x y:D):M D:=match y with
 | .non=>ret (.bl (match x with
  | .non=>!neg
  | _=>neg))
 | .bl b=>ret (.bl (match x with
  | .bl c=>if neg then !(c==b) else c==b
  | _=>neg))
 | _=>bad
section
variable {X:Cx} {cl:Nat->Addr} {xe:Addr->Hp->Prop}
theorem d18 (hu:X.A.units+64<cLine):OpR X (compareOp .Eq) (rP2 X.K cl xe (eqD false)):=by
 intro pins s σ H x y v u Q I rx ry ⟨μ,S,d,e,rd,re,rp,p⟩
 have gen:Post X.K cl xe μ H (eqP false d e S) (λr _ μ' H'=>∀ v,RD X.K μ' H' r v->Q v H')->wpAny (model X.prog X.w) X.A (compareOp .Eq v u) (EP X pins σ Q) X.xe s:=λp=>by
  simp only [eqP] at p
  cases e1:i9 64 S d with
  | none=>rw [e1] at p;exact p.elim
  | some a=>
   cases e2:i9 64 S e with
   | none=>rw [e1,e2] at p;exact p.elim
   | some b=>
    rw [e1,e2] at p
    obtain ⟨⟨c1,c2,c3⟩,p⟩:=Post.guard p
    exact c5j hu pins s σ H _ _ v u Q I rx ry ⟨a,b,A8 rp 64 e1 rd,A8 rp 64 e2 re,c1,c2,c3,p μ H (Lat.refl _ _) rp _ (.bl _)⟩
 cases d <;> cases e <;> try (exact gen p)
 case str.str a b=>
  cases rd;cases re
  exact c81 pins s σ H _ _ v u Q I rx ry ⟨rfl,by rw [show decide (V.str a=V.str b)=decide (a=b) by rw [Bool.eq_iff_iff];simp];exact p μ H (Lat.refl _ _) rp _ (.bl _)⟩
theorem d1z (hu:X.A.units+64<cLine):OpR X (compareOp .NotEq) (rP2 X.K cl xe (eqD true)):=by
 intro pins s σ H x y v u Q I rx ry ⟨μ,S,d,e,rd,re,rp,p⟩
 have gen:Post X.K cl xe μ H (eqP true d e S) (λr _ μ' H'=>∀ v,RD X.K μ' H' r v->Q v H')->wpAny (model X.prog X.w) X.A (compareOp .NotEq v u) (EP X pins σ Q) X.xe s:=λp=>by
  simp only [eqP] at p
  cases e1:i9 64 S d with
  | none=>rw [e1] at p;exact p.elim
  | some a=>
   cases e2:i9 64 S e with
   | none=>rw [e1,e2] at p;exact p.elim
   | some b=>
    rw [e1,e2] at p
    obtain ⟨⟨c1,c2,c3⟩,p⟩:=Post.guard p
    exact c3s hu pins s σ H _ _ v u Q I rx ry ⟨a,b,A8 rp 64 e1 rd,A8 rp 64 e2 re,c1,c2,c3,p μ H (Lat.refl _ _) rp _ (.bl _)⟩
 cases d <;> cases e <;> try (exact gen p)
 case str.str a b=>
  cases rd;cases re
  exact c8w pins s σ H _ _ v u Q I rx ry ⟨rfl,by rw [show decide (V.str a=V.str b)=decide (a=b) by rw [Bool.eq_iff_iff];simp];exact p μ H (Lat.refl _ _) rp _ (.bl _)⟩
theorem a8w {op:CmpOp} {f:Int->Int->Bool} (ho:OpR X (compareOp op) (rI0 λi j=>.bl (f i j))):OpR X (compareOp op) (rP2 X.K cl xe (b2r f)):=by
 intro pins s σ H x y v u Q I rx ry ⟨μ,S,d,e,rd,re,rp,p⟩
 cases d <;> cases e <;> try (exact False.elim p)
 case int.int i j=>cases rd;cases re;exact ho pins s σ H _ _ v u Q I rx ry ⟨i,j,rfl,rfl,p μ H (Lat.refl _ _) rp _ (.bl _)⟩
theorem a20 {neg:Bool} (hu:X.A.units+80<cLine) {pins:List (Addr×Obj)} {s:Shared} {σ:L2.St} {H:Hp} {x y:V} {v u:Value} {Q:VK} {d:PyData} {ps:List PyData} (I:Inv X pins σ H s) (rx:RelV x v) (ry:RelV y u)
  (hd:DAt X.K H x d) (hy:DAt X.K H y (.list ps)\/DAt X.K H y (.tuple ps)) (c:d.canLay0=true/\PyData.canLayAll0 ps=true/\min (PyData.depthAll ps) d.depth<=60)
  (q:Q (.bl (if neg then !(ps.any λy=>PyData.eqv y d) else ps.any λy=>PyData.eqv y d)) H):wpAny (model X.prog X.w) X.A (compareOp (if neg then .NotIn else .In) v u) (EP X pins σ Q) X.xe s:=by
 obtain ⟨c1,c2,c3⟩:=c
 obtain ⟨as,r1⟩:=hd.reads I rx
 have hu':X.A.units+1+min (PyData.depthAll ps) d.depth<cLine:=by omega
 rcases hy with hy | hy
 ·obtain ⟨bs,r2⟩:=hy.reads I ry
  cases neg with
  | false=>exact SeqAt.in_list_reads r2 r1 c2 c1 hu' ⟨.bl _,H,I,rfl,q⟩
  | true=>exact SeqAt.notIn_list_reads r2 r1 c2 c1 hu' ⟨.bl _,H,I,rfl,q⟩
 ·obtain ⟨bs,r2⟩:=hy.reads I ry
  cases neg with
  | false=>exact SeqAt.in_tuple_reads r2 r1 c2 c1 hu' ⟨.bl _,H,I,rfl,q⟩
  | true=>exact SeqAt.notIn_tuple_reads r2 r1 c2 c1 hu' ⟨.bl _,H,I,rfl,q⟩
theorem c94 (neg:Bool) (hu:X.A.units+80<cLine):OpR X (compareOp (if neg then .NotIn else .In)) (rP2 X.K cl xe (inD neg)):=by
 intro pins s σ H x y v u Q I rx ry ⟨μ,S,d,e,rd,re,rp,p⟩
 simp only [inD] at p
 cases e1:i9 64 S d with
 | none=>rw [e1] at p;exact p.elim
 | some a=>
  cases e2:i9 64 S e with
  | none=>rw [e1,e2] at p;exact p.elim
  | some b=>
   rw [e1,e2] at p
   have ha:=A8 rp 64 e1 rd
   have hb:=A8 rp 64 e2 re
   cases b with
   | list ps=>obtain ⟨c,p⟩:=Post.guard p;exact a20 hu I rx ry ha (.inl hb) c (p μ H (Lat.refl _ _) rp _ (.bl _))
   | tuple ps=>obtain ⟨c,p⟩:=Post.guard p;exact a20 hu I rx ry ha (.inr hb) c (p μ H (Lat.refl _ _) rp _ (.bl _))
   | _=>exact p.elim
theorem c73 (neg:Bool):OpR X (compareOp (if neg then .IsNot else .Is)) (rP2 X.K cl xe (isD neg)):=by
 intro pins s σ H x y v u Q I rx ry ⟨μ,S,d,e,rd,re,rp,p⟩
 have fin:∀ b:Bool,(∀ μ' H',Lat μ H μ' H'->Rep X.K cl μ' S H'->∀ v,RD X.K μ' H' (.bl b) v->Q v H')->∀ c,c=b->EP X pins σ Q (.bool c) s:=λb p c e=>⟨.bl b,H,I,by rw [e];rfl,p μ H (Lat.refl _ _) rp _ (.bl _)⟩
 cases re <;> try (exact False.elim p)
 case non=>
  cases ry
  cases neg with
  | false=>
   refine is_none_gen (fin _ p _ ?_)
   cases rd <;> first
    | (cases rx;rfl)
    | (obtain ⟨t,rfl⟩:=rx;rfl)
  | true=>
   refine isnot_none_gen (fin _ p _ ?_)
   cases rd <;> first
    | (cases rx;rfl)
    | (obtain ⟨t,rfl⟩:=rx;rfl)
 case bl b=>
  cases ry
  cases neg with
  | false=>
   refine wpAny_is_plain ?_ (fin _ p _ ?_)
   ·cases rd <;> first
    | (cases rx;rfl)
    | (obtain ⟨t,rfl⟩:=rx;rfl)
   ·cases rd <;> first
    | (cases rx;rfl)
    | (obtain ⟨t,rfl⟩:=rx;rfl)
    | (cases rx;(rename_i c;cases c <;> cases b <;> rfl))
  | true=>
   refine wpAny_isNot_plain ?_ (fin _ p _ ?_)
   ·cases rd <;> first
    | (cases rx;rfl)
    | (obtain ⟨t,rfl⟩:=rx;rfl)
   ·cases rd <;> first
    | (cases rx;rfl)
    | (obtain ⟨t,rfl⟩:=rx;rfl)
    | (cases rx;(rename_i c;cases c <;> cases b <;> rfl))
end
noncomputable def B1:D->Option Key
 | .int i=>some (.inl i)
 | .str x=>some (.inr x)
 | _=>none
noncomputable def M8 {κ:Type} [DecidableEq κ] (kvs:List (κ×D)) (k:κ):Option D:=(kvs.find? λkv=>decide (kv.1=k)).map (·.2)
noncomputable def b1f {κ:Type} [DecidableEq κ] (kvs:List (κ×D)) (k:κ) (v:D):List (κ×D):=if kvs.any (λkv=>decide (kv.1=k)) then kvs.map (λkv=>if kv.1=k then (kv.1,v) else kv) else kvs++[(k,v)]
noncomputable def a03 {α:Type}:Option α->M α
 | some a=>ret a
 | none=>bad
noncomputable def ixD (x y:D):M D:=match x with
 | .ref n=>λS=>match S[n]? with
  | some (.lst ds)=>(match y with
   | .int i=>a03 (atI ds i)
   | _=>bad) S
  | some (.dct kvs)=>a03 ((B1 y).bind (M8 kvs)) S
  | _=>.bad
 | x=>match y with
  | .int i=>bind (Z7 x) λds=>a03 (atI ds i)
  | _=>bad
theorem c4f {K:PySem.W.Frag} {μ:Mp} {H:Hp} {ds:List D} {xs:List V} {i:Int} {d:D} (r:RDs K μ H ds xs) (e:atI ds i=some d):∃ v,atI xs i=some v/\RD K μ H d v:=by
 unfold atI at e ⊢
 rw [<- r.length]
 cases q:ixN ds.length i with
 | none=>rw [q] at e;cases e
 | some j=>rw [q] at e;exact r.get e
theorem a9b {K:PySem.W.Frag} {cl:Nat->Addr} {xe:Addr->Hp->Prop} {μ:Mp} {H:Hp} {S:Sto} {α:Type} {o:Option α} {G:α->Sto->Mp->Hp->Prop} (p:Post K cl xe μ H (a03 o S) G):∃ a,o=some a/\∀ μ' H',Lat μ H μ' H'->Rep K cl μ' S H'->G a S μ' H':=by
 cases o with
 | none=>exact p.elim
 | some a=>exact ⟨a,rfl,p⟩
theorem a0b {K:PySem.W.Frag} {μ:Mp} {H:Hp} {k:Key} {d:D}:∀ {kvs:List (Key×D)} {ks:List (Key×V)},KvsAt K μ H kvs ks->M8 kvs k=some d->∃ v,P4 ks k=some v/\RD K μ H d v
 | _,_,.nil,e=>by simp [M8] at e
 | p :: r,q :: r',.cons ⟨h1,h2⟩ t,e=>by
  unfold M8 at e
  rw [List.find?_cons] at e
  by_cases hk:p.1=k
  ·simp only [hk,decide_true] at e
   cases e
   exact ⟨q.2,V3 (h1▸hk),h2⟩
  ·simp only [hk,decide_false] at e
   obtain ⟨v,e1,e2⟩:=a0b (k:=k) (d:=d) t e
   exact ⟨v,by rw [W5 (h1▸hk)];exact e1,e2⟩
theorem L8 {K:PySem.W.Frag} {μ:Mp} {H:Hp} {y:D} {v:V} {k:Key} (r:RD K μ H y v) (e:B1 y=some k):v=kV k:=by
 cases r <;> simp only [B1] at e <;> first | (cases e;rfl) | cases e
section
variable {X:Cx} {cl:Nat->Addr} {xe:Addr->Hp->Prop}
theorem b9q (hu:X.A.units+1<cLine):IxR X (λx y H Q=>∃ a v,x=.ref a/\DGet H a y (some v)/\Q v H):=by
 intro value slice pins s σ H x y v u Q I rx ry h hs
 obtain ⟨a,w,rfl,g,q⟩:=h
 cases rx
 have hT:=a6x I g
 have h₂:wpAny (model X.prog X.w) X.A (getItem (.ref a) u) (EP X pins σ Q) X.xe s:=b0n hu I g ry λw' s3 I3 rw'=>⟨w,H,I3,rw',q⟩
 unfold subscriptTail
 refine wpAny_bind ?_
 rw [getitemInPython_of_ne hT.not_modules]
 refine wpAny_bind (wpAny_specialOf hT PySem.F.slot_dict_getitem.lookup ?_)
 have fin:wpAny (model X.prog X.w) X.A (subscripted slice false (.ref a) u) (λr s₃=>wpAny (model X.prog X.w) X.A (letTemporaryGo value (.ref a) r >>= λ_=>pure r) (EP X pins σ Q) X.xe s₃) X.xe s:=by
  rw [hs]
  exact wpAny_operating (wpAny_mono h₂ (λr s₃ h₃=>wpAny_bind (wpAny_letTemporaryGo (wpAny_pure h₃))) λ_ _ x=>x)
 first
  | exact wpAny_pure (wpAny_bind fin)
  | exact wpAny_bind (wpAny_pure (wpAny_bind fin))
  | exact wpAny_bind fin
theorem d2h (hu:X.A.units+1<cLine):IxR X (rP2 X.K cl xe ixD):=by
 intro value slice pins s σ H x y v u Q I rx ry ⟨μ,S,d,e,rd,re,rp,p⟩ hs
 have sq:∀ {a:Addr} {xs:List V} {ds:List D} {i:Int},(SqL X.K H a xs\/SqT X.K H a xs)->RDs X.K μ H ds xs->x=.ref a->e=.int i->Post X.K cl xe μ H (a03 (atI ds i) S) (λr _ μ' H'=>∀ v,RD X.K μ' H' r v->Q v H') ->
   wpAny (model X.prog X.w) X.A (subscriptTail value slice v u) (EP X pins σ Q) X.xe s:=λ{a xs ds i} hq r hx he q=>by
  clear p
  subst hx he
  cases re
  obtain ⟨z,e1,q⟩:=a9b q
  obtain ⟨w,e2,rw'⟩:=c4f r e1
  rcases hq with hq | hq
  ·exact b7v value slice pins s σ H _ _ v u Q I rx ry ⟨a,xs,i,w,rfl,rfl,hq,e2,q μ H (Lat.refl _ _) rp _ rw'⟩ hs
  ·exact c5w value slice pins s σ H _ _ v u Q I rx ry ⟨a,xs,i,w,rfl,rfl,hq,e2,q μ H (Lat.refl _ _) rp _ rw'⟩ hs
 cases rd with
 | tup h r=>
  cases e <;> first | exact False.elim p | exact sq (.inr h.sq) r rfl rfl p
 | lst h r=>
  cases e <;> first | exact False.elim p | exact sq (.inl h.sq) r rfl rfl p
 | scr h r=>
  cases e <;> first | exact False.elim p | exact sq (.inl h.sq) r rfl rfl p
 | ref h=>
  rename_i n a
  simp only [ixD] at p
  cases q1:S[n]? with
  | none=>rw [q1] at p;exact p.elim
  | some o=>
   rw [q1] at p
   cases o with
   | lst ds=>
    obtain ⟨xs,h1,h2⟩:=rp.ats n _ a q1 h
    cases e <;> first | exact False.elim p | exact sq (.inl (.inl (.inl h1))) h2 rfl rfl p
   | dct kvs=>
    obtain ⟨ks,h1,h2⟩:=rp.ats n _ a q1 h
    obtain ⟨z,e1,p⟩:=a9b p
    cases e2:B1 e with
    | none=>rw [e2] at e1;cases e1
    | some k=>
     rw [e2] at e1
     obtain ⟨w,e3,r3⟩:=a0b h2 e1
     have hy:=L8 re e2
     subst hy
     exact b9q hu value slice pins s σ H _ _ v u Q I rx ry ⟨a,w,rfl,by rw [<- e3];exact DGet.k h1,p μ H (Lat.refl _ _) rp _ r3⟩ hs
   | exc _ _=>exact p.elim
 | _=>cases e <;> exact False.elim p
noncomputable def A6 (ds:List D) (lo hi:Option Int):List D:=(ds.drop (HT.sIx ds.length 0 lo)).take (HT.sIx ds.length ds.length hi-HT.sIx ds.length 0 lo)
theorem b6c {K:PySem.W.Frag} {μ:Mp} {H:Hp} {ds:List D} {xs:List V} (r:RDs K μ H ds xs) (lo hi:Option Int):RDs K μ H (A6 ds lo hi) (a6q xs lo hi):=by
 unfold A6 a6q
 rw [<- r.length]
 exact (r.drop _).take _
noncomputable def slD (x:D) (lo hi:Option Int):M D:=match x with
 | .tup ds=>ret (.tup (A6 ds lo hi))
 | x=>bind (match x with
  | .scr ds=>ret ds
  | x=>u4 x) λds=>ret (.lst (A6 ds lo hi))
end
noncomputable def noStar:Expr->Bool
 | .Starred ..=>false
 | _=>true
noncomputable def t7:Expr->Bool
 | .ListComp ..=>false
 | .SetComp ..=>false
 | .DictComp ..=>false
 | _=>true
noncomputable def J2:Expr->Bool
 | .Slice ..=>false
 | _=>true
noncomputable def G2:Expr->Bool
 | .Set ..=>false
 | _=>true
noncomputable def y3:Expr->Bool
 | .Call (.Name _ _) [] [] _=>false
 | _=>true
noncomputable def E9:Expr->Bool
 | .UnaryOp .Not _ _=>false
 | .BoolOp ..=>false
 | .IfExp ..=>false
 | .Compare ..=>false
 | _=>true
theorem f7 {e:Expr} {es:List Expr} {env:PySem.Env} (h:noStar e=true):starEach (e :: es) env=(false,eval e env) :: starEach es env:=by
 cases e <;> first | rfl | (exact absurd h (by simp [noStar]))
theorem p8:∀ {es:List Expr} {env:PySem.Env} {pos:Pos},es.all noStar=true->(backTo pos (starEach es env)).any (·.1)=false
 | [],_,_,_=>rfl
 | e :: es,env,pos,h=>by
  rw [List.all_cons,Bool.and_eq_true] at h
  rw [f7 h.1]
  show (false||(backTo pos (starEach es env)).any (·.1))=false
  rw [p8 h.2];rfl
theorem a1o:∀ {es:List Expr} {env:PySem.Env} {pos:Pos},es.all noStar=true->(backTo pos (starEach es env)).all (λx=>!x.1)=true
 | [],_,_,_=>rfl
 | e :: es,env,pos,h=>by
  rw [List.all_cons,Bool.and_eq_true] at h
  rw [f7 h.1]
  show (!false&&(backTo pos (starEach es env)).all (λx=>!x.1))=true
  rw [a1o h.2];rfl
theorem B5 {e:Expr} {t:Option Expr} {n:Nat} {env:PySem.Env} (h:t7 e=true):swapsWith e t n env=pure false:=by
 cases e <;> first | rfl | (exact absurd h (by simp [t7]))
theorem a7l {e:Expr} (h:J2 e=true):a4b e:=by
 intro o i
 cases e <;> first | rfl | (exact absurd h (by simp [J2]))
theorem W9 {op:CmpOp} {e:Expr} (h:G2 e=true):behindInMarks op e=false:=by
 cases e <;> first | rfl | (exact absurd h (by simp [G2]))
theorem Y0 {e:Expr} {env:PySem.Env} (h:G2 e=true):∀ x,foldedSetIterable e env x=pure x:=by
 intro x
 cases e <;> first | rfl | (exact absurd h (by simp [G2]))
theorem N8 {o:Expr} {f:Str} {env:PySem.Env} (h:y3 o=true):attributeBase o f env (eval o env)=eval o env:=by
 unfold attributeBase
 split
 ·exact absurd h (by simp [y3])
 ·rfl
theorem test_of {e:Expr} {env:PySem.Env} (h:E9 e=true):∀ whole,isTrue e env whole=(do let v <- whole;standAt e.pos;holding [v] (truthy v)):=by
 intro whole
 cases e <;> first
  | rfl
  | (rename_i op _ _;cases op <;> first | rfl | (exact absurd h (by simp [E9])))
  | (exact absurd h (by simp [E9]))
section
variable {X:Cx} {cl:Nat->Addr} {xe:Addr->Hp->Prop} {e:Expr} {es:List Expr} {pos:Pos} {f:Env->M D} {fs:Env->M (List D)}
theorem c00:PA X [] (tDs X.K cl xe λ_=>ret []):=PA.imp B8 λσ H Q ⟨μ,S,ρ,eo,rp,p⟩=>p.ret μ H (Lat.refl _ _) rp [] .nil
theorem b6h (h:PE X e (tD X.K cl xe f)) (hs:PA X es (tDs X.K cl xe fs)) (hn:noStar e=true):PA X (e :: es) (tDs X.K cl xe λρ=>bind (f ρ) λd=>bind (fs ρ) λds=>ret (d :: ds)):=
 PA.imp (i7 h hs (f7 hn)) λσ H Q ⟨μ,S,ρ,eo,rp,p⟩=>
  ⟨μ,S,ρ,eo,rp,p.bind.imp λd S1 μ1 H1 l1 r1 p1 v rv=>⟨μ1,S1,ρ,eo.later l1,r1,p1.bind.imp λds S2 μ2 H2 l2 r2 p2 vs rvs=>p2.ret μ2 H2 (Lat.refl _ _) r2 _ (.cons (rv.later l2) rvs)⟩⟩
noncomputable def c4r (ds:List D):M D:=if ds.length<=sizeLine then ret (.tup ds) else bad
noncomputable def c2v (ds:List D):M D:=if ds.length<=sizeLine then ret (.lst ds) else bad
theorem c5c {k:Nat} (h:PA X es (tDs X.K cl xe fs)):PE X (.Tuple es k pos) (tD X.K cl xe λρ=>bind (fs ρ) c4r):=PE.imp (b46 h) λσ H Q ⟨μ,S,ρ,eo,rp,p⟩=>
 ⟨μ,S,ρ,eo,rp,p.bind.imp λds S1 μ1 H1 l1 r1 p1 vs rvs=>by
  obtain ⟨hl,p1⟩:=Post.guard p1
  refine ⟨by rw [<- rvs.length];exact hl,λz hz=>?_⟩
  obtain ⟨l,rp2,rd2⟩:=G3 r1 rvs hz
  exact p1 μ1 _ l rp2 _ rd2⟩
theorem c5p (h:PA X es (tDs X.K cl xe fs)):PE X (.List es pos) (tD X.K cl xe λρ=>bind (fs ρ) c2v):=PE.imp (c2k h) λσ H Q ⟨μ,S,ρ,eo,rp,p⟩=>
 ⟨μ,S,ρ,eo,rp,p.bind.imp λds S1 μ1 H1 l1 r1 p1 vs rvs=>by
  obtain ⟨hl,p1⟩:=Post.guard p1
  refine ⟨by rw [<- rvs.length];exact hl,λz hz=>?_⟩
  obtain ⟨l,rp2,rd2⟩:=G7 r1 rvs hz
  exact p1 μ1 _ l rp2 _ rd2⟩
def b4q (E:XK):Addr->Hp->Prop:=λa H=>E (.ref a) none H
def spD (K:PySem.W.Frag) (cl:Nat->Addr) (n:Nat) (run:List D->M D):Sp:=λvs H Q E=>vs.length=n/\∃ μ S ds,RDs K μ H ds vs/\Rep K cl μ S H/\Post K cl (b4q E0) μ H (run ds S) λd _ μ' H'=>∀ v,RD K μ' H' d v->Q v H'
theorem b6z {g:List D->M D} {id:String} {x:Str} {p:Pos} (hc:j3 X (.builtin id) (rPs X.K cl xe g)) (hg:Gl X x) (hm:X.mg x=none) (hv:bootBuiltins x=some (.builtin id)) (ha:PA X (e :: es) (tDs X.K cl xe fs)) (hn:x ≠ "__name__") (hdb:(x==("__debug__" : Str))=false) (hs:(e :: es).all noStar=true) :
  PE X (.Call (.Name x p) (e :: es) [] pos) (tD X.K cl xe λρ=>bind (fs ρ) g):=by
 rw [List.all_cons,Bool.and_eq_true] at hs
 exact PE.imp (V7 hc hg hm hv ha hn hdb (f7 hs.1) (p8 hs.2)) λσ H Q ⟨μ,S,ρ,eo,rp,p⟩=>⟨μ,S,ρ,eo,rp,p.bind.imp λds S1 μ1 H1 l1 r1 p1 vs rvs=>⟨μ1,S1,ds,rvs,r1,p1⟩⟩
theorem b36 {g:List D->M D} {T:String} {x:Str} {p:Pos} (hc:j3 X (.type T) (rPs X.K cl xe g)) (hg:Gl X x) (hm:X.mg x=none) (hv:bootBuiltins x=some (.type T)) (ha:PA X (e :: es) (tDs X.K cl xe fs)) (hn:x ≠ "__name__") (hdb:(x==("__debug__" : Str))=false) (hs:(e :: es).all noStar=true) :
  PE X (.Call (.Name x p) (e :: es) [] pos) (tD X.K cl xe λρ=>bind (fs ρ) g):=by
 rw [List.all_cons,Bool.and_eq_true] at hs
 exact PE.imp (b2b hc hg hm hv ha hn hdb (f7 hs.1) (p8 hs.2)) λσ H Q ⟨μ,S,ρ,eo,rp,p⟩=>⟨μ,S,ρ,eo,rp,p.bind.imp λds S1 μ1 H1 l1 r1 p1 vs rvs=>⟨μ1,S1,ds,rvs,r1,p1⟩⟩
end
noncomputable def one (g:D->M D) (ds:List D):M D:=match ds with
 | [d]=>g d
 | _=>bad
noncomputable def m7 (d:D):M D:=match d with
 | .str x=>if x.length<=sizeLine then ret (.int x.length) else bad
 | .ref n=>λS=>match S[n]? with
  | some (.lst ds)=>.ok (.int ds.length) S
  | some (.dct kvs)=>.ok (.int kvs.length) S
  | _=>.bad
 | d=>bind (Z7 d) λds=>ret (.int ds.length)
noncomputable def M5 (d:D):M D:=match d with
 | .tup ds=>ret (.tup ds)
 | d=>bind (Z7 d) λds=>ret (.tup ds)
noncomputable def c1k (d:D):M D:=bind (Z7 d) λds=>ret (.lst ds)
instance (p:PyData):Decidable (Shows p):=decidable_of_iff (p.showable=true/\p.hasDict=false/\p.depth<=60/\p.shown.length<=sizeLine) ⟨λ⟨a,b,c,d⟩=>⟨a,b,c,d⟩,λ⟨a,b,c,d⟩=>⟨a,b,c,d⟩⟩
noncomputable def U5 (d:D):M D:=λS=>match i9 64 S d with
 | some p=>(if Shows p then ret (.str p.shown) else bad) S
 | none=>.bad
theorem b8n {K:PySem.W.Frag} {μ:Mp} {H:Hp} {d:D} {vs:List V} (r:RDs K μ H [d] vs):∃ v,vs=[v]/\RD K μ H d v:=by
 cases r with
 | cons h t=>cases t;exact ⟨_,rfl,h⟩
section
variable {X:Cx} {cl:Nat->Addr} {xe:Addr->Hp->Prop}
theorem J1 {g:D->M D} {f:Value} (h:∀ (pins:List (Addr×Obj)) (s:Shared) (σ:L2.St) (H:Hp) (μ:Mp) (S:Sto) (d:D) (v:V) (us:List Value) (Q:VK),L2.Inv X pins σ H s->Vals [v] us->RD X.K μ H d v->Rep X.K cl μ S H->Post X.K cl xe μ H (g d S) (λr _ μ' H'=>∀ v,RD X.K μ' H' r v->Q v H') ->
  wpAny (model X.prog X.w) X.A (call f us) (EP X pins σ Q) X.xe s):j3 X f (rPs X.K cl xe (one g)):=by
 intro pins s σ H xs us Q I r ⟨μ,S,ds,rds,rp,p⟩
 match ds,p with
 | [d],p=>
  obtain ⟨v,rfl,rd⟩:=b8n rds
  exact h pins s σ H μ S d v us Q I r rd rp p
 | [],p=>exact p.elim
 | _ :: _ :: _,p=>exact p.elim
theorem c8p:j3 X (.builtin "len") (rPs X.K cl xe (one m7)):=J1 λpins s σ H μ S d v us Q I r rd rp p=>by
 have sq:∀ {a:Addr} {xs:List V} {ds:List D},(SqL X.K H a xs\/SqT X.K H a xs)->RDs X.K μ H ds xs->v=.ref a->(∀ μ' H',Lat μ H μ' H'->Rep X.K cl μ' S H'->∀ w,RD X.K μ' H' (.int ds.length) w->Q w H')->wpAny (model X.prog X.w) X.A (call (.builtin "len") us) (EP X pins σ Q) X.xe s:=λ{a xs ds} hq r2 hv q=>by
  subst hv
  exact a3w pins s σ H _ us Q I r ⟨a,xs,rfl,hq,by rw [<- r2.length];exact q μ H (Lat.refl _ _) rp _ (.int _)⟩
 cases rd with
 | str x=>
  obtain ⟨hl,p⟩:=Post.guard p
  exact a4m pins s σ H _ us Q I r ⟨x,rfl,hl,p μ H (Lat.refl _ _) rp _ (.int _)⟩
 | tup h r2=>exact sq (.inr h.sq) r2 rfl p
 | lst h r2=>exact sq (.inl h.sq) r2 rfl p
 | scr h r2=>exact sq (.inl h.sq) r2 rfl p
 | ref h=>
  rename_i n a
  simp only [m7] at p
  cases q1:S[n]? with
  | none=>rw [q1] at p;exact p.elim
  | some o=>
   rw [q1] at p
   cases o with
   | lst ds=>
    obtain ⟨xs,h1,h2⟩:=rp.ats n _ a q1 h
    exact sq (.inl (.inl (.inl h1))) h2 rfl p
   | dct kvs=>
    obtain ⟨ks,h1,h2⟩:=rp.ats n _ a q1 h
    have hl:kvs.length=ks.length:=Paired.length h2
    exact b0r pins s σ H _ us Q I r ⟨a,ks,rfl,h1,by rw [<- hl];exact p μ H (Lat.refl _ _) rp _ (.int _)⟩
   | exc _ _=>exact p.elim
 | _=>exact False.elim p
theorem b95:j3 X (.type "tuple") (rPs X.K cl xe (one M5)):=J1 λpins s σ H μ S d v us Q I r rd rp p=>by
 have sq:∀ {a:Addr} {xs:List V} {ds:List D},SqL X.K H a xs->RDs X.K μ H ds xs->v=.ref a->(∀ μ' H',Lat μ H μ' H'->Rep X.K cl μ' S H'->∀ w,RD X.K μ' H' (.tup ds) w->Q w H')->wpAny (model X.prog X.w) X.A (call (.type "tuple") us) (EP X pins σ Q) X.xe s:=λ{a xs ds} hq r2 hv q=>by
  subst hv
  refine Q0 pins s σ H _ us Q I r ⟨a,xs,rfl,.inl ⟨hq,λz hz=>?_⟩⟩
  obtain ⟨l,rp2,rd2⟩:=G3 rp r2 hz
  exact q μ _ l rp2 _ rd2
 cases rd with
 | tup h r2=>exact Q0 pins s σ H _ us Q I r ⟨_,_,rfl,.inr ⟨h.sq,p μ H (Lat.refl _ _) rp _ (.tup h r2)⟩⟩
 | lst h r2=>exact sq h.sq r2 rfl p
 | scr h r2=>exact sq h.sq r2 rfl p
 | ref h=>
  rename_i n a0
  have p2:Post X.K cl xe μ H (bind (u4 (.ref n)) (λds=>ret (D.tup ds)) S) (λr _ μ' H'=>∀ v,RD X.K μ' H' r v->Q v H'):=p
  obtain ⟨a,xs,ds,e1,h1,h2,e2⟩:=v3 (.ref h) rp p2.bind
  exact sq (.inl (.inl h1)) h2 e1 (p2.ok_bind e2)
 | _=>exact False.elim p
theorem c59:j3 X (.type "list") (rPs X.K cl xe (one c1k)):=J1 λpins s σ H μ S d v us Q I r rd rp p=>by
 obtain ⟨a,xs,ds,rfl,h1,h2,e2⟩:=a42 rd rp p.bind
 refine a3q pins s σ H _ us Q I r ⟨a,xs,rfl,h1,λz hz=>?_⟩
 obtain ⟨l,rp2,rd2⟩:=G7 rp h2 hz
 exact (p.ok_bind e2) μ _ l rp2 _ rd2
theorem c2w (hg:X.A.guards=some []) (hu:X.A.units+64<cLine):j3 X (.builtin "repr") (rPs X.K cl xe (one U5)):=J1 λpins s σ H μ S d v us Q I r rd rp p=>by
 simp only [U5] at p
 cases e1:i9 64 S d with
 | none=>rw [e1] at p;exact p.elim
 | some q=>
  rw [e1] at p
  obtain ⟨hs,p⟩:=Post.guard p
  exact b03 hg hu pins s σ H _ us Q I r ⟨v,q,rfl,A8 rp 64 e1 rd,hs,p μ H (Lat.refl _ _) rp _ (.str _)⟩
end
noncomputable def Mp.free (μ:Mp):Mp:=⟨μ.pl,μ.rs.tail⟩
section
variable {K:PySem.W.Frag} {cl:Nat->Addr} {xe:Addr->Hp->Prop} {μ μ2:Mp} {S S2:Sto} {H H2:Hp} {p:Addr} {o:HO}
theorem b73 (rp:Rep K cl μ S H) (hp:H p=none):(∀ {d:D} {v:V},RD K μ H d v->RD K (μ.hold p) (upd H p o) d v)/\∀ {ds:List D} {vs:List V},RDs K μ H ds vs->RDs K (μ.hold p) (upd H p o) ds vs:=by
 have ho:∀ a u,H a=some u->a∉μ.pl->a∉μ.rs->upd H p o a=some u/\a∉(μ.hold p).pl/\a∉(μ.hold p).rs:=λa u e n1 n2=>by
  have ne:=c9 e hp
  exact ⟨by rw [a9 ne];exact e,n1,λz=>(List.mem_cons.mp z).elim ne n2⟩
 exact ⟨λr=>r.move (μ:=μ) (μ':=μ.hold p) (H':=upd H p o) (λ_ _ e=>e) ho,λr=>r.move (μ:=μ) (μ':=μ.hold p) (H':=upd H p o) (λ_ _ e=>e) ho⟩
theorem a51 (rp:Rep K cl μ S H) (hp:H p=none):Rep K cl (μ.hold p) S (upd H p o):=by
 have ho:∀ a u,H a=some u->a∉μ.pl->a∉μ.rs->upd H p o a=some u/\a∉(μ.hold p).pl/\a∉(μ.hold p).rs:=λa u e n1 n2=>by
  have ne:=c9 e hp
  exact ⟨by rw [a9 ne];exact e,n1,λz=>(List.mem_cons.mp z).elim ne n2⟩
 refine rp.move (λa m=>?_) rfl (λa m=>a9 λz=>rp.notin hp (z▸m)) (λa u e=>by rw [a9 (c9 e hp)];exact e) ho
 rcases List.mem_cons.mp (show a∈p :: μ.rs from m) with rfl | m
 ·exact ⟨rp.notin hp,o,c8⟩
 ·obtain ⟨h1,u,h2⟩:=rp.res a m
  exact ⟨h1,u,by rw [a9 (c9 h2 hp)];exact h2⟩
theorem a5e {ρ:Env} {σ:L2.St} (rp:Rep K cl μ S H) (hp:H p=none) (eo:EnvOk K μ H ρ σ):EnvOk K (μ.hold p) (upd H p o) ρ σ:=⟨eo.1,λi d e=>let ⟨v,q,r⟩:=eo.2 i d e;⟨v,q,(b73 rp hp).1 r⟩⟩
theorem b4k {ds:List D} {vs:List V} (r:RDs K μ H ds vs):RDs K μ.free H ds vs:=r.move (μ:=μ) (μ':=μ.free) (λ_ _ e=>e) λa u e n1 n2=>⟨e,n1,λz=>n2 (List.mem_of_mem_tail z)⟩
theorem a47 (rp:Rep K cl μ S H):Rep K cl μ.free S H:=rp.move (λa m=>rp.res a (List.mem_of_mem_tail m)) rfl (λ_ _=>rfl) (λ_ _ e=>e) λa u e n1 n2=>⟨e,n1,λz=>n2 (List.mem_of_mem_tail z)⟩
theorem b18 {rs:List Addr} {ds:List D} {vs:List V} (e:μ.rs=p :: rs) (r:RDs K μ H ds vs):RDs K μ (upd H p o) ds vs:=r.move (λ_ _ e=>e) λa u q n1 n2=>⟨by rw [a9 (λz=>n2 (by rw [e,z];exact List.mem_cons_self))];exact q,n1,n2⟩
theorem b2h {rs:List Addr} {d:D} {v:V} (e:μ.rs=p :: rs) (r:RD K μ H d v):RD K μ (upd H p o) d v:=r.move (λ_ _ e=>e) λa u q n1 n2=>⟨by rw [a9 (λz=>n2 (by rw [e,z];exact List.mem_cons_self))];exact q,n1,n2⟩
theorem b0t {rs:List Addr} {xs:List V} (e:μ.rs=p :: rs) (hp:H p=some (.lst xs)) (rp:Rep K cl μ S H):Rep K cl μ S (upd H p o):=by
 have np:p∉μ.pl:=(rp.res p (by rw [e];exact List.mem_cons_self)).1
 refine rp.move (λa m=>?_) rfl (λa m=>a9 λz=>np (z▸m)) (λa u q=>by rw [a9 (b4h q hp (by intro z;cases z))];exact q) λa u q n1 n2=>⟨by rw [a9 (λz=>n2 (by rw [e,z];exact List.mem_cons_self))];exact q,n1,n2⟩
 obtain ⟨h1,u,h2⟩:=rp.res a m
 by_cases z:a=p
 ·subst z;exact ⟨h1,o,c8⟩
 ·exact ⟨h1,u,by rw [a9 z];exact h2⟩
end
inductive Fl where
 | nx (ρ:Env) | rt (d:D) | bk (ρ:Env) | ct (ρ:Env)
def FlOk (K:PySem.W.Frag) (D:Ends) (fl:Fl) (μ:Mp) (H:Hp):Prop:=match fl with
 | .nx ρ=>∀ σ,EnvOk K μ H ρ σ->D.nx σ H
 | .rt d=>∀ v,RD K μ H d v->D.rt v H
 | .bk ρ=>∀ σ,EnvOk K μ H ρ σ->D.bk σ H
 | .ct ρ=>∀ σ,EnvOk K μ H ρ σ->D.ct σ H
def sD (K:PySem.W.Frag) (cl:Nat->Addr) (xe:Addr->Hp->Prop) (f:Env->M Fl):TS:=λD σ H=>∃ μ S ρ,EnvOk K μ H ρ σ/\Rep K cl μ S H/\Post K cl xe μ H (f ρ S) λfl _ μ' H'=>FlOk K D fl μ' H'
noncomputable def c8y (f g:Env->M Fl) (ρ:Env):M Fl:=bind (f ρ) λfl=>match fl with
 | .nx ρ'=>g ρ'
 | fl=>ret fl
section
variable {X:Cx} {cl:Nat->Addr} {xe:Addr->Hp->Prop} {e:Expr} {st:Stmt} {sts:List Stmt} {pos:Pos} {f:Env->M D} {g h:Env->M Fl}
theorem M3 {st:Stmt}:PS X st (sD X.K cl xe λ_=>bad):=λ_ _ _ _ _ _ ⟨_,_,_,_,_,p⟩=>p.elim
theorem b5q:PSs X [] (sD X.K cl xe λρ=>ret (.nx ρ)):=PSs.imp c04 λD σ H ⟨μ,S,ρ,eo,rp,p⟩=>p.ret μ H (Lat.refl _ _) rp σ eo
theorem c08 (h1:PS X st (sD X.K cl xe g)) (h2:PSs X sts (sD X.K cl xe h)):PSs X (st :: sts) (sD X.K cl xe (c8y g h)):=PSs.imp (y7 h1 h2) λD σ H ⟨μ,S,ρ,eo,rp,p⟩=>
 ⟨μ,S,ρ,eo,rp,p.bind.imp λfl S1 μ1 H1 l1 r1 p1=>by
  cases fl with
  | nx ρ1=>exact λσ1 eo1=>⟨μ1,S1,ρ1,eo1,r1,p1⟩
  | rt d=>exact p1.ret μ1 H1 (Lat.refl _ _) r1
  | bk ρ1=>exact p1.ret μ1 H1 (Lat.refl _ _) r1
  | ct ρ1=>exact p1.ret μ1 H1 (Lat.refl _ _) r1⟩
theorem b3a (he:PE X e (tD X.K cl xe f)) (hn:t7 e=true):PS X (.Expr e pos) (sD X.K cl xe λρ=>bind (f ρ) λ_=>ret (.nx ρ)):=PS.imp (G9 he (B5 hn)) λD σ H ⟨μ,S,ρ,eo,rp,p⟩=>
 ⟨μ,S,ρ,eo,rp,p.bind.imp λd S1 μ1 H1 l1 r1 p1 v rv=>p1.ret μ1 H1 (Lat.refl _ _) r1 σ (eo.later l1)⟩
theorem c0y (he:PE X e (tD X.K cl xe f)):PS X (.Return (some e) pos) (sD X.K cl xe λρ=>bind (f ρ) λd=>ret (.rt d)):=PS.imp (c6c he) λD σ H ⟨μ,S,ρ,eo,rp,p⟩=>
 ⟨μ,S,ρ,eo,rp,p.bind.imp λd S1 μ1 H1 l1 r1 p1 v rv=>p1.ret μ1 H1 (Lat.refl _ _) r1 v rv⟩
theorem c3n {c:Expr} {t:Env->M Bool} {a b:List Stmt} (hc:PT X c (tBo X.K cl xe t)) (ha:PSs X a (sD X.K cl xe g)) (hb:PSs X b (sD X.K cl xe h)):PS X (.If c a b pos) (sD X.K cl xe λρ=>bind (t ρ) λq=>if q=true then g ρ else h ρ):=PS.imp (L2.ps_if hc ha hb) λD σ H ⟨μ,S,ρ,eo,rp,p⟩=>
 ⟨μ,S,ρ,eo,rp,p.bind.imp λq S1 μ1 H1 l1 r1 p1=>by
  cases q with
  | true=>exact ⟨μ1,S1,ρ,eo.later l1,r1,p1⟩
  | false=>exact ⟨μ1,S1,ρ,eo.later l1,r1,p1⟩⟩
theorem b9w {i:Nat} {x:Str} {pos':Pos} (hN:X.N.Nodup) (hi:X.N[i]?=some x) (hx:Loc X.env.scope x) (he:PE X e (tD X.K cl xe f)) (hn:t7 e=true) (hf:X.fn x=true\/X.env.scope.names.lookup x=some .local) :
  PS X (.Assign [.Name x pos'] e pos) (sD X.K cl xe λρ=>bind (f ρ) λd=>ret (.nx (ρ.set i (some d)))):=PS.imp (b3g hN hi hx he (B5 hn) hf) λD σ H ⟨μ,S,ρ,eo,rp,p⟩=>
 ⟨μ,S,ρ,eo,rp,p.bind.imp λd S1 μ1 H1 l1 r1 p1 v rv=>p1.ret μ1 H1 (Lat.refl _ _) r1 _ ((eo.later l1).set rv i)⟩
def b86 (K:PySem.W.Frag) (cl:Nat->Addr) (tg:D->Env->Option Env):TG:=λv σ H Q=>∃ μ S ρ d ρ',EnvOk K μ H ρ σ/\Rep K cl μ S H/\RD K μ H d v/\tg d ρ=some ρ'/\∀ σ',EnvOk K μ H ρ' σ'->Q σ' H
theorem PG.imp {t:Expr} {u u':TG} (h:PG X t u) (k:∀ v σ H Q,u' v σ H Q->u v σ H Q):PG X t u':=λpins s σ H v w Q I r q=>h pins s σ H v w Q I r (k v σ H Q q)
theorem b5v {i:Nat} {x:Str} {pos':Pos} (hN:X.N.Nodup) (hi:X.N[i]?=some x) (hx:Loc X.env.scope x) (hf:X.fn x=true\/X.env.scope.names.lookup x=some .local):PG X (.Name x pos') (b86 X.K cl λd ρ=>some (ρ.set i (some d))):=
 PG.imp (a0r hN hi hx hf) λv σ H Q ⟨μ,S,ρ,d,ρ',eo,rp,rd,e,q⟩=>by
  cases e
  exact q _ (eo.set rd i)
noncomputable def a1p:List Nat->List D->Env->Option Env
 | [],[],ρ=>some ρ
 | i :: is,d :: ds,ρ=>a1p is ds (ρ.set i (some d))
 | _,_,_=>none
noncomputable def k5 (is:List Nat) (d:D) (ρ:Env):Option Env:=match d with
 | .tup ds=>a1p is ds ρ
 | _=>none
def N9 (X:Cx):List Expr->List Nat->Prop
 | [],[]=>True
 | .Name x _ :: ts,i :: is=>X.N[i]?=some x/\Loc X.env.scope x/\(X.fn x=true\/X.env.scope.names.lookup x=some .local)/\N9 X ts is
 | _,_=>False
theorem a25 (hN:X.N.Nodup):∀ {ts:List Expr} {is:List Nat},N9 X ts is->PGs X ts (λvs σ H Q=>∃ μ ds ρ ρ',EnvOk X.K μ H ρ σ/\RDs X.K μ H ds vs/\a1p is ds ρ=some ρ'/\∀ σ',EnvOk X.K μ H ρ' σ'->Q σ' H)
 | [],[],_=>λpins s σ H vs us Q I r ⟨μ,ds,ρ,ρ',eo,rd,e,q⟩=>by
  cases ds with
  | nil=>
   cases rd
   cases e
   exact b88 pins s σ H [] us Q I r ⟨rfl,q σ eo⟩
  | cons d ds=>cases e
 | .Name x p :: ts,i :: is,⟨h1,h2,h3,h4⟩=>λpins s σ H vs us Q I r ⟨μ,ds,ρ,ρ',eo,rd,e,q⟩=>by
  cases ds with
  | nil=>cases e
  | cons d ds=>
   cases rd with
   | cons r1 r2=>
    exact b59 (a0r (i:=i) hN h1 h2 h3) (a25 hN h4) rfl pins s σ H _ us Q I r ⟨_,_,rfl,μ,ds,_,ρ',eo.set r1 i,r2,e,q⟩
theorem T7 {ts:List Expr} {is:List Nat}:N9 X ts is->(assignEach ts X.env).length=is.length/\(assignEach ts X.env).findIdx? (·.1)=none:=by
 induction ts generalizing is with
 | nil=>
  intro h
  cases is with
  | nil=>exact ⟨rfl,rfl⟩
  | cons i is=>exact h.elim
 | cons t ts ih=>
  intro h
  cases is with
  | nil=>cases t <;> exact h.elim
  | cons i is=>
   cases t with
   | Name x p=>
    obtain ⟨_,_,_,h4⟩:=h
    obtain ⟨a,b⟩:=ih h4
    refine ⟨by show (assignEach ts X.env).length+1=_;rw [a];rfl,?_⟩
    show ((false,assign (.Name x p) X.env) :: assignEach ts X.env).findIdx? (·.1)=none
    rw [List.findIdx?_cons]
    simp [b]
   | _=>exact h.elim
theorem a1m:∀ {is:List Nat} {ds:List D} {ρ ρ':Env},a1p is ds ρ=some ρ'->ds.length=is.length
 | [],[],_,_,_=>rfl
 | _ :: _,_ :: _,_,_,e=>by simp [a1m (by simpa [a1p] using e)]
 | [],_ :: _,_,_,e=>by cases e
 | _ :: _,[],_,_,e=>by cases e
theorem a4l {ts:List Expr} {is:List Nat} {k:Nat} {pos':Pos} (hc:X.calm=true) (hN:X.N.Nodup) (h:N9 X ts is):PG X (.Tuple ts k pos') (b86 X.K cl (k5 is)):=
 PG.imp (c31 (n:=is.length) hc (a25 hN h) (T7 h).1 (T7 h).2) λv σ H Q ⟨μ,S,ρ,d,ρ',eo,rp,rd,e,q⟩=>by
  cases rd with
  | tup h1 h2=>exact ⟨_,_,rfl,h1.sq,by rw [<- h2.length];exact a1m e,μ,_,ρ,ρ',eo,h2,e,q⟩
  | _=>cases e
noncomputable def b6r:Expr->Bool
 | .Tuple ..=>false
 | _=>true
noncomputable def C8 (tg:D->Env->Option Env) (d:D) (ρ:Env):M Fl:=match tg d ρ with
 | some ρ'=>ret (.nx ρ')
 | none=>bad
theorem b82 {ts:List Expr} {is:List Nat} {k:Nat} {pos':Pos} (hc:X.calm=true) (hN:X.N.Nodup) (h:N9 X ts is) (he:PE X e (tD X.K cl xe f)) (hn:t7 e=true) (hn2:b6r e=true):PS X (.Assign [.Tuple ts k pos'] e pos) (sD X.K cl xe λρ=>bind (f ρ) λd=>C8 (k5 is) d ρ):=
 PS.imp (a6y he (a4l (cl:=cl) hc hN h) (by unfold swapsWithSole;exact B5 hn) (by cases e <;> first | rfl | (exact absurd hn2 (by simp [b6r]))) rfl) λD σ H ⟨μ,S,ρ,eo,rp,p⟩=>
  ⟨μ,S,ρ,eo,rp,p.bind.imp λd S1 μ1 H1 l1 r1 p1 v rv=>by
   cases e1:k5 is d ρ with
   | none=>simp only [C8,e1] at p1;exact p1.elim
   | some ρ'=>simp only [C8,e1] at p1;exact ⟨μ1,S1,ρ,d,ρ',eo.later l1,r1,rv,e1,p1.ret μ1 H1 (Lat.refl _ _) r1⟩⟩
end
structure LatR (μ:Mp) (H:Hp) (μ':Mp) (H':Hp):Prop where
 pre:∀ (n:Nat) (a:Addr),μ.pl[n]?=some a->μ'.pl[n]?=some a
 oth:∀ a o,H a=some o->a∉μ.pl->H' a=some o
 new:∀ a,a∈μ'.pl->a∈μ.pl\/H a=none
 rsw:∀ a,a∈μ'.rs->a∈μ.rs\/H a=none
theorem Lat.r {μ μ':Mp} {H H':Hp} (l:Lat μ H μ' H'):LatR μ H μ' H':=⟨l.pre,l.oth,l.new,λa m=>.inl (by rw [l.rsv] at m;exact m)⟩
structure LatU (μ:Mp) (H:Hp) (μ':Mp) (H':Hp):Prop where
 pre:∀ (n:Nat) (a:Addr),μ.pl[n]?=some a->μ'.pl[n]?=some a
 oth:∀ a o,H a=some o->a∉μ.pl->a∉μ.rs->H' a=some o
 new:∀ a,a∈μ'.pl->a∈μ.pl\/H a=none
 rsw:∀ a,a∈μ'.rs->a∈μ.rs\/H a=none
theorem LatR.u {μ μ':Mp} {H H':Hp} (l:LatR μ H μ' H'):LatU μ H μ' H':=⟨l.pre,λa o e n _=>l.oth a o e n,l.new,l.rsw⟩
theorem LatU.out {μ μ':Mp} {H H':Hp} (l:LatU μ H μ' H') (a:Addr) (u:HO) (e:H a=some u) (n1:a∉μ.pl) (n2:a∉μ.rs):H' a=some u/\a∉μ'.pl/\a∉μ'.rs:=by
 refine ⟨l.oth a u e n1 n2,λz=>?_,λz=>?_⟩
 ·rcases l.new a z with q | q
  ·exact n1 q
  ·rw [e] at q;cases q
 ·rcases l.rsw a z with q | q
  ·exact n2 q
  ·rw [e] at q;cases q
theorem RDs.laterU {K:PySem.W.Frag} {μ μ':Mp} {H H':Hp} (l:LatU μ H μ' H') {ds:List D} {vs:List V} (r:RDs K μ H ds vs):RDs K μ' H' ds vs:=r.move l.pre l.out
noncomputable abbrev Src:=Nat->Sto->Option (Option D)
def a2h (K:PySem.W.Frag) (cl:Nat->Addr) (J:It) (i:Nat) (μ2:Mp) (H2:Hp) (S2:Sto) (o:Option (Option D)):Prop:=match o with
 | some (some d)=>J.go i H2/\∀ x H3,J.yld i H2 x H3->Lat μ2 H2 μ2 H3/\Rep K cl μ2 S2 H3/\RD K μ2 H3 d x
 | some none=>J.stop i H2
 | none=>True
def Yl (K:PySem.W.Frag) (cl:Nat->Addr) (J:It) (μ:Mp) (H:Hp) (src:Src):Prop:=∀ (i:Nat) (μ2:Mp) (H2:Hp) (S2:Sto),LatU μ H μ2 H2->Rep K cl μ2 S2 H2->a2h K cl J i μ2 H2 S2 (src i S2)
def tIt (K:PySem.W.Frag) (cl:Nat->Addr) (xe:Addr->Hp->Prop) (f:Env->M (Src×Nat)):TI:=λσ H R=>∃ μ S ρ,EnvOk K μ H ρ σ/\Rep K cl μ S H/\Post K cl xe μ H (f ρ S) λp _ μ' H'=>∀ J,Yl K cl J μ' H' p.1->R J H'
theorem PI.imp {X:Cx} {tg it:Expr} {t t':TI} (h:PI X tg it t) (k:∀ σ H R,t' σ H R->t σ H R):PI X tg it t':=λpins s σ H R I q=>h pins s σ H R I (k σ H R q)
theorem c28 {X:Cx} {tg l:Expr} {tl:TE} (hl:PE X l tl):PI X tg l (λσ H R=>tl σ H λx H1=>∃ a,x=.ref a/\(((∃ xs,SqL X.K H1 a xs)/\R (Itl X.K a) H1)\/((∃ xs,SqT X.K H1 a xs)/\R (Itt X.K a) H1))):=by
 intro pins s σ H R I h
 refine thn (hl pins s σ H _ I h) λv s1 ⟨x,H1,I1,r1,q1⟩=>?_
 obtain ⟨a,e,q1⟩:=q1
 subst e
 cases r1
 rcases q1 with ⟨⟨xs,hq⟩,q⟩ | ⟨⟨xs,hq⟩,q⟩
 ·obtain ⟨its,rv,p,hz⟩:=I1.list hq
  refine wpAny_pyIter_list p.isList ?_
  refine ⟨s1.heap.objs.size,[s1.heap.objs.size],_,_,H1,rfl,I1.kept (t':=s1.toks) λb o e=>Heap.get?_push_of_some _ e,b05 a _,⟨_,Heap.get?_push_size _ rfl,rfl,rfl⟩,λb hb=>?_,q⟩
  have e:b=s1.heap.objs.size:=by simpa using hb
  subst e
  exact I1.fpOk (Nat.le_refl _) (I1.hok.fresh (Nat.le_refl _))
 ·obtain ⟨its,rv,p,hz⟩:=I1.tuple hq
  refine wpAny_pyIter_tuple (show s1.heap.IsTuple a its.toArray from p) ?_
  refine ⟨s1.heap.objs.size,[s1.heap.objs.size],_,_,H1,rfl,I1.kept (t':=s1.toks) λb o e=>Heap.get?_push_of_some _ e,a7r a _,⟨_,Heap.get?_push_size _ rfl,rfl,rfl⟩,λb hb=>?_,q⟩
  have e:b=s1.heap.objs.size:=by simpa using hb
  subst e
  exact I1.fpOk (Nat.le_refl _) (I1.hok.fresh (Nat.le_refl _))
noncomputable def M9 (ds:List D):Src:=λi _=>some ds[i]?
noncomputable def c6v (n:Nat):Src:=λi S=>match S[n]? with
 | some (.lst es)=>some es[i]?
 | _=>none
noncomputable def a39 (lo:Int) (n:Nat):Src:=λi _=>some (if i<n then some (.int (lo+i)) else none)
section
variable {K:PySem.W.Frag} {cl:Nat->Addr} {μ:Mp} {H:Hp}
theorem c5k {a:Addr} {xs:List V} {ds:List D} (h:TupAt K μ H a xs) (r:RDs K μ H ds xs):Yl K cl (Itt K a) μ H (M9 ds):=λi μ2 H2 S2 l rp=>by
 have hq:SqT K H2 a xs:=by
  rcases h with ⟨q,n1,n2⟩ | q
  ·rcases q with q | ⟨o,q⟩
   ·exact .inl (.inl (l.oth _ _ q n1 n2))
   ·exact .inl (.inr ⟨o,l.oth _ _ q n1 n2⟩)
  ·obtain ⟨o,its,n,c1,c2,c3,c4,c5,_⟩:=q
   exact .inr ⟨o,its,n,c1,c2,c3,c4,c5⟩
 have r2:=r.laterU l
 show a2h K cl (Itt K a) i μ2 H2 S2 (some ds[i]?)
 cases e:ds[i]? with
 | none=>exact ⟨xs,hq,by rw [<- r.length];exact List.getElem?_eq_none_iff.mp e⟩
 | some d=>
  obtain ⟨v,e1,r1⟩:=r2.get e
  exact ⟨⟨xs,v,hq,e1⟩,λx H3 ⟨e3,q⟩=>by subst e3;have:=q xs hq;rw [e1] at this;cases this;exact ⟨Lat.refl _ _,rp,r1⟩⟩
theorem b31 {a:Addr} {xs:List V} {ds:List D} (h:LstAt μ H a xs\/ScrAt K μ H a xs) (r:RDs K μ H ds xs):Yl K cl (Itl K a) μ H (M9 ds):=λi μ2 H2 S2 l rp=>by
 have hq:SqL K H2 a xs:=by
  rcases h with ⟨q,n1,n2⟩ | ⟨q,n1,n2⟩ | q
  ·exact .inl (.inl (l.oth _ _ q n1 n2))
  ·rcases q with q | ⟨o,q⟩
   ·exact .inl (.inl (l.oth _ _ q n1 n2))
   ·exact .inl (.inr ⟨o,l.oth _ _ q n1 n2⟩)
  ·exact .inr q
 have r2:=r.laterU l
 show a2h K cl (Itl K a) i μ2 H2 S2 (some ds[i]?)
 cases e:ds[i]? with
 | none=>exact ⟨xs,hq,by rw [<- r.length];exact List.getElem?_eq_none_iff.mp e⟩
 | some d=>
  obtain ⟨v,e1,r1⟩:=r2.get e
  exact ⟨⟨xs,v,hq,e1⟩,λx H3 ⟨e3,q⟩=>by subst e3;have:=q xs hq;rw [e1] at this;cases this;exact ⟨Lat.refl _ _,rp,r1⟩⟩
theorem c3f {a:Addr} {n:Nat} (h:μ.pl[n]?=some a):Yl K cl (Itl K a) μ H (c6v n):=λi μ2 H2 S2 l rp=>by
 show a2h K cl (Itl K a) i μ2 H2 S2 (match S2[n]? with
  | some (.lst es)=>some es[i]?
  | _=>none)
 cases q1:S2[n]? with
 | none=>exact True.intro
 | some o=>
  cases o with
  | dct _=>exact True.intro
  | exc _ _=>exact True.intro
  | lst es=>
   obtain ⟨xs,h1,h2⟩:=rp.ats n _ a q1 (l.pre _ _ h)
   have hq:SqL K H2 a xs:=.inl (.inl h1)
   show a2h K cl (Itl K a) i μ2 H2 S2 (some es[i]?)
   cases e:es[i]? with
   | none=>exact ⟨xs,hq,by rw [<- h2.length];exact List.getElem?_eq_none_iff.mp e⟩
   | some d=>
    obtain ⟨v,e1,r1⟩:=h2.get e
    exact ⟨⟨xs,v,hq,e1⟩,λx H3 ⟨e3,q⟩=>by subst e3;have:=q xs hq;rw [e1] at this;cases this;exact ⟨Lat.refl _ _,rp,r1⟩⟩
theorem b48 {lo:Int} {n:Nat}:Yl K cl (Itr lo n) μ H (a39 lo n):=λi μ2 H2 S2 l rp=>by
 show a2h K cl (Itr lo n) i μ2 H2 S2 (some (if i<n then some (.int (lo+i)) else none))
 by_cases hi:i<n
 ·rw [if_pos hi]
  exact ⟨hi,λx H3 ⟨e3,e4⟩=>by subst e3 e4;exact ⟨Lat.refl _ _,rp,.int _⟩⟩
 ·rw [if_neg hi]
  exact Nat.le_of_not_lt hi
end
noncomputable def A4 (d:D):M (Src×Nat):=match d with
 | .tup ds=>ret (M9 ds,ds.length+1)
 | .lst ds=>ret (M9 ds,ds.length+1)
 | .scr ds=>ret (M9 ds,ds.length+1)
 | .ref n=>λS=>match S[n]? with
  | some (.lst ds)=>.ok (c6v n,ds.length+1) S
  | _=>.bad
 | _=>bad
noncomputable def y8 (ds:List D):M (Src×Nat):=match ds with
 | [.int j]=>if -(2 ^ 62)<=j/\j<2 ^ 62 then ret (a39 0 j.toNat,j.toNat+1) else bad
 | [.int i,.int j]=>if -(2 ^ 62)<=i/\i<2 ^ 62/\-(2 ^ 62)<=j/\j<2 ^ 62 then ret (a39 i (j-i).toNat,(j-i).toNat+1) else bad
 | _=>bad
section
variable {X:Cx} {cl:Nat->Addr} {xe:Addr->Hp->Prop} {e:Expr} {tg:Expr} {pos:Pos} {f:Env->M D}
theorem a82 {tg e:Expr}:PI X tg e (tIt X.K cl xe λ_=>bad):=λ_ _ _ _ _ _ ⟨_,_,_,_,_,p⟩=>p.elim
theorem b93 (h:PE X e (tD X.K cl xe f)):PI X tg e (tIt X.K cl xe λρ=>bind (f ρ) A4):=PI.imp (c28 h) λσ H R ⟨μ,S,ρ,eo,rp,p⟩=>
 ⟨μ,S,ρ,eo,rp,p.bind.imp λd S1 μ1 H1 l1 r1 p1 v rv=>by
  cases rv with
  | tup h r=>exact ⟨_,rfl,.inr ⟨⟨_,h.sq⟩,p1.ret μ1 H1 (Lat.refl _ _) r1 _ (c5k h r)⟩⟩
  | lst h r=>exact ⟨_,rfl,.inl ⟨⟨_,h.sq⟩,p1.ret μ1 H1 (Lat.refl _ _) r1 _ (b31 (.inl h) r)⟩⟩
  | scr h r=>exact ⟨_,rfl,.inl ⟨⟨_,h.sq⟩,p1.ret μ1 H1 (Lat.refl _ _) r1 _ (b31 (.inr h) r)⟩⟩
  | ref h=>
   rename_i n a
   simp only [A4] at p1
   cases q1:S1[n]? with
   | none=>rw [q1] at p1;exact p1.elim
   | some o=>
    rw [q1] at p1
    cases o with
    | lst ds=>
     obtain ⟨xs,h1,h2⟩:=r1.ats n _ a q1 h
     exact ⟨_,rfl,.inl ⟨⟨xs,.inl (.inl h1)⟩,p1 μ1 H1 (Lat.refl _ _) r1 _ (c3f h)⟩⟩
    | dct _=>exact p1.elim
    | exc _ _=>exact p1.elim
  | _=>exact False.elim p1⟩
theorem a72 {a:Expr} {fs:Env->M (List D)} {p:Pos} (hg:Gl X "range") (hm:X.mg "range" = none) (ha:PA X [a] (tDs X.K cl xe fs)) (hs:noStar a=true):PI X tg (.Call (.Name "range" p) [a] [] pos) (tIt X.K cl xe λρ=>bind (fs ρ) λds=>if ds.length=1 then y8 ds else bad):=
 PI.imp (b0g hg hm ha (f7 hs)) λσ H R ⟨μ,S,ρ,eo,rp,p⟩=>⟨μ,S,ρ,eo,rp,p.bind.imp λds S1 μ1 H1 l1 r1 p1 vs rvs=>by
  cases rvs with
  | nil=>exact False.elim p1
  | cons h t=>
   cases t with
   | cons _ t=>rw [if_neg (by simp)] at p1;exact p1.elim
   | nil=>
    rename_i d0 v0
    rw [if_pos (show ([d0]:List D).length=1 from rfl)] at p1
    cases h with
    | int j=>
     obtain ⟨⟨h1,h2⟩,p1⟩:=Post.guard p1
     exact ⟨j,rfl,h1,h2,p1 μ1 H1 (Lat.refl _ _) r1 _ b48⟩
    | _=>exact False.elim p1⟩
end
noncomputable def p9 (src:Src) (tg:D->Env->Option Env) (body:Env->M Fl):Nat->Nat->Env->M Fl
 | 0,_,_=>bad
 | m+1,i,ρ=>λS=>match src i S with
  | none=>.bad
  | some none=>.ok (.nx ρ) S
  | some (some d)=>match tg d ρ with
   | none=>.bad
   | some ρ1=>bind (body ρ1) (λfl=>match fl with
    | .nx ρ2=>p9 src tg body m (i+1) ρ2
    | .ct ρ2=>p9 src tg body m (i+1) ρ2
    | .bk ρ2=>ret (.nx ρ2)
    | .rt d=>ret (.rt d)) S
section
variable {X:Cx} {cl:Nat->Addr} {xe:Addr->Hp->Prop} {iter tgt:Expr} {pos:Pos} {fi:Env->M (Src×Nat)} {tg:D->Env->Option Env} {g:Env->M Fl} {body:List Stmt}
theorem b81 (hp:PassesOwn (model X.prog X.w) X.A X.env X.xe) (hc:X.calm=true) (hi:PI X tgt iter (tIt X.K cl xe fi)) (hg:PG X tgt (b86 X.K cl tg)) (hb:PSs X body (sD X.K cl xe g)) (hn:G2 iter=true) :
  PS X (.For tgt iter body [] pos) (sD X.K cl xe λρ=>bind (fi ρ) λp=>p9 p.1 tg g p.2 0 ρ):=PS.imp (c3t hp hc hi hg hb (Y0 hn)) λD σ H ⟨μ,S,ρ,eo,rp,p⟩=>by
 refine ⟨μ,S,ρ,eo,rp,p.bind.imp λsm S1 μ1 H1 l1 r1 p1 J yl=>?_⟩
 obtain ⟨src,m⟩:=sm
 refine ⟨λi m σ H=>∃ μ2 S2 ρ2,LatR μ1 H1 μ2 H/\EnvOk X.K μ2 H ρ2 σ/\Rep X.K cl μ2 S2 H/\Post X.K cl xe μ2 H (p9 src tg g m i ρ2 S2) (λfl _ μ' H'=>FlOk X.K D fl μ' H'),⟨m,μ1,S1,ρ,(Lat.refl _ _).r,eo.later l1,r1,p1⟩,?_⟩
 rintro i m σ2 H2 ⟨μ2,S2,ρ2,l2,eo2,r2,p2⟩
 cases m with
 | zero=>exact p2.elim
 | succ m=>
  have y:a2h X.K cl J i μ2 H2 S2 (src i S2):=yl i μ2 H2 S2 l2.u r2
  simp only [p9] at p2
  cases e1:src i S2 with
  | none=>rw [e1] at p2;exact p2.elim
  | some o=>
   rw [e1] at p2 y
   cases o with
   | none=>exact .inl ⟨y,p2 μ2 H2 (Lat.refl _ _) r2 σ2 eo2⟩
   | some d=>
    obtain ⟨y1,y2⟩:=y
    cases e2:tg d ρ2 with
    | none=>simp only [e2] at p2;exact p2.elim
    | some ρ3=>
     simp only [e2] at p2
     refine .inr ⟨y1,λσ' H'=>∃ μ3 S3 ρ4,LatR μ1 H1 μ3 H'/\EnvOk X.K μ3 H' ρ4 σ'/\Rep X.K cl μ3 S3 H'/\Post X.K cl xe μ3 H' (p9 src tg g m (i+1) ρ4 S3) (λfl _ μ' H'=>FlOk X.K D fl μ' H'),λσ' H' q=>⟨m,Nat.lt_succ_self _,q⟩,λx H3 hy=>?_⟩
     obtain ⟨l3,r3,rd3⟩:=y2 x H3 hy
     refine ⟨μ2,S2,ρ2,d,ρ3,eo2.later l3,r3,rd3,e2,λσ3 eo3=>?_⟩
     refine ⟨μ2,S2,ρ3,eo3,r3,(Post.later p2 l3).bind.imp λfl S4 μ4 H4 l4 r4 p4=>?_⟩
     have lr:LatR μ1 H1 μ4 H4:=by
      have l34:=l3.trans l4
      refine ⟨λn a e=>l34.pre n a (l2.pre n a e),λa o e n=>l34.oth a o (l2.oth a o e n) (λz=>(l2.new a z).elim n (λq=>by rw [e] at q;cases q)),λa m=>(l34.new a m).elim (λz=>l2.new a z) (λz=>?_),λa m=>l2.rsw a (by rw [<- l34.rsv];exact m)⟩
      by_cases mm:a∈μ1.pl
      ·exact .inl mm
      ·right
       cases e:H1 a with
       | none=>rfl
       | some o=>rw [l2.oth a o e mm] at z;cases z
     cases fl with
     | nx ρ4=>exact λσ4 eo4=>⟨μ4,S4,ρ4,lr,eo4,r4,p4⟩
     | ct ρ4=>exact λσ4 eo4=>⟨μ4,S4,ρ4,lr,eo4,r4,p4⟩
     | bk ρ4=>exact p4.ret μ4 H4 (Lat.refl _ _) r4
     | rt d=>exact p4.ret μ4 H4 (Lat.refl _ _) r4
end
structure HLat (μ:Mp) (H:Hp) (p:Addr) (μ2:Mp) (H2:Hp):Prop where
 r:LatR μ H μ2 H2
 rs:μ2.rs=p :: μ.rs
theorem HLat.lat {μ μ2 μ':Mp} {H H2 H':Hp} {p:Addr} (h:HLat μ H p μ2 H2) (l:Lat μ2 H2 μ' H'):Lat μ H μ'.free H':=by
 refine ⟨λn a e=>l.pre n a (h.r.pre n a e),λa o e n=>?_,λa m=>?_,by show μ'.rs.tail=μ.rs;rw [l.rsv,h.rs];rfl⟩
 ·have n2:a∉μ2.pl:=λz=>(h.r.new a z).elim n λq=>by rw [e] at q;cases q
  exact l.oth a o (h.r.oth a o e n) n2
 ·rcases l.new a m with q | q
  ·exact h.r.new a q
  ·by_cases mm:a∈μ.pl
   ·exact .inl mm
   ·right
    cases e:H a with
    | none=>rfl
    | some o=>rw [h.r.oth a o e mm] at q;cases q
theorem HLat.step {μ μ2 μ3:Mp} {H H2 H3:Hp} {p:Addr} (h:HLat μ H p μ2 H2) (l:Lat μ2 H2 μ3 H3):HLat μ H p μ3 H3:=by
 have k:=h.lat l
 refine ⟨⟨k.pre,k.oth,k.new,λa m=>h.r.rsw a (by rw [<- l.rsv];exact m)⟩,by rw [l.rsv];exact h.rs⟩
section
variable {K:PySem.W.Frag} {cl:Nat->Addr} {xe:Addr->Hp->Prop} {α β:Type} {μ μ2:Mp} {H H2:Hp} {p:Addr} {S:Sto}
theorem Post.at {m:M α} {k:α->M β} {G:β->Sto->Mp->Hp->Prop} (h:Post K cl xe μ H (L3.bind m k S) G) (l:HLat μ H p μ2 H2):Post K cl xe μ2 H2 (m S) (λa S' _ _=>Post K cl xe μ H (k a S') G):=by
 unfold L3.bind at h
 cases e:m S with
 | ok a S1=>rw [e] at h;exact λ_ _ _ _=>h
 | exn n S1=>rw [e] at h;exact λμ' H' a k r q=>h μ'.free H' a (l.lat k) (a47 r) q
 | bad=>rw [e] at h;exact h
end
noncomputable def a08 (src:Src) (t:Env->M Bool) (f:Env->M D) (mk:D->Env):Nat->Nat->List D->M (List D)
 | 0,_,_=>bad
 | m+1,i,es=>λS=>match src i S with
  | none=>.bad
  | some none=>.ok es S
  | some (some d)=>bind (t (mk d)) (λb=>if b=true then bind (f (mk d)) (λy=>if es.length<sizeLine then a08 src t f mk m (i+1) (es++[y]) else bad) else a08 src t f mk m (i+1) es) S
noncomputable def a5y (caps:List Nat) (ρ:Env):Env:=caps.map λi=>(ρ[i]?).join
theorem a8t {K:PySem.W.Frag} {μ:Mp} {H:Hp} {ρ:Env} {σ:L2.St} {caps:List Nat} {d:D} {x:V} (eo:EnvOk K μ H ρ σ) (r:RD K μ H d x):EnvOk K μ H (some d :: a5y caps ρ) (some x :: K7 caps σ):=by
 refine ⟨by simp [a5y,K7],λi e he=>?_⟩
 cases i with
 | zero=>simp at he;subst he;exact ⟨x,rfl,r⟩
 | succ j=>
  have he:(a5y caps ρ)[j]?=some (some e):=he
  unfold a5y at he
  rw [List.getElem?_map] at he
  cases q:caps[j]? with
  | none=>rw [q] at he;cases he
  | some i=>
   rw [q] at he
   have h':(ρ[i]?).join=some e:=Option.some.inj he
   have h2:ρ[i]?=some (some e):=by
    cases q2:ρ[i]? with
    | none=>rw [q2] at h';cases h'
    | some o=>rw [q2] at h';exact congrArg some h'
   obtain ⟨v,e1,r1⟩:=eo.2 i e h2
   refine ⟨v,?_,r1⟩
   show (K7 caps σ)[j]?=_
   unfold K7
   rw [List.getElem?_map,q]
   show some (σ[i]?).join=_
   rw [e1];rfl
noncomputable def a93 (caps:List Nat) (fi:Env->M (Src×Nat)) (t:Env->M Bool) (f:Env->M D) (ρ:Env):M (List D):=bind (fi ρ) λsm=>a08 sm.1 t f (λd=>some d :: a5y caps ρ) sm.2 0 []
theorem a0z {K:PySem.W.Frag} {cl:Nat->Addr} {xe:Addr->Hp->Prop} {caps:List Nat} {fi:Env->M (Src×Nat)} {t:Env->M Bool} {f:Env->M D} {σ:L2.St} {H:Hp} {μ:Mp} {S:Sto} {ρ:Env} {Q:VK} (eo:EnvOk K μ H ρ σ) (rp:Rep K cl μ S H)
  (p:Post K cl xe μ H (a93 caps fi t f ρ S) λds _ μ' H'=>∀ acc ys,LstAt μ' H' acc ys->RDs K μ' H' ds ys->Q (.ref acc) H'):b5t caps (tIt K cl xe fi) (tBo K cl xe t) (tD K cl xe f) σ H Q:=by
 refine ⟨μ,S,ρ,eo,rp,p.bind.imp λsm S1 μ1 H1 l1 r1 p1 J yl acc hacc=>?_⟩
 obtain ⟨src,m0⟩:=sm
 have nrs:acc∉μ1.rs:=r1.notrs hacc
 refine ⟨λi m ys H2=>∃ μ2 S2 es,HLat μ1 H1 acc μ2 H2/\acc∉μ2.pl/\H2 acc=some (.lst ys)/\EnvOk K μ2 H2 ρ σ/\Rep K cl μ2 S2 H2/\RDs K μ2 H2 es ys/\Post K cl xe μ1 H1 (a08 src t f (λd=>some d :: a5y caps ρ) m i es S2) (λds _ μ' H'=>∀ acc ys,LstAt μ' H' acc ys->RDs K μ' H' ds ys->Q (.ref acc) H'),⟨m0,μ1.hold acc,S1,[],?_,r1.notin hacc,c8,a5e r1 hacc (eo.later l1),a51 r1 hacc,.nil,p1⟩,?_⟩
 ·refine ⟨⟨λ_ _ e=>e,λa o e _=>by rw [a9 (c9 e hacc)];exact e,λa m=>.inl m,λa m=>?_⟩,rfl⟩
  rcases List.mem_cons.mp (show a∈acc :: μ1.rs from m) with rfl | m
  ·exact .inr hacc
  ·exact .inl m
 rintro i m ys H2 ⟨μ2,S2,es,hl,npl,e2,eo2,r2,rds2,p2⟩
 refine ⟨e2,?_⟩
 cases m with
 | zero=>exact p2.elim
 | succ m=>
  have y:a2h K cl J i μ2 H2 S2 (src i S2):=yl i μ2 H2 S2 hl.r.u r2
  simp only [a08] at p2
  cases e1:src i S2 with
  | none=>rw [e1] at p2;exact p2.elim
  | some o=>
   rw [e1] at p2 y
   cases o with
   | none=>
    refine .inl ⟨y,p2 μ2.free H2 (hl.lat (Lat.refl _ _)) (a47 r2) acc ys ⟨e2,npl,?_⟩ (b4k rds2)⟩
    show acc∉μ2.rs.tail
    rw [hl.rs];exact nrs
   | some d=>
    obtain ⟨y1,y2⟩:=y
    refine .inr ⟨y1,λx H3 hy=>?_⟩
    obtain ⟨l3,r3,rd3⟩:=y2 x H3 hy
    have h3:=hl.step l3
    refine ⟨μ2,S2,_,a8t (eo2.later l3) rd3,r3,(Post.at p2 h3).imp λb S5 μ5 H5 l5 r5 p5=>?_⟩
    have h5:=h3.step l5
    have l35:=l3.trans l5
    have a5:H5 acc=some (.lst ys):=l35.oth _ _ e2 npl
    have n5:acc∉μ5.pl:=l35.out e2 npl
    cases b with
    | false=>exact ⟨m,Nat.lt_succ_self _,μ5,S5,es,h5,n5,a5,eo2.later l35,r5,rds2.later l35,p5⟩
    | true=>
     refine d3l ?_
     rw [if_pos rfl] at p5
     refine ⟨μ5,S5,_,(a8t (eo2.later l3) rd3).later l5,r5,(Post.at p5 h5).imp λyv S6 μ6 H6 l6 r6 p6 v rv=>?_⟩
     have h6:=h5.step l6
     have l36:=l35.trans l6
     have a6:H6 acc=some (.lst ys):=l6.oth _ _ a5 n5
     have n6:acc∉μ6.pl:=l6.out a5 n5
     by_cases hz:es.length<sizeLine
     ·rw [if_pos hz] at p6
      have er:μ6.rs=acc :: μ1.rs:=h6.rs
      refine ⟨a6,by rw [<- rds2.length];exact hz,m,Nat.lt_succ_self _,μ6,S6,es++[yv],?_,n6,c8,?_,b0t er a6 r6,b18 er ((rds2.later l36).append (.cons rv .nil)),p6⟩
      ·refine ⟨⟨h6.r.pre,λa o e n=>?_,h6.r.new,h6.r.rsw⟩,er⟩
       rw [a9 (c9 e hacc)]
       exact h6.r.oth a o e n
      ·have eo6:=eo2.later l36
       exact ⟨eo6.1,λj e he=>let ⟨w,q,r⟩:=eo6.2 j e he;⟨w,q,b2h er r⟩⟩
     ·rw [if_neg hz] at p6;exact p6.elim
section
variable {X:Cx} {cl:Nat->Addr} {xe:Addr->Hp->Prop} {elt iter:Expr} {x:Str} {px pos:Pos} {ifs:List Expr} {scope:Scope} {N':List Str} {caps:List Nat} {fi:Env->M (Src×Nat)} {t:Env->M Bool} {f:Env->M D}
theorem b1r {X:Cx}:PTL X [] (tBo X.K cl xe λ_=>ret true):=λpins s σ H Q I ⟨μ,S,ρ,eo,rp,p⟩=>b7k pins s σ H Q I (p μ H (Lat.refl _ _) rp)
theorem a5w (T:CompText X.N X.env N' 1 caps scope) (hc:X.calm=true) (hN:N'.Nodup) (hx0:N'[0]?=some x) (hxl:scope.names.lookup x=some .local) (hi:PI X (.Name x px) iter (tIt X.K cl xe fi))
  (ht:∀ pins C fp s H,PTL (i4 X pins N' scope C fp s H) ifs (tBo X.K cl xe t)) (he:∀ pins C fp s H,PE (i4 X pins N' scope C fp s H) elt (tD X.K cl xe f)) (hn:G2 iter=true) :
  PE X (.ListComp elt [⟨.Name x px,iter,ifs,0⟩] scope pos) (λσ H Q=>∃ μ S ρ,EnvOk X.K μ H ρ σ/\Rep X.K cl μ S H/\Post X.K cl xe μ H (a93 caps fi t f ρ S) λds _ μ' H'=>∀ acc ys,LstAt μ' H' acc ys->RDs X.K μ' H' ds ys->Q (.ref acc) H'):=
 PE.imp (c0e T hc hN hx0 hxl hi ht he (Y0 hn)) λσ H Q ⟨μ,S,ρ,eo,rp,p⟩=>a0z eo rp p
end
def c1r (K:PySem.W.Frag) (cl:Nat->Addr) (xe:Addr->Hp->Prop) (fs:Env->M (List D)):TE:=λσ H Q=>∃ μ S ρ,EnvOk K μ H ρ σ/\Rep K cl μ S H/\Post K cl xe μ H (fs ρ S) λds _ μ' H'=>∀ acc ys,LstAt μ' H' acc ys->RDs K μ' H' ds ys->Q (.ref acc) H'
end L3
namespace L2
open PySem PySem.Spec PyProof.Rows
section
variable {prog:Program} {w:World} {A:Around} {E:Value->Shared->Prop} {s:Shared}
theorem W2 {it l:Addr} {i:Nat} {items} {x:Value} {Q:Value->Shared->Prop} (hit:s.heap.IsTupleIter it l i)
  (hl:s.heap.IsTuple l items) (hx:items[i]?=some x)
  (hQ:∀ h',h'.IsTupleIter it l (i+1)->Heap.SameBut it s.heap h'->Q x { s with heap:=h' }) :
  wpAny (model prog w) A (Builtin.SmallTypes.nextOf (.ref it)) Q E s:=by
 obtain ⟨o,ho,hc,hd⟩:=id hit
 obtain ⟨ol,hol,_,nl,hdl⟩:=hl
 unfold Builtin.SmallTypes.nextOf
 refine wpAny_bind (wpAny_callSpecial?_slot (name:=Str.ofString "__next__") hit.typeIs F.slot_tuple_iterator_next
  (wpAny_call_entry F.slot_tuple_iterator_next hit.typeIs F.entry_tuple_iterator_next ?_ (F.args_tuple_iterator_next_1 _)))
 show wpAny _ _ (field (.ref it) 0 >>= _) _ _ s
 refine wpAny_bind (wpAny_field ho hd (x:=.ref l) rfl ?_)
 show wpAny _ _ (if (Value.ref l==Value.none)=true then _ else _) _ _ s
 rw [if_neg (show ¬ ((Value.ref l==Value.none)=true) from Bool.false_ne_true)]
 show wpAny _ _ (field (.ref it) 1 >>= _) _ _ s
 refine wpAny_bind (wpAny_field ho hd (x:=.int i 0) rfl ?_)
 show wpAny _ _ (seqItems? (.ref l) >>= _) _ _ s
 refine wpAny_bind (wpAny_seqItems hol hdl ?_)
 simp only [Int.toNat_natCast,hx]
 refine wpAny_bind (wpAny_setField ho hd (by simp) (wpAny_pure ⟨x,rfl,wpAny_pure (hQ _ ?_ (Heap.SameBut.update ..))⟩))
 exact ⟨_,Heap.get?_update_self _ ho (Obj.isFreed_of_fields (Obj.data_mapFields hd _)),(Obj.cls_mapFields ..).trans hc,by
  rw [Obj.data_mapFields hd];simp [rawInt]⟩
theorem Y2 {it l:Addr} {i:Nat} {items} {Q:Value->Shared->Prop} (hh:A.handled=none)
  (hit:s.heap.IsTupleIter it l i) (hl:s.heap.IsTuple l items) (hx:items[i]?=none)
  (hE:∀ h' e,Heap.ExtBut it s.heap h'->(∃ o,h'.get? e=some o/\o.cls=.type "StopIteration")->E (.ref e) { s with heap:=h' }) :
  wpAny (model prog w) A (Builtin.SmallTypes.nextOf (.ref it)) Q E s:=by
 obtain ⟨o,ho,hc,hd⟩:=id hit
 obtain ⟨ol,hol,_,nl,hdl⟩:=hl
 unfold Builtin.SmallTypes.nextOf
 refine wpAny_bind (wpAny_callSpecial?_slot (name:=Str.ofString "__next__") hit.typeIs F.slot_tuple_iterator_next
  (wpAny_call_entry F.slot_tuple_iterator_next hit.typeIs F.entry_tuple_iterator_next ?_ (F.args_tuple_iterator_next_1 _)))
 show wpAny _ _ (field (.ref it) 0 >>= _) _ _ s
 refine wpAny_bind (wpAny_field ho hd (x:=.ref l) rfl ?_)
 show wpAny _ _ (if (Value.ref l==Value.none)=true then _ else _) _ _ s
 rw [if_neg (show ¬ ((Value.ref l==Value.none)=true) from Bool.false_ne_true)]
 show wpAny _ _ (field (.ref it) 1 >>= _) _ _ s
 refine wpAny_bind (wpAny_field ho hd (x:=.int i 0) rfl ?_)
 show wpAny _ _ (seqItems? (.ref l) >>= _) _ _ s
 refine wpAny_bind (wpAny_seqItems hol hdl ?_)
 simp only [Int.toNat_natCast,hx]
 refine wpAny_bind (wpAny_rule (wpAny_bind (wpAny_setField ho hd (by simp) ?_)))
 show wpAny _ _ (newExc (.type "StopIteration") [] >>= _) _ _ _
 refine wpAny_bind ?_
 simp only [newExc,newTuple]
 refine wpAny_bind (wpAny_newObj_type ?_ (by size_fits))
 refine wpAny_bind (m:=firstArgMember _ _) (wpAny_of_eq (a:=Value.none) (by first | rfl | (simp only [firstArgMember];rfl)) ?_)
 refine wpAny_newObj_type ?_ (by size_fits)
 simp only [raiseNew]
 refine wpAny_bind (wpAny_handled ?_)
 first | rw [show A.in1.handled=none from hh] | rw [hh]
 refine wpAny_bind (wpAny_pure (wpAny_throw ?_))
 exact hE _ _ (((Heap.SameBut.update ..).extBut.push _).push _) ⟨_,Heap.get?_push_size _ rfl,rfl⟩
end
theorem b2d {h h':Heap} {a:Addr} {items:Array Value} (x:h.IsTuple a items) (k:∀ o,h.get? a=some o->h'.get? a=some o):h'.IsTuple a items:=let ⟨o,ho,r⟩:=x;⟨o,k o ho,r⟩
theorem b2u {prog:Program} {w:World} {A:Around} (hh:A.handled=none) (it l:Addr) (hne:l≠it) (items:Array Value) :
  Draws prog w A it [it,l] items.size (λi v=>items[i]?=some v) (λi h=>h.IsTupleIter it l i/\h.IsTuple l items) where
 live:=λ_ _ st=>let ⟨o,ho,_⟩:=st.1;⟨o,ho⟩
 frame:=λ_ _ _ st hk=>⟨(let ⟨o,ho,r⟩:=st.1;⟨o,hk it (by simp) o ho,r⟩),b2d st.2 λo e=>hk l (by simp) o e⟩
 item:=λi s Q E hi st hQ=>by
  refine W2 st.1 st.2 (x:=items[i]) (by simp [hi]) λh' hit' hs'=>?_
  exact hQ _ h' s.toks (by simp [hi]) ⟨hit',st.2.extBut hs'.extBut hne⟩ hs'
 done:=λs Q E st hE=>Y2 hh st.1 st.2 (by simp) hE
theorem a46 (l:Addr) (items:Array Value) (n:Nat) (dct:Option Addr) (sl:Array (Option Value)) :
  Meets (Builtin.«enumerate.__new__» ⟨[.type "enumerate",.ref l],[]⟩) (λ_ R s=>s.heap.get? l=some { cls:=.type "tuple",dict:=dct,data:=.seq items n,slots:=sl } /\
   R (.ok (.ret (.ref (s.heap.push { cls:=.type "tuple_iterator",data:=.fields #[.ref l,.int 0 0] }).objs.size)))
    { s with heap:=(s.heap.push { cls:=.type "tuple_iterator",data:=.fields #[.ref l,.int 0 0] }).push { cls:=.type "enumerate",data:=.fields #[.none,.bool false,.ref s.heap.objs.size,rawInt 0,.none,.none] } }):=
 .of_wp λprog w A R s h=>by
  obtain ⟨hp,g,d,tk,os⟩:=s;obtain ⟨hl,h⟩:=h
  have hsub:=sub_enumerate
  have hL:Heap.IsTuple (Shared.heap ⟨hp,g,d,tk,os⟩) l items:=⟨_,hl,rfl,n,rfl⟩
  wp_walk using AutoSeq1.wpAny_loadPart' hl
  refine wpAny_stack_any λst=>wpAny_pure ?_
  split
  ·rename_i c _ _ _ _ _
   cases (c==Value.type "enumerate")
   ·wp_walk using AutoSeq1.wpAny_loadPart' hl,wpAny_pyIter_tuple hL
    exact ⟨_,rfl,h⟩
   ·wp_walk using AutoSeq1.wpAny_loadPart' hl,wpAny_pyIter_tuple hL
    exact ⟨_,rfl,h⟩
  ·wp_walk using AutoSeq1.wpAny_loadPart' hl,wpAny_pyIter_tuple hL
   exact ⟨_,rfl,h⟩
section
variable {prog:Program} {w:World} {A:Around} {E:Value->Shared->Prop} {s:Shared}
theorem a64 {l:Addr} {items:Array Value} {Q:Value->Shared->Prop} (hL:s.heap.IsTuple l items)
  (h:∀ h',IsEnum h' (s.heap.objs.size+1) s.heap.objs.size 0 .none->h'.IsTupleIter s.heap.objs.size l 0->h'.objs.size=s.heap.objs.size+2 ->
   (∀ b o,s.heap.get? b=some o->h'.get? b=some o)->Q (.ref (s.heap.objs.size+1)) { s with heap:=h' }) :
  wpAny (model prog w) A (call (.type "enumerate") [.ref l]) Q E s:=by
 obtain ⟨⟨c,dct,dt,sl⟩,hl,hc,n,hd⟩:=hL
 replace hc:c=.type "tuple":=hc
 replace hd:dt=.seq items n:=hd
 subst hc hd
 refine callType_new F.called_enumerate (by decide) (F.typeCall_enumerate_1 _) (F.newCall_enumerate_1 _) (λobj=>F.args_object_init_2 obj _) F.entry_enumerate_new
  (a46 l items n dct sl) ⟨hl,?_⟩
 have hz:(s.heap.push { cls:=.type "tuple_iterator",data:=.fields #[.ref l,.int 0 0] }).objs.size=s.heap.objs.size+1:=Heap.size_push ..
 show _/\_
 rw [hz]
 have he:IsEnum ((s.heap.push { cls:=.type "tuple_iterator",data:=.fields #[.ref l,.int 0 0] }).push
   { cls:=.type "enumerate",data:=.fields #[.none,.bool false,.ref s.heap.objs.size,rawInt 0,.none,.none] }) (s.heap.objs.size+1) s.heap.objs.size 0 .none:=by
  have:=Heap.get?_push_size (s.heap.push { cls:=.type "tuple_iterator",data:=.fields #[.ref l,.int 0 0] })
   (o:={ cls:=.type "enumerate",data:=.fields #[.none,.bool false,.ref s.heap.objs.size,rawInt 0,.none,.none] }) rfl
  rw [hz] at this;exact this
 refine ⟨⟨_,he,rfl⟩,h _ he ⟨_,Heap.get?_push_of_some _ (Heap.get?_push_size _ rfl),rfl,rfl⟩ (by rw [Heap.size_push,hz]) λb o x=>Heap.get?_push_of_some _ (Heap.get?_push_of_some _ x)⟩
end
section
variable {X:Cx} {pins:List (Addr×Obj)} {σ:St} {H:Hp} {s:Shared} {h':Heap}
theorem Inv.turned2 {t':Nat} {e it:Addr} (I:Inv X pins σ H s) (k:∀ b o,b≠e->b≠it->s.heap.get? b=some o->h'.get? b=some o) (f:P2 X pins H e) (g:P2 X pins H it):Inv X pins σ H { s with heap:=h',toks:=t' }:=by
 obtain ⟨a0,a1,a2,a3,a4,a5⟩:=f
 obtain ⟨b0,b1,b2,b3,b4,b5⟩:=g
 have nit:∀ b u,H b=some u->b≠e/\b≠it:=λb u q=>⟨λz=>(by rw [z,a0] at q;cases q),λz=>(by rw [z,b0] at q;cases q)⟩
 have kk:∀ b o,b∉[e,it]->s.heap.get? b=some o->h'.get? b=some o:=λb o hb q=>k b o (λz=>hb (by simp [z])) (λz=>hb (by simp [z])) q
 refine I.step (g':=s.gens) (d':=s.drawn) (ch:=[e,it]) (λb hb=>?_) (λb o _ _ hc q _=>kk b o hc q) (λb o _ _ hc q _=>⟨o.slots,kk b o hc q⟩) (λ_ _ _ _ n=>n)
  (λb o hc q=>⟨o,kk b o hc q⟩) (λ_ _ q=>q) (λ_ _ _ q=>q) (λb ps q=>⟨#[],by rw [q];simp⟩) (λm hm=>?_) (λb u q=>?_) I.bare
 ·have z:b=e\/b=it:=by simpa using hb
  rcases z with rfl | rfl
  ·exact ⟨a3,a1,a4,a5⟩
  ·exact ⟨b3,b1,b4,b5⟩
 ·obtain ⟨o,es,ep,ho,r⟩:=hm
  exact ⟨o,es,ep,k _ o (Ne.symm a1) (Ne.symm b1) ho,r⟩
 ·refine (I.hok b u q).stay (λc v hc r=>?_) (λ_ r=>r) λ_ _ r=>r
  rcases hc with z | z
  ·rw [z] at r ⊢;exact k b v (nit b u q).1 (nit b u q).2 r
  ·exact k c v (nit c _ z).1 (nit c _ z).2 r
end
noncomputable def K3 (Sq:Hp->List V->Prop):It:=
 ⟨λi H=>∃ xs x,Sq H xs/\xs[i]?=some x,λi H x H'=>∃ p y,x=.ref p/\H p=none/\H'=upd H p (.tup [.int (i:Int),y])/\∀ xs,Sq H xs->xs[i]?=some y,λi H=>∃ xs,Sq H xs/\xs.length=i⟩
section
variable {P:Program} {w:World} {K:PySem.W.Frag} {elts:List Expr} {x1:Nat} {tp:Pos}
theorem a27 {X:Cx} {pins:List (Addr×Obj)} {σ:St} {H:Hp} {s:Shared} {E:Value->Shared->Prop} {e it:Addr} {fp:List Addr} {n i:Nat} {Pv:Nat->Value->Prop} {Sv:Nat->Heap->Prop} {old:Value} {y:V} {J:It} {tn:Nat->Heap->Prop}
  (I:Inv X pins σ H s) (hf:∀ b∈[e,it],P2 X pins H b) (D:Draws X.prog X.w X.A.in1 it fp n Pv Sv) (he:IsEnum s.heap e it i old) (hst:Sv i s.heap) (hlt:i<n) (hne:e≠it) (hef:e∉fp)
  (rv:∀ u,Pv i u->RelV y u) (hn:∀ h',(∃ o,IsEnum h' e it ((i:Int)+1) o)->Sv (i+1) h'->tn (i+1) h') (hy:∀ p,H p=none->J.yld i H (.ref p) (upd H p (.tup [.int (i:Int),y]))) :
  wpAny (model X.prog X.w) X.A (pyNext (.ref e)) (λr s1=>∃ u,r=some u /\
   wpAny (model X.prog X.w) X.A (letOwnedTupleGo (.Tuple elts x1 tp) (.ref e) u) (λ_ s2=>∃ x H',Inv X pins σ H' s2/\RelV x u/\J.yld i H x H'/\tn (i+1) s2.heap/\∀ b∈[e,it],H' b=none) E s1) E s:=by
 refine wpAny_pyNext_enum_itemD D he hst hlt hne hef λu h' tk hu ho hs' hT hsz hk=>?_
 have le:e<s.heap.objs.size:=Heap.lt_size he
 have li:it<s.heap.objs.size:=by obtain ⟨_,z⟩:=D.live _ _ hst;exact Heap.lt_size z
 refine ⟨_,rfl,wpAny_letOwnedTupleGo_enum ho λh2 he2 hs2=>?_⟩
 have fr:H s.heap.objs.size=none:=I.hok.fresh (Nat.le_refl _)
 have I1:Inv X pins σ (upd H s.heap.objs.size (.tup [.int (i:Int),y])) { s with heap:=s.heap.push { cls:=.type "tuple",data:=.seq #[.int i tk,u] },toks:=tk }:=
  I.laid (λb q z=>Heap.get?_push_of_some _ z) (Nat.le_refl _) ⟨by rw [sizeLine_eq];show 2<=16777216;omega,[.int i tk,u],.cons ⟨tk,rfl⟩ (.cons (rv u hu) .nil),⟨_,Heap.get?_push_size _ rfl,rfl,_,rfl,rfl⟩⟩
 have fk:∀ b,P2 X pins H b->b<s.heap.objs.size->P2 X pins (upd H s.heap.objs.size (.tup [.int (i:Int),y])) b:=λb ⟨c0,c1,c2,c3,c4,c5⟩ lb=>⟨by rw [a9 (Nat.ne_of_lt lb)];exact c0,c1,c2,c3,c4,c5⟩
 have I2:=I1.turned2 (e:=e) (it:=it) (h':=h2) (t':=tk+1) (λb o b1 b2 z=>by
  have:=Heap.get?_push_cases z
  rcases this with ⟨rfl,rfl⟩ | z1
  ·exact (hs2.2 _ b1).trans hT
  ·exact (hs2.2 b b1).trans (hk b o b1 b2 z1)) (fk e (hf e (by simp)) le) (fk it (hf it (by simp)) li)
 refine ⟨.ref s.heap.objs.size,_,I2,rfl,hy _ fr,hn _ ⟨_,he2⟩ (D.frame _ _ _ hs' λb hb o z=>(hs2.2 b λq=>hef (q▸hb)).trans z),λb hb=>?_⟩
 have z:b=e\/b=it:=by simpa using hb
 rcases z with rfl | rfl
 ·rw [a9 (Nat.ne_of_lt le)];exact (hf _ (by simp)).1
 ·rw [a9 (Nat.ne_of_lt li)];exact (hf _ (by simp)).1
end
section
variable {P:Program} {w:World} {K:PySem.W.Frag} {elts:List Expr} {x1:Nat} {tp:Pos}
theorem a23 {h:Heap} {e it:Addr} {i:Int} {old:Value} (z:IsEnum h e it i old):∃ o,h.get? e=some o/\∀ v,o.data≠.cell v:=⟨_,z,λv q=>by
 have q':Data.fields _=Data.cell v:=q
 cases q'⟩
theorem a8k {Sq:Hp->List V->Prop} {i:Nat} {H:Hp} {p:Addr} {y:V} (h:H p=none) (k:∀ xs,Sq H xs->xs[i]?=some y):(K3 Sq).yld i H (.ref p) (upd H p (.tup [.int (i:Int),y])):=by
 show ∃ p' y',V.ref p=.ref p'/\H p'=none/\upd H p (.tup [.int (i:Int),y])=upd H p' (.tup [.int (i:Int),y'])/\∀ xs,Sq H xs->xs[i]?=some y'
 exact ⟨p,y,rfl,h,rfl,k⟩
theorem a7n (a e it:Addr) (hne:e≠it):Turn P w K (.Tuple elts x1 tp) (K3 λH xs=>SqL K H a xs) [e,it] e (λi h=>(∃ old,IsEnum h e it ((i:Nat):Int) old)/\h.IsListIter it a i) where
 mem:=by simp
 obj:=λi h st b hb=>by
  have z:b=e\/b=it:=by simpa using hb
  rcases z with rfl | rfl
  ·obtain ⟨old,q⟩:=st.1
   exact a23 q
  ·obtain ⟨o,q,c,d⟩:=st.2
   exact ⟨o,q,λv z=>by rw [d] at z;cases z⟩
 keep:=λi h h' st k=>⟨(let ⟨old,q⟩:=st.1;⟨old,k e (by simp) _ q⟩),st.2.at λo q=>k it (by simp) o q⟩
 item:=by
  intro X hP hw hK hc i pins s σ H E I hf st hg
  subst hP hw hK
  obtain ⟨xs,x,hq,hx⟩:=hg
  obtain ⟨its,rv,p,hz⟩:=I.list hq
  obtain ⟨u,hu,ru⟩:=rv.get hx
  obtain ⟨⟨old,he⟩,hit⟩:=st
  have nit:a≠it:=λz=>by
   obtain ⟨o,q,c,_⟩:=hit
   obtain ⟨o2,q2,c2,_⟩:=p.isList
   rw [z,q] at q2;cases q2;rw [c] at c2;exact absurd c2 (by decide)
  have nea:e≠a:=λz=>by
   obtain ⟨o2,q2,c2,_⟩:=p.isList
   rw [<- z,he] at q2;cases q2;exact absurd (show Value.type "enumerate" = Value.type "list" from c2) (by decide)
  have hlt:i<its.toArray.size:=by
   have:=(List.getElem?_eq_some_iff.mp hu).1
   simpa using this
  refine a27 (y:=x) (J:=K3 λH xs=>SqL X.K H a xs) (tn:=λi h=>(∃ old,IsEnum h e it ((i:Nat):Int) old)/\h.IsListIter it a i) I hf (Draws.list (show X.A.in1.handled=none from I.ok.hd hc) it a nit its.toArray) he ⟨hit,p.isList⟩ hlt hne (by simp [hne,nea]) (λv hv=>?_) (λh' ho hs=>⟨?_,hs.1⟩) λq hq2=>a8k hq2 (λys hy=>by rw [I.list_inj hy hq];exact hx)
  ·have hv':its[i]?=some v:=by simpa using hv
   rw [hu] at hv';cases hv';exact ru
  ·obtain ⟨o,q⟩:=ho
   exact ⟨o,by rw [show ((i+1:Nat):Int)=(i:Int)+1 from rfl];exact q⟩
 done:=by
  intro X hP hw hK hc i pins s σ H E I hf st hg
  subst hP hw hK
  obtain ⟨xs,hq,hx⟩:=hg
  obtain ⟨its,rv,p,hz⟩:=I.list hq
  obtain ⟨⟨old,he⟩,hit⟩:=st
  have hl:=rv.length
  have nit:a≠it:=λz=>by
   obtain ⟨o,q,c,_⟩:=hit
   obtain ⟨o2,q2,c2,_⟩:=p.isList
   rw [z,q] at q2;cases q2;rw [c] at c2;exact absurd c2 (by decide)
  have en:i=its.toArray.size:=by simp;omega
  obtain ⟨f0,f1,f2,f3,f4,f5⟩:=hf it (by simp)
  exact wpAny_pyNext_enum_endD (Draws.list (show X.A.in1.handled=none from I.ok.hd hc) it a nit its.toArray) he ⟨en▸hit,p.isList⟩ λh' eb=>⟨rfl,I.turned (t':=s.toks) (λb o hb q=>eb b o hb q) f0 f1 f3 f4 f5⟩
 self:=λ_ _ _ _ _ st h=>by
  obtain ⟨⟨old,he⟩,_⟩:=st
  exact wpAny_pyIter_enum he h
theorem a7c (a e it:Addr) (hne:e≠it):Turn P w K (.Tuple elts x1 tp) (K3 λH xs=>SqT K H a xs) [e,it] e (λi h=>(∃ old,IsEnum h e it ((i:Nat):Int) old)/\h.IsTupleIter it a i) where
 mem:=by simp
 obj:=λi h st b hb=>by
  have z:b=e\/b=it:=by simpa using hb
  rcases z with rfl | rfl
  ·obtain ⟨old,q⟩:=st.1
   exact a23 q
  ·obtain ⟨o,q,c,d⟩:=st.2
   exact ⟨o,q,λv z=>by rw [d] at z;cases z⟩
 keep:=λi h h' st k=>⟨(let ⟨old,q⟩:=st.1;⟨old,k e (by simp) _ q⟩),st.2.at λo q=>k it (by simp) o q⟩
 item:=by
  intro X hP hw hK hc i pins s σ H E I hf st hg
  subst hP hw hK
  obtain ⟨xs,x,hq,hx⟩:=hg
  obtain ⟨its,rv,p,hz⟩:=I.tuple hq
  have pt:s.heap.IsTuple a its.toArray:=p
  obtain ⟨u,hu,ru⟩:=rv.get hx
  obtain ⟨⟨old,he⟩,hit⟩:=st
  have nit:a≠it:=λz=>by
   obtain ⟨o,q,c,_⟩:=hit
   obtain ⟨o2,q2,c2,_⟩:=pt
   rw [z,q] at q2;cases q2;rw [c] at c2;exact absurd c2 (by decide)
  have nea:e≠a:=λz=>by
   obtain ⟨o2,q2,c2,_⟩:=pt
   rw [<- z,he] at q2;cases q2;exact absurd (show Value.type "enumerate" = Value.type "tuple" from c2) (by decide)
  have hlt:i<its.toArray.size:=by
   have:=(List.getElem?_eq_some_iff.mp hu).1
   simpa using this
  refine a27 (y:=x) (J:=K3 λH xs=>SqT X.K H a xs) (tn:=λi h=>(∃ old,IsEnum h e it ((i:Nat):Int) old)/\h.IsTupleIter it a i) I hf (b2u (show X.A.in1.handled=none from I.ok.hd hc) it a nit its.toArray) he ⟨hit,pt⟩ hlt hne (by simp [hne,nea]) (λv hv=>?_) (λh' ho hs=>⟨?_,hs.1⟩) λq hq2=>a8k hq2 (λys hy=>by rw [I.tuple_inj hy hq];exact hx)
  ·have hv':its[i]?=some v:=by simpa using hv
   rw [hu] at hv';cases hv';exact ru
  ·obtain ⟨o,q⟩:=ho
   exact ⟨o,by rw [show ((i+1:Nat):Int)=(i:Int)+1 from rfl];exact q⟩
 done:=by
  intro X hP hw hK hc i pins s σ H E I hf st hg
  subst hP hw hK
  obtain ⟨xs,hq,hx⟩:=hg
  obtain ⟨its,rv,p,hz⟩:=I.tuple hq
  have pt:s.heap.IsTuple a its.toArray:=p
  obtain ⟨⟨old,he⟩,hit⟩:=st
  have hl:=rv.length
  have nit:a≠it:=λz=>by
   obtain ⟨o,q,c,_⟩:=hit
   obtain ⟨o2,q2,c2,_⟩:=pt
   rw [z,q] at q2;cases q2;rw [c] at c2;exact absurd c2 (by decide)
  have en:i=its.toArray.size:=by simp;omega
  obtain ⟨f0,f1,f2,f3,f4,f5⟩:=hf it (by simp)
  exact wpAny_pyNext_enum_endD (b2u (show X.A.in1.handled=none from I.ok.hd hc) it a nit its.toArray) he ⟨en▸hit,pt⟩ λh' eb=>⟨rfl,I.turned (t':=s.toks) (λb o hb q=>eb b o hb q) f0 f1 f3 f4 f5⟩
 self:=λ_ _ _ _ _ st h=>by
  obtain ⟨⟨old,he⟩,_⟩:=st
  exact wpAny_pyIter_enum he h
end
section
variable {X:Cx} {elts:List Expr} {x1:Nat} {tp:Pos}
theorem b0f:bootBuiltins "enumerate" = some (.type "enumerate"):=by decide +kernel
theorem b9n {l:Expr} {ta:TA} {p pos:Pos} (hg:Gl X "enumerate") (hm:X.mg "enumerate" = none) (ha:PA X [l] ta) (hs:starEach [l] X.env=[(false,eval l X.env)]) :
  PI X (.Tuple elts x1 tp) (.Call (.Name "enumerate" p) [l] [] pos) (λσ H R=>ta σ H λvs H1=>∃ a,vs=[.ref a]/\(((∃ xs,SqL X.K H1 a xs)/\R (K3 λH xs=>SqL X.K H a xs) H1)\/((∃ xs,SqT X.K H1 a xs)/\R (K3 λH xs=>SqT X.K H a xs) H1))):=by
 intro pins s σ H R I h
 refine Call_ (K9 I hg hm b0f (PyProof.Rows.callWith_type1 (thn (ha pos pins s σ H _ I h) λus s1 ⟨vs,H1,I1,r1,q1⟩=>?_) hs rfl))
 obtain ⟨a,e,q1⟩:=q1
 subst e
 cases r1 with
 | cons r rr=>
  cases rr
  cases r
  have fp:∀ h':Heap,h'.objs.size=s1.heap.objs.size+2->∀ b∈[s1.heap.objs.size+1,s1.heap.objs.size],P2 X pins H1 b:=λh' _ b hb=>by
   have z:b=s1.heap.objs.size+1\/b=s1.heap.objs.size:=by simpa using hb
   rcases z with rfl | rfl
   ·exact I1.fpOk (Nat.le_succ _) (I1.hok.fresh (Nat.le_succ _))
   ·exact I1.fpOk (Nat.le_refl _) (I1.hok.fresh (Nat.le_refl _))
  rcases q1 with ⟨⟨xs,hq⟩,q⟩ | ⟨⟨xs,hq⟩,q⟩
  ·obtain ⟨its,rv,p,hz⟩:=I1.list hq
   refine call_enumerate_list p.isList λh' he hi hsz hk=>?_
   exact wpAny_pyIter_enum he ⟨_,[s1.heap.objs.size+1,s1.heap.objs.size],_,_,H1,rfl,I1.kept (t':=s1.toks) hk,a7n a _ _ (Nat.succ_ne_self _),⟨⟨_,he⟩,hi⟩,fp h' hsz,q⟩
  ·obtain ⟨its,rv,p,hz⟩:=I1.tuple hq
   refine a64 (show s1.heap.IsTuple a its.toArray from p) λh' he hi hsz hk=>?_
   exact wpAny_pyIter_enum he ⟨_,[s1.heap.objs.size+1,s1.heap.objs.size],_,_,H1,rfl,I1.kept (t':=s1.toks) hk,a7c a _ _ (Nat.succ_ne_self _),⟨⟨_,he⟩,hi⟩,fp h' hsz,q⟩
end
end L2
namespace L3
open PySem PySem.Spec PyProof.Rows L2
noncomputable def a2o (ds:List D):Src:=λi _=>match ds[i]? with
 | some d=>some (some (.tup [.int (i:Int),d]))
 | none=>if i=ds.length then some none else none
noncomputable def a8e (d:D):M (Src×Nat):=match d with
 | .tup ds=>ret (a2o ds,ds.length+1)
 | .lst ds=>ret (a2o ds,ds.length+1)
 | .scr ds=>ret (a2o ds,ds.length+1)
 | _=>bad
section
variable {K:PySem.W.Frag} {cl:Nat->Addr} {μ:Mp} {H:Hp}
theorem c15 {Sq:Hp->List V->Prop} {xs:List V} {ds:List D} (hl:∀ μ2 H2 S2,LatU μ H μ2 H2->Rep K cl μ2 S2 H2->Sq H2 xs) (r:RDs K μ H ds xs):Yl K cl (K3 Sq) μ H (a2o ds):=λi μ2 H2 S2 l rp=>by
 have hq:=hl μ2 H2 S2 l rp
 have r2:=r.laterU l
 show a2h K cl (K3 Sq) i μ2 H2 S2 (match ds[i]? with
  | some d=>some (some (.tup [.int (i:Int),d]))
  | none=>if i=ds.length then some none else none)
 cases e:ds[i]? with
 | none=>
  show a2h K cl (K3 Sq) i μ2 H2 S2 (if i=ds.length then some none else none)
  by_cases q:i=ds.length
  ·rw [if_pos q]
   exact ⟨xs,hq,by rw [<- r.length];exact q.symm⟩
  ·rw [if_neg q];exact trivial
 | some d=>
  obtain ⟨v,e1,r1⟩:=r2.get e
  refine ⟨⟨xs,v,hq,e1⟩,λx H3 z=>?_⟩
  obtain ⟨p,y,rfl,hp,rfl,q⟩:=z
  have:=q xs hq
  rw [e1] at this
  cases this
  exact G3 rp (.cons (.int _) (.cons r1 .nil)) hp
theorem c42 {a:Addr} {xs:List V} {ds:List D} (h:TupAt K μ H a xs) (r:RDs K μ H ds xs):Yl K cl (K3 λH xs=>SqT K H a xs) μ H (a2o ds):=c15 (λμ2 H2 S2 l rp=>by
 rcases h with ⟨q,n1,n2⟩ | q
 ·rcases q with q | ⟨o,q⟩
  ·exact .inl (.inl (l.oth _ _ q n1 n2))
  ·exact .inl (.inr ⟨o,l.oth _ _ q n1 n2⟩)
 ·obtain ⟨o,its,n,c1,c2,c3,c4,c5,_⟩:=q
  exact .inr ⟨o,its,n,c1,c2,c3,c4,c5⟩) r
theorem b3k {a:Addr} {xs:List V} {ds:List D} (h:LstAt μ H a xs\/ScrAt K μ H a xs) (r:RDs K μ H ds xs):Yl K cl (K3 λH xs=>SqL K H a xs) μ H (a2o ds):=c15 (λμ2 H2 S2 l rp=>by
 rcases h with ⟨q,n1,n2⟩ | ⟨q,n1,n2⟩ | q
 ·exact .inl (.inl (l.oth _ _ q n1 n2))
 ·rcases q with q | ⟨o,q⟩
  ·exact .inl (.inl (l.oth _ _ q n1 n2))
  ·exact .inl (.inr ⟨o,l.oth _ _ q n1 n2⟩)
 ·exact .inr q) r
end
section
variable {X:Cx} {cl:Nat->Addr} {xe:Addr->Hp->Prop} {elts:List Expr} {x1:Nat} {tp p pos:Pos}
theorem b3y {a:Expr} {fs:Env->M (List D)} (hg:Gl X "enumerate") (hm:X.mg "enumerate" = none) (ha:PA X [a] (tDs X.K cl xe fs)) (hs:noStar a=true) :
  PI X (.Tuple elts x1 tp) (.Call (.Name "enumerate" p) [a] [] pos) (tIt X.K cl xe λρ=>bind (fs ρ) λds=>match ds with
   | [d]=>a8e d
   | _=>bad):=
 PI.imp (b9n hg hm ha (f7 hs)) λσ H R ⟨μ,S,ρ,eo,rp,P⟩=>⟨μ,S,ρ,eo,rp,P.bind.imp λds S1 μ1 H1 l1 r1 p1 vs rvs=>by
  cases rvs with
  | nil=>exact False.elim p1
  | cons h t=>
   cases t with
   | cons _ _=>exact False.elim p1
   | nil=>
    cases h with
    | tup h r=>exact ⟨_,rfl,.inr ⟨⟨_,h.sq⟩,p1.ret μ1 H1 (Lat.refl _ _) r1 _ (c42 h r)⟩⟩
    | lst h r=>exact ⟨_,rfl,.inl ⟨⟨_,h.sq⟩,p1.ret μ1 H1 (Lat.refl _ _) r1 _ (b3k (.inl h) r)⟩⟩
    | scr h r=>exact ⟨_,rfl,.inl ⟨⟨_,h.sq⟩,p1.ret μ1 H1 (Lat.refl _ _) r1 _ (b3k (.inr h) r)⟩⟩
    | _=>exact False.elim p1⟩
end
noncomputable def d9 (d:D):M Bool:=match d with
 | .non=>ret false
 | .bl b=>ret b
 | .int i=>ret (i != 0)
 | .str x=>if x.length<=sizeLine then ret ((x.length:Int) != 0) else bad
 | .ref n=>λS=>match S[n]? with
  | some (.lst ds)=>.ok (!ds.isEmpty) S
  | some (.dct kvs)=>.ok (!kvs.isEmpty) S
  | _=>.bad
 | d=>bind (Z7 d) λds=>ret (!ds.isEmpty)
section
variable {K:PySem.W.Frag} {cl:Nat->Addr} {xe:Addr->Hp->Prop} {μ:Mp} {H:Hp} {S:Sto}
theorem O5 {ds:List D} {vs:List V} (r:RDs K μ H ds vs):ds.isEmpty=vs.isEmpty:=by cases r <;> rfl
theorem a0q {d:D} {v:V} {G:Bool->Sto->Mp->Hp->Prop} (rd:RD K μ H d v) (rp:Rep K cl μ S H) (p:Post K cl xe μ H (d9 d S) G):∃ k,b10 K v H k/\G k S μ H:=by
 cases rd with
 | non=>exact ⟨_,rfl,p μ H (Lat.refl _ _) rp⟩
 | bl b=>exact ⟨_,rfl,p μ H (Lat.refl _ _) rp⟩
 | int i=>exact ⟨_,rfl,p μ H (Lat.refl _ _) rp⟩
 | str x=>
  obtain ⟨hl,p⟩:=Post.guard p
  exact ⟨_,⟨hl,rfl⟩,p μ H (Lat.refl _ _) rp⟩
 | tup h r=>exact ⟨_,.inr (.inl ⟨_,h.sq,by rw [<- O5 r]⟩),p μ H (Lat.refl _ _) rp⟩
 | lst h r=>exact ⟨_,.inl ⟨_,h.sq,by rw [<- O5 r]⟩,p μ H (Lat.refl _ _) rp⟩
 | scr h r=>exact ⟨_,.inl ⟨_,h.sq,by rw [<- O5 r]⟩,p μ H (Lat.refl _ _) rp⟩
 | ref h=>
  rename_i n a
  simp only [d9] at p
  cases q1:S[n]? with
  | none=>rw [q1] at p;exact p.elim
  | some o=>
   rw [q1] at p
   cases o with
   | lst ds=>
    obtain ⟨xs,h1,h2⟩:=rp.ats n _ a q1 h
    exact ⟨_,.inl ⟨xs,.inl (.inl h1),by rw [<- O5 h2]⟩,p μ H (Lat.refl _ _) rp⟩
   | dct kvs=>
    obtain ⟨ks,h1,h2⟩:=rp.ats n _ a q1 h
    refine ⟨_,.inr (.inr ⟨ks,h1,rfl⟩),?_⟩
    have e:kvs.isEmpty=ks.isEmpty:=by cases h2 <;> rfl
    rw [<- e]
    exact p μ H (Lat.refl _ _) rp
   | exc _ _=>exact p.elim
end
section
variable {X:Cx} {cl:Nat->Addr} {xe:Addr->Hp->Prop} {a b e:Expr} {es rest:List Expr} {pos:Pos} {f g:Env->M D}
theorem b5n (h:PE X a (tD X.K cl xe f)) (ht:E9 a=true):PT X a (tBo X.K cl xe λρ=>bind (f ρ) d9):=PT.imp (b3x h (test_of ht)) λσ H Q ⟨μ,S,ρ,eo,rp,p⟩=>
 ⟨μ,S,ρ,eo,rp,p.bind.imp λd S1 μ1 H1 l1 r1 p1 v rv=>a0q rv r1 p1⟩
theorem c5t (h:PE X a (tD X.K cl xe f)):PE X (.UnaryOp .Not a pos) (tD X.K cl xe λρ=>bind (f ρ) λd=>bind (d9 d) λk=>ret (.bl (!k))):=by
 intro pins s σ H Q I ⟨μ,S,ρ,eo,rp,p⟩
 refine UnaryOp_ (thn (h pins s σ H (λv H1=>∃ k,b10 X.K v H1 k/\Q (.bl (!k)) H1) I ⟨μ,S,ρ,eo,rp,p.bind.imp λd S1 μ1 H1 l1 r1 p1 v rv=>let ⟨k,tv,q⟩:=a0q rv r1 p1.bind;⟨k,tv,q μ1 H1 (Lat.refl _ _) r1 _ (.bl _)⟩⟩) λv s1 ⟨x,H1,I1,rx,k,tv,q⟩=>?_)
 exact not_of (thn (a3p pins s1 σ H1 x v (λk' H'=>k'=k/\H'=H1) I1 rx ⟨k,tv,rfl,rfl⟩) λc s2 ⟨H2,I2,e1,e2⟩=>by
  subst e1 e2
  exact ⟨.bl (!c),H2,I2,rfl,q⟩)
theorem b5m {op:BoolOp} (h:PE X a (tD X.K cl xe f)):PE X (.BoolOp op [a] pos) (tD X.K cl xe f):=c4j h
theorem c3g (h:PE X a (tD X.K cl xe f)) (k:PE X (.BoolOp .And (b :: rest) pos) (tD X.K cl xe g)):PE X (.BoolOp .And (a :: b :: rest) pos) (tD X.K cl xe λρ=>bind (f ρ) λd=>bind (d9 d) λq=>if q=true then g ρ else ret d):=by
 intro pins s σ H Q I ⟨μ,S,ρ,eo,rp,p⟩
 refine BoolOp_and (thn (h pins s σ H (λv H1=>∃ c,b10 X.K v H1 c/\if c=true then tD X.K cl xe g σ H1 Q else Q v H1) I ⟨μ,S,ρ,eo,rp,p.bind.imp λd S1 μ1 H1 l1 r1 p1 v rv=>?_⟩) λv s1 ⟨x,H1,I1,rx,c,tv,q⟩=>?_)
 ·obtain ⟨c,tv,q⟩:=a0q rv r1 p1.bind
  refine ⟨c,tv,?_⟩
  cases c with
  | true=>exact ⟨μ1,S1,ρ,eo.later l1,r1,q⟩
  | false=>exact q μ1 H1 (Lat.refl _ _) r1 _ rv
 ·refine thn (a3p pins s1 σ H1 x v (λk' H'=>k'=c/\H'=H1) I1 rx ⟨c,tv,rfl,rfl⟩) λc' s2 ⟨H2,I2,e1,e2⟩=>?_
  subst e1 e2
  cases c' with
  | true=>exact k pins s2 σ H2 Q I2 q
  | false=>exact ⟨x,H2,I2,rx,q⟩
theorem d02 (h:PE X a (tD X.K cl xe f)) (k:PE X (.BoolOp .Or (b :: rest) pos) (tD X.K cl xe g)):PE X (.BoolOp .Or (a :: b :: rest) pos) (tD X.K cl xe λρ=>bind (f ρ) λd=>bind (d9 d) λq=>if q=true then ret d else g ρ):=by
 intro pins s σ H Q I ⟨μ,S,ρ,eo,rp,p⟩
 refine BoolOp_or (thn (h pins s σ H (λv H1=>∃ c,b10 X.K v H1 c/\if c=true then Q v H1 else tD X.K cl xe g σ H1 Q) I ⟨μ,S,ρ,eo,rp,p.bind.imp λd S1 μ1 H1 l1 r1 p1 v rv=>?_⟩) λv s1 ⟨x,H1,I1,rx,c,tv,q⟩=>?_)
 ·obtain ⟨c,tv,q⟩:=a0q rv r1 p1.bind
  refine ⟨c,tv,?_⟩
  cases c with
  | true=>exact q μ1 H1 (Lat.refl _ _) r1 _ rv
  | false=>exact ⟨μ1,S1,ρ,eo.later l1,r1,q⟩
 ·refine thn (a3p pins s1 σ H1 x v (λk' H'=>k'=c/\H'=H1) I1 rx ⟨c,tv,rfl,rfl⟩) λc' s2 ⟨H2,I2,e1,e2⟩=>?_
  subst e1 e2
  cases c' with
  | true=>exact ⟨x,H2,I2,rx,q⟩
  | false=>exact k pins s2 σ H2 Q I2 q
def tPt (K:PySem.W.Frag) (cl:Nat->Addr) (xe:Addr->Hp->Prop) (fp:Env->M (Option Int)):TO:=λσ H Q=>∃ μ S ρ,EnvOk K μ H ρ σ/\Rep K cl μ S H/\Post K cl xe μ H (fp ρ S) λo _ _ H'=>Q o H'
noncomputable def y4 (d:D):M (Option Int):=match d with
 | .int i=>ret (some i)
 | _=>bad
theorem PO.imp {e:Option Expr} {t t':TO} (h:PO X e t) (k:∀ σ H Q,t' σ H Q->t σ H Q):PO X e t':=λpins s σ H Q I q=>h pins s σ H Q I (k σ H Q q)
theorem b9i:PO X none (tPt X.K cl xe λ_=>ret none):=PO.imp c0s λσ H Q ⟨μ,S,ρ,eo,rp,p⟩=>p μ H (Lat.refl _ _) rp
theorem b7s (h:PE X e (tD X.K cl xe f)):PO X (some e) (tPt X.K cl xe λρ=>bind (f ρ) y4):=PO.imp (b99 h) λσ H Q ⟨μ,S,ρ,eo,rp,p⟩=>
 ⟨μ,S,ρ,eo,rp,p.bind.imp λd S1 μ1 H1 l1 r1 p1 v rv=>by
  cases rv with
  | int i=>exact ⟨i,rfl,p1 μ1 H1 (Lat.refl _ _) r1⟩
  | _=>exact False.elim p1⟩
theorem P0 {prog:Program} {w:World} {A:Around} {E:Value->Shared->Prop} {s:Shared} {t sl:Addr} {items:Array Value} {vl vu:Value} {lo hi:Option Int} {Q:Value->Shared->Prop} (ht:IsTup s.heap t items) (hs:s.heap.IsSliceOf sl vl vu .none) (pl:IsPart vl lo) (pu:IsPart vu hi)
  (hw:HT.sIx items.size 0 lo=0/\HT.sIx items.size items.size hi=items.size) (h:Q (.ref t) s):wpAny (model prog w) A (getItem (.ref t) (.ref sl)) Q E s:=by
 obtain ⟨os,hos,hcs,hds⟩:=id hs
 have hTs:s.TypeIs (.ref sl) "slice":=⟨os,hos,hcs⟩
 unfold getItem
 try with_reducible refine wpAny_holding ?_
 first | refine wpAny_bind (wpAny_pure ?_) | skip
 refine wpAny_bind (wpAny_sequenceKey ht.typeIs (by decide) ?_)
 refine wpAny_bind (wpAny_callSpecial?_slot (name:=Str.ofString "__getitem__") ht.typeIs PyProof.Rows.slot_tuple_getitem
  (wpAny_call_entry PyProof.Rows.slot_tuple_getitem ht.typeIs entry_tuple_getitem ?_ (args_tuple_getitem _ _)))
 show wpAny _ _ (Builtin.Tuple.tupleItemsOf (.ref t) >>= _) _ _ s
 refine wpAny_bind (tupleItemsOf_ ht ?_)
 refine wpAny_bind (wpAny_typeOf hTs ?_)
 rw [if_pos (by decide)]
 refine wpAny_bind (HT.sliceApplied_gen hs pl pu ?_)
 have hyes:(((HT.sIx items.size 0 lo:Nat):Int)==0&&(1:Int)==1&&(HT.sIx items.size items.size hi-HT.sIx items.size 0 lo)==items.size)=true:=by
  rw [hw.1,hw.2];simp
 show wpAny _ _ (if (((HT.sIx items.size 0 lo:Nat):Int)==0&&(1:Int)==1&&(HT.sIx items.size items.size hi-HT.sIx items.size 0 lo)==items.size)=true then _ else _) _ _ s
 rw [if_pos hyes]
 refine wpAny_bind (m:=Builtin.Tuple.tupleIsExact (.ref t)) ?_
 unfold Builtin.Tuple.tupleIsExact
 refine wpAny_bind (wpAny_typeOf ht.typeIs (wpAny_pure ?_))
 rw [if_pos (by decide)]
 refine wpAny_bind (wpAny_rule ?_)
 exact wpAny_pure ⟨_,rfl,wpAny_pure h⟩
theorem b9p:SlR X (λx lo hi H Q=>∃ a xs,x=.ref a/\SqT X.K H a xs/\(HT.sIx xs.length 0 lo=0/\HT.sIx xs.length xs.length hi=xs.length)/\Q (.ref a) H):=by
 intro pins s σ H x v vl vu lo hi sl Q I rx hs pl pu h
 obtain ⟨a,xs,rfl,hx,hw,q⟩:=h
 cases rx
 obtain ⟨its,r,ht,hz⟩:=I.tuple hx
 have hlen:its.toArray.size=xs.length:=by rw [List.size_toArray];exact r.length.symm
 exact ⟨"tuple",_,PyProof.Rows.slot_tuple_getitem.lookup,ht.typeIs,P0 ht hs pl pu (by rw [hlen];exact hw) ⟨.ref a,H,I,rfl,q⟩⟩
theorem d2x:SlR X (λx lo hi H Q=>∃ μ S d,RD X.K μ H d x/\Rep X.K cl μ S H/\Post X.K cl xe μ H (slD d lo hi S) λr _ μ' H'=>∀ v,RD X.K μ' H' r v->Q v H'):=by
 intro pins s σ H x v vl vu lo hi sl Q I rx hs pl pu ⟨μ,S,d,rd,rp,p⟩
 have sq:∀ {a:Addr} {xs:List V} {ds:List D},SqL X.K H a xs->RDs X.K μ H ds xs->x=.ref a->(∀ μ' H',Lat μ H μ' H'->Rep X.K cl μ' S H'->∀ w,RD X.K μ' H' (.lst (A6 ds lo hi)) w->Q w H') ->
   ∃ T id,typeLookup (.type T) "__getitem__" = pure (some (.builtin id))/\s.TypeIs v T/\wpAny (model X.prog X.w) X.A (getItem v (.ref sl)) (EP X pins σ Q) X.xe s:=λ{a xs ds} hq r2 hv q=>by
  subst hv
  refine b8i pins s σ H _ v vl vu lo hi sl Q I rx hs pl pu ⟨a,xs,rfl,hq,λz hz=>?_⟩
  obtain ⟨l,rp2,rd2⟩:=G7 rp (b6c r2 lo hi) hz
  exact q μ _ l rp2 _ rd2
 cases rd with
 | tup h r=>
  rename_i a xs ds
  by_cases hw:HT.sIx xs.length 0 lo=0/\HT.sIx xs.length xs.length hi=xs.length
  ·refine b9p pins s σ H _ v vl vu lo hi sl Q I rx hs pl pu ⟨a,xs,rfl,h.sq,hw,?_⟩
   have e:A6 ds lo hi=ds:=by
    unfold A6
    rw [r.length,hw.1,hw.2,List.drop_zero,Nat.sub_zero]
    exact List.take_of_length_le (by rw [r.length];exact Nat.le_refl _)
   exact p μ H (Lat.refl _ _) rp _ (by rw [e];exact .tup h r)
  ·refine c5i pins s σ H _ v vl vu lo hi sl Q I rx hs pl pu ⟨a,xs,rfl,h.sq,hw,λz hz=>?_⟩
   obtain ⟨l,rp2,rd2⟩:=G3 rp (b6c r lo hi) hz
   exact p μ _ l rp2 _ rd2
 | lst h r=>exact sq h.sq r rfl p
 | scr h r=>exact sq h.sq r rfl p
 | ref h=>
  rename_i n a0
  have p2:Post X.K cl xe μ H (bind (u4 (.ref n)) (λds=>ret (D.lst (A6 ds lo hi))) S) (λr _ μ' H'=>∀ v,RD X.K μ' H' r v->Q v H'):=p
  obtain ⟨a,xs,ds,e1,h1,h2,e2⟩:=v3 (.ref h) rp p2.bind
  exact sq (.inl (.inl h1)) h2 e1 (p2.ok_bind e2)
 | _=>exact False.elim p
theorem c6w {lo hi:Option Expr} {p2:Pos} {fl fh:Env->M (Option Int)} (h:PE X e (tD X.K cl xe f)) (hl:PO X lo (tPt X.K cl xe fl)) (hh:PO X hi (tPt X.K cl xe fh)) :
  PE X (.Subscript e (.Slice lo hi none p2) pos) (tD X.K cl xe λρ=>bind (f ρ) λd=>bind (fl ρ) λl=>bind (fh ρ) λu=>slD d l u):=PE.imp (b4w d2x h hl hh) λσ H Q ⟨μ,S,ρ,eo,rp,p⟩=>
 ⟨μ,S,ρ,eo,rp,p.bind.imp λd S1 μ1 H1 l1 r1 p1 v rv=>⟨μ1,S1,ρ,eo.later l1,r1,p1.bind.imp λl S2 μ2 H2 l2 r2 p2=>⟨μ2,S2,ρ,(eo.later l1).later l2,r2,p2.bind.imp λu S3 μ3 H3 l3 r3 p3=>⟨μ3,S3,d,(rv.later l2).later l3,r3,p3⟩⟩⟩⟩
end
noncomputable def T8 (x k v:D):M D:=match x with
 | .ref n=>λS=>match S[n]? with
  | some (.lst ds)=>match k with
   | .int i=>match ixN ds.length i with
    | some j=>.ok .non (S.set n (.lst (ds.set j v)))
    | none=>.bad
   | _=>.bad
  | some (.dct kvs)=>match B1 k with
   | some key=>if kvs.length<sizeLine then .ok .non (S.set n (.dct (b1f kvs key v))) else .bad
   | none=>.bad
  | _=>.bad
 | _=>bad
theorem a8h {K:PySem.W.Frag} {μ:Mp} {H:Hp} {k:Key}:∀ {kvs:List (Key×D)} {ks:List (Key×V)},KvsAt K μ H kvs ks->(kvs.any λkv=>decide (kv.1=k))=ks.any λkv=>decide (kv.1=k)
 | _,_,.nil=>rfl
 | _,_,.cons ⟨h1,h2⟩ t=>by simp only [List.any_cons,h1,a8h (k:=k) t]
theorem a79 {K:PySem.W.Frag} {μ:Mp} {H:Hp} {k:Key} {d:D} {v:V} (r:RD K μ H d v):∀ {kvs:List (Key×D)} {ks:List (Key×V)},KvsAt K μ H kvs ks->KvsAt K μ H (kvs.map λkv=>if kv.1=k then (kv.1,d) else kv) (ks.map λkv=>if kv.1=k then (kv.1,v) else kv)
 | _,_,.nil=>.nil
 | _,_,.cons (a:=a) (b:=b) ⟨h1,h2⟩ t=>by
  simp only [List.map_cons]
  refine .cons ?_ (a79 r t)
  by_cases hk:b.1=k
  ·rw [if_pos hk,if_pos (h1.trans hk)];exact ⟨h1,r⟩
  ·rw [if_neg hk,if_neg (by rw [h1];exact hk)];exact ⟨h1,h2⟩
theorem Paired.app {α β:Type} {P:α->β->Prop}:∀ {xs xs':List α} {ys ys':List β},Paired P xs ys->Paired P xs' ys'->Paired P (xs++xs') (ys++ys')
 | _,_,_,_,.nil,s=>s
 | _,_,_,_,.cons r t,s=>.cons r (Paired.app t s)
theorem a9p {K:PySem.W.Frag} {μ:Mp} {H:Hp} {k:Key} {d:D} {v:V} {kvs:List (Key×D)} {ks:List (Key×V)} (h:KvsAt K μ H kvs ks) (r:RD K μ H d v):KvsAt K μ H (b1f kvs k d) (C7 ks k v):=by
 unfold b1f C7
 rw [a8h h]
 split
 ·exact a79 r h
 ·exact Paired.app h (.cons ⟨rfl,r⟩ .nil)
theorem KvsAt.later {K:PySem.W.Frag} {μ μ':Mp} {H H':Hp} {kvs:List (Key×D)} {ks:List (Key×V)} (h:KvsAt K μ H kvs ks) (l:Lat μ H μ' H'):KvsAt K μ' H' kvs ks:=Paired.mono (λ_ _ ⟨z,w⟩=>⟨z,w.later l⟩) h
section
variable {X:Cx} {cl:Nat->Addr} {xe:Addr->Hp->Prop} {a b e:Expr} {es rest:List Expr} {pos:Pos} {f g k:Env->M D}
theorem c60 (hu:X.A.units+1<cLine):c37 X (λo i v H Q=>∃ μ S x y z,RD X.K μ H x o/\RD X.K μ H y i/\RD X.K μ H z v/\Rep X.K cl μ S H/\Post X.K cl xe μ H (T8 x y z S) λ_ _ _ H'=>Q H'):=by
 intro pins s σ H o i v ov iv u Q I ro ri rv ⟨μ,S,x,y,z,rx,ry,rz,rp,p⟩
 cases rx with
 | ref h=>
  rename_i n a
  have m:a∈μ.pl:=List.mem_of_getElem? h
  simp only [T8] at p
  cases q1:S[n]? with
  | none=>rw [q1] at p;exact p.elim
  | some ob=>
   rw [q1] at p
   cases ob with
   | lst ds=>
    obtain ⟨xs,h1,h2⟩:=rp.ats n _ a q1 h
    cases ry with
    | int j=>
     simp only at p
     cases q2:ixN ds.length j with
     | none=>rw [q2] at p;exact p.elim
     | some t=>
      rw [q2] at p
      refine b3j pins s σ H _ _ v ov iv u Q I ro ri rv ⟨a,xs,j,t,rfl,rfl,h1,by rw [<- h2.length];exact q2,?_⟩
      exact p μ _ (Lat.wrote m) (rp.wrote h ⟨_,c8,(h2.set rz t).later (Lat.wrote m)⟩)
    | _=>exact False.elim p
   | dct kvs=>
    obtain ⟨ks,h1,h2⟩:=rp.ats n _ a q1 h
    simp only at p
    cases q2:B1 y with
    | none=>rw [q2] at p;exact p.elim
    | some key=>
     rw [q2] at p
     by_cases hl:kvs.length<sizeLine
     ·simp only [if_pos hl] at p
      have hy:=L8 ry q2
      subst hy
      cases ro
      have hl2:ks.length<sizeLine:=by rw [<- Paired.length h2];exact hl
      refine b13 hu I (DPut.k h1 hl2) ri rv λs' I'=>⟨_,I',?_⟩
      exact p μ _ (Lat.wrote m) (rp.wrote h ⟨_,c8,(a9p h2 rz).later (Lat.wrote m)⟩)
     ·simp only [if_neg hl] at p;exact p.elim
   | exc _ _=>exact p.elim
 | _=>exact False.elim p
theorem b1u {a b:Expr} {p2:Pos} {env:PySem.Env} (h:J2 b=true):∀ v,assign (.Subscript a b p2) env v=(do
   let ov <- holding [v] (eval a env)
   let iv <- holding [v,ov] (eval b env)
   standAt p2
   holding [v,ov,iv] (setItem ov iv v)
   release [v,ov,iv] []):=by
 intro v
 cases b <;> first | rfl | (exact absurd h (by simp [J2]))
theorem b6x {p2:Pos} (hu:X.A.units+1<cLine) (he:PE X e (tD X.K cl xe f)) (ho:PE X a (tD X.K cl xe g)) (hi:PE X b (tD X.K cl xe k)) (hn:t7 e=true) (hb:J2 b=true) :
  PS X (.Assign [.Subscript a b p2] e pos) (sD X.K cl xe λρ=>bind (f ρ) λv=>bind (g ρ) λx=>bind (k ρ) λy=>bind (T8 x y v) λ_=>ret (.nx ρ)):=
 PS.imp (a6y he (c3k ho hi (c60 (cl:=cl) (xe:=xe) hu) (b1u hb)) (by unfold swapsWithSole;exact B5 hn) rfl rfl) λD σ H ⟨μ,S,ρ,eo,rp,p⟩=>
  ⟨μ,S,ρ,eo,rp,p.bind.imp λv S1 μ1 H1 l1 r1 p1 vv rv=>⟨μ1,S1,ρ,eo.later l1,r1,p1.bind.imp λx S2 μ2 H2 l2 r2 p2 xv rx=>⟨μ2,S2,ρ,(eo.later l1).later l2,r2,p2.bind.imp λy S3 μ3 H3 l3 r3 p3 yv ry=>
   ⟨μ3,S3,x,y,v,rx.later l3,ry,(rv.later l2).later l3,r3,p3.bind.imp λ_ S4 μ4 H4 l4 r4 p4=>p4.ret μ4 H4 (Lat.refl _ _) r4 σ ((((eo.later l1).later l2).later l3).later l4)⟩⟩⟩⟩
noncomputable def O3 (es:List Expr):Bool:=decide (es.length<30)
theorem c3p {es:List Expr} {cpos:Pos} (h1:es.all noStar=true) (h2:O3 es=true):((backTo cpos (starEach es X.env)).all (λx=>!x.1)&&(backToKw cpos (keywordEach [] X.env)).all (λx=>x.1.isSome)&&decide (es.length+([]:List Keyword).length+(if ([]:List Keyword).isEmpty then 0 else 1)<30))=true:=by
 rw [a1o h1]
 unfold O3 at h2
 simpa [keywordEach,backToKw] using of_decide_eq_true h2
end
noncomputable def E1:List ((Env->M D)×(Env->M D))->Env->M (List (D×D))
 | [],_=>ret []
 | (f,g) :: r,ρ=>bind (f ρ) λx=>bind (g ρ) λy=>bind (E1 r ρ) λps=>ret ((x,y) :: ps)
noncomputable def Q8 (kvs more:List (Key×D)):List (Key×D):=more.foldl (λacc kv=>b1f acc kv.1 kv.2) kvs
noncomputable def a2z (p:D×D):Option (Key×D):=(B1 p.1).map λk=>(k,p.2)
noncomputable def a2q (ps:List (D×D)):M D:=λS=>match k7 a2z ps with
 | some kvs=>if kvs.length<=15 then .ok (.ref S.length) (S++[.dct (Q8 [] kvs)]) else .bad
 | none=>.bad
section
variable {K:PySem.W.Frag} {cl:Nat->Addr} {xe:Addr->Hp->Prop} {μ:Mp} {H:Hp} {S:Sto} {β:Type}
theorem X2:∀ {more:List (Key×D)} {ms:List (Key×V)} {kvs:List (Key×D)} {ks:List (Key×V)},KvsAt K μ H more ms->KvsAt K μ H kvs ks->KvsAt K μ H (Q8 kvs more) (I0 ks ms)
 | _,_,_,_,.nil,h=>h
 | _,_,kvs,ks,.cons (a:=a) (b:=b) ⟨h1,h2⟩ t,h=>by
  show KvsAt K μ H (Q8 (b1f kvs a.1 a.2) _) (I0 (C7 ks b.1 b.2) _)
  rw [h1]
  exact X2 t (a9p h h2)
noncomputable abbrev RPs (K:PySem.W.Frag) (μ:Mp) (H:Hp):List (D×D)->List (V×V)->Prop:=Paired λx y=>RD K μ H x.1 y.1/\RD K μ H x.2 y.2
theorem a7 {α γ:Type} (m:M α) (k:α->M β) (j:β->M γ):bind (bind m k) j=bind m λa=>bind (k a) j:=by
 funext S
 unfold bind
 cases m S <;> rfl
theorem j9 {α:Type} (a:α) (k:α->M β):bind (ret a) k=k a:=rfl
theorem Z2 {p:Addr} {o:HO} {ρ:Env} {σ:L2.St}:∀ {fks:List ((Env->M D)×(Env->M D))} {k:List (D×D)->M β} {G:β->Sto->Mp->Hp->Prop} {R:List (V×V)->Hp->Prop} {μ2:Mp} {H2:Hp} {S2:Sto},Post K cl xe μ H (bind (E1 fks ρ) k S2) G->HLat μ H p μ2 H2->p∉μ2.pl->H2 p=some o->EnvOk K μ2 H2 ρ σ->Rep K cl μ2 S2 H2 ->
  (∀ ps H3 μ3 S3 ds,HLat μ H p μ3 H3->p∉μ3.pl->H3 p=some o->Rep K cl μ3 S3 H3->Lat μ2 H2 μ3 H3->RPs K μ3 H3 ds ps->Post K cl xe μ H (k ds S3) G->R ps H3)->a4u (fks.map λfg=>(tD K cl xe fg.1,tD K cl xe fg.2)) σ H2 R
 | [],k,G,R,μ2,H2,S2,h,l,n,e,eo,rp,q=>q [] H2 μ2 S2 [] l n e rp (Lat.refl _ _) .nil h
 | (f,g) :: r,k,G,R,μ2,H2,S2,h,l,n,e,eo,rp,q=>by
  have h1:Post K cl xe μ H (bind (f ρ) (λx=>bind (g ρ) λy=>bind (E1 r ρ) λps=>k ((x,y) :: ps)) S2) G:=by
   have:bind (E1 ((f,g) :: r) ρ) k=bind (f ρ) (λx=>bind (g ρ) λy=>bind (E1 r ρ) λps=>k ((x,y) :: ps)):=by
    show bind (bind (f ρ) λx=>bind (g ρ) λy=>bind (E1 r ρ) λps=>ret ((x,y) :: ps)) k=_
    simp only [a7,j9]
   rw [<- this];exact h
  refine ⟨μ2,S2,ρ,eo,rp,(h1.at l).imp λx S3 μ3 H3 l3 r3 p3 xv rx=>?_⟩
  refine ⟨μ3,S3,ρ,eo.later l3,r3,(p3.at (l.step l3)).imp λy S4 μ4 H4 l4 r4 p4 yv ry=>?_⟩
  have l34:=l3.trans l4
  have e4:=l34.oth _ _ e n
  refine Z2 (p:=p) (o:=o) (ρ:=ρ) (σ:=σ) (fks:=r) (k:=λps=>k ((x,y) :: ps)) (G:=G) p4 (l.step l34) (l34.out e n) e4 (eo.later l34) r4 λps H5 μ5 S5 ds hl5 n5 e5 r5 l5 rps p5=>?_
  exact q ((xv,yv) :: ps) H5 μ5 S5 ((x,y) :: ds) hl5 n5 e5 r5 (l34.trans l5) (.cons ⟨(rx.later l4).later l5,ry.later l5⟩ rps) p5
theorem a7y {p:Addr} {u:HO} {ob:O} {rs:List Addr} {kz:List (Key×V)} (er:μ.rs=p :: rs) (nr:p∉rs) (hp:H p=some (.dK kz)) (rp:Rep K cl μ S H) (ho:OAt K cl ⟨μ.pl++[p],rs⟩ (upd H p u) p ob):Rep K cl ⟨μ.pl++[p],rs⟩ (S++[ob]) (upd H p u):=by
 have np:p∉μ.pl:=(rp.res p (by rw [er];exact List.mem_cons_self)).1
 have hp':∀ (n:Nat) (a:Addr),μ.pl[n]?=some a->(μ.pl++[p])[n]?=some a:=λn a e=>by rw [List.getElem?_append_left (List.getElem?_eq_some_iff.mp e).1];exact e
 have ho':∀ a w,H a=some w->a∉μ.pl->a∉μ.rs->upd H p u a=some w/\a∉(⟨μ.pl++[p],rs⟩:Mp).pl/\a∉(⟨μ.pl++[p],rs⟩:Mp).rs:=λa w e n1 n2=>by
  have ne:a≠p:=λz=>n2 (by rw [er,z];exact List.mem_cons_self)
  refine ⟨by rw [a9 ne];exact e,λz=>?_,λz=>n2 (by rw [er];exact List.mem_cons_of_mem _ z)⟩
  rcases List.mem_append.mp z with z | z
  ·exact n1 z
  ·exact ne (List.mem_singleton.mp z)
 refine ⟨by simp [rp.len],?_,λn o a e1 e2=>?_,λa m=>?_⟩
 ·show (μ.pl++[p]).Nodup
  rw [List.nodup_append]
  exact ⟨rp.nd,by simp,λa m b m2=>by rw [List.mem_singleton.mp m2];rintro rfl;exact np m⟩
 ·have e2:(μ.pl++[p])[n]?=some a:=e2
  by_cases hn:n<S.length
  ·rw [List.getElem?_append_left hn] at e1
   rw [List.getElem?_append_left (by rw [rp.len];exact hn)] at e2
   have h:=rp.ats n o a e1 e2
   have ka:upd H p u a=H a:=a9 λz=>np (z▸List.mem_of_getElem? e2)
   cases o with
   | lst ds=>obtain ⟨xs,e,q⟩:=h;exact ⟨xs,by rw [ka];exact e,q.move hp' ho'⟩
   | dct kvs=>obtain ⟨xs,e,q⟩:=h;exact ⟨xs,by rw [ka];exact e,Paired.mono (λ_ _ ⟨z,w⟩=>⟨z,w.move hp' ho'⟩) q⟩
   | exc c fs=>
    obtain ⟨xc,gs,q,fr,h⟩:=h
    refine ⟨xc,gs,Paired.mono (λ_ _ ⟨z,w⟩=>⟨z,w.move hp' ho'⟩) q,fr,?_⟩
    rcases h with ⟨z,e⟩ | ⟨d,h1,h2,e,e3⟩
    ·exact .inl ⟨z,by rw [ka];exact e⟩
    ·have ne:d≠p:=b4h e3 hp (by intro z;cases z)
     refine .inr ⟨d,h1,λz=>?_,by rw [ka];exact e,by rw [a9 ne];exact e3⟩
     rcases List.mem_append.mp z with z | z
     ·exact h2 z
     ·exact ne (List.mem_singleton.mp z)
  ·have hn2:n=S.length:=by
    have:=(List.getElem?_eq_some_iff.mp e1).1
    simp at this;omega
   subst hn2
   rw [<- rp.len] at e2
   simp at e1 e2
   subst e1;subst e2
   exact ho
 ·have m:a∈rs:=m
  obtain ⟨h1,w,h2⟩:=rp.res a (by rw [er];exact List.mem_cons_of_mem _ m)
  have ne:a≠p:=λz=>nr (z▸m)
  refine ⟨λz=>?_,w,by rw [a9 ne];exact h2⟩
  rcases List.mem_append.mp z with z | z
  ·exact h1 z
  ·exact ne (List.mem_singleton.mp z)
theorem a11:∀ {ds:List (D×D)} {ps:List (V×V)} {kvs:List (Key×D)},RPs K μ H ds ps->k7 a2z ds=some kvs->∃ ks:List (Key×V),KvsAt K μ H kvs ks/\ps=ks.map (λkv=>(kV kv.1,kv.2))
 | _,_,kvs,.nil,e=>by cases e;exact ⟨[],.nil,rfl⟩
 | _,_,kvs,.cons (a:=a) (b:=b) ⟨h1,h2⟩ t,e=>by
  simp only [k7] at e
  cases e1:a2z a with
  | none=>rw [e1] at e;cases e
  | some kv=>
   rename_i as bs
   cases e2:k7 a2z as with
   | none=>rw [e1,e2] at e;cases e
   | some kvs'=>
    rw [e1,e2] at e;cases e
    obtain ⟨ks,q1,q2⟩:=a11 t e2
    unfold a2z at e1
    cases e3:B1 a.1 with
    | none=>rw [e3] at e1;cases e1
    | some k=>
     rw [e3] at e1;cases e1
     have:=L8 h1 e3
     obtain ⟨b1,b2⟩:=b
     subst this
     exact ⟨(k,b2) :: ks,.cons ⟨rfl,h2⟩ q1,by rw [q2];rfl⟩
end
section
variable {X:Cx} {cl:Nat->Addr} {xe:Addr->Hp->Prop} {pos:Pos}
theorem b8z {keys:List (Option Expr)} {values:List Expr} {fks:List ((Env->M D)×(Env->M D))} (h:PPs X pos keys values (fks.map λfg=>(tD X.K cl xe fg.1,tD X.K cl xe fg.2))) (hall:keys.all (·.isSome)=true) (hl:keys.length=values.length) (h0:keys≠[]) (h15:keys.length<=15) :
  PE X (.Dict keys values pos) (tD X.K cl xe λρ=>bind (E1 fks ρ) a2q):=PE.imp (b7u h hall hl h0 h15) λσ H Q ⟨μ,S,ρ,eo,rp,P⟩=>by
 intro p hp
 have nrs:=rp.notrs hp
 refine Z2 (p:=p) (o:=.dK []) (ρ:=ρ) (μ:=μ) (H:=H) (μ2:=μ.hold p) (S2:=S) P ?_ (rp.notin hp) c8 (a5e rp hp eo) (a51 rp hp) λps H3 μ3 S3 ds hl3 n3 e3 r3 l3 rps P3=>?_
 ·refine ⟨⟨λ_ _ e=>e,λa o e _=>by rw [a9 (c9 e hp)];exact e,λa m=>.inl m,λa m=>?_⟩,rfl⟩
  rcases List.mem_cons.mp (show a∈p :: μ.rs from m) with rfl | m
  ·exact .inr hp
  ·exact .inl m
 ·simp only [a2q] at P3
  cases e1:k7 a2z ds with
  | none=>rw [e1] at P3;exact P3.elim
  | some kvs=>
   rw [e1] at P3
   by_cases h15:kvs.length<=15
   ·simp only [if_pos h15] at P3
    obtain ⟨ks,q1,q2⟩:=a11 rps e1
    refine ⟨e3,ks,q2,by rw [<- Paired.length q1];exact h15,?_⟩
    have np:p∉μ3.pl:=n3
    have hp':∀ (n:Nat) (a:Addr),μ3.pl[n]?=some a->(μ3.pl++[p])[n]?=some a:=λn a e=>by rw [List.getElem?_append_left (List.getElem?_eq_some_iff.mp e).1];exact e
    have mv:∀ {u:HO} {d:D} {v:V},RD X.K μ3 H3 d v->RD X.K ⟨μ3.pl++[p],μ.rs⟩ (upd H3 p u) d v:=λr=>r.move (μ:=μ3) (μ':=⟨μ3.pl++[p],μ.rs⟩) hp' λa w e n1 n2=>by
     have ne:a≠p:=λz=>n2 (by rw [hl3.rs,z];exact List.mem_cons_self)
     refine ⟨by rw [a9 ne];exact e,λz=>?_,λz=>n2 (by rw [hl3.rs];exact List.mem_cons_of_mem _ z)⟩
     rcases List.mem_append.mp z with z | z
     ·exact n1 z
     ·exact ne (List.mem_singleton.mp z)
    refine P3 ⟨μ3.pl++[p],μ.rs⟩ _ ?_ (a7y hl3.rs nrs e3 r3 ⟨_,c8,X2 (Paired.mono (λ_ _ ⟨z,w⟩=>⟨z,mv w⟩) q1) .nil⟩) _ (.ref ?_)
    ·refine ⟨λn a e=>hp' n a (hl3.r.pre n a e),λa o e n=>?_,λa m=>?_,rfl⟩
     ·rw [a9 (c9 e hp)];exact hl3.r.oth a o e n
     ·rcases List.mem_append.mp (show a∈μ3.pl++[p] from m) with m | m
      ·exact hl3.r.new a m
      ·exact .inr (by rw [List.mem_singleton.mp m];exact hp)
    ·show (μ3.pl++[p])[S3.length]?=some p
     rw [<- r3.len];simp
   ·simp only [if_neg h15] at P3;exact P3.elim
end
noncomputable def D3 (S:Sto) (d:D):Bool:=match i9 64 S d with
 | some p=>decide (Shows p)&&decide (p.shown.length<=4000)&&(match d with
  | .str x=>decide (x.length<=4000)
  | _=>true)
 | none=>false
noncomputable def K6 (c:Nat) (fs:List Str) (ds:List D):M D:=λS=>if ds.length=fs.length/\ds.all (D3 S)=true then .ok (.ref S.length) (S++[.exc c (fs.zip ds)]) else .bad
noncomputable def b44 (c:Nat) (ds:List D):M D:=λS=>match ds with
 | [_]=>.ok (.ref S.length) (S++[.exc c []])
 | _=>.bad
theorem a7i {K:PySem.W.Frag} {cl:Nat->Addr} {μ:Mp} {H:Hp} {S:Sto} {d:D} {v:V} (rp:Rep K cl μ S H) (r:RD K μ H d v) (h:D3 S d=true):∃ p,Hn.Fmt K H v p:=by
 unfold D3 at h
 cases e:i9 64 S d with
 | none=>rw [e] at h;cases h
 | some p=>
  rw [e] at h
  simp only [Bool.and_eq_true,decide_eq_true_eq] at h
  refine ⟨p,A8 rp 64 e r,h.1.1,h.1.2,λx ex=>?_⟩
  subst ex
  cases r with
  | str _=>exact of_decide_eq_true h.2
def d04 (K:PySem.W.Frag) (H:Hp) (v:V):Prop:=∃ x C d,v=.ref x/\XC K C/\H x=some (P1 x C d)
def tDf (K:PySem.W.Frag) (cl:Nat->Addr) (xe:Addr->Hp->Prop) (f:Env->M D):TE:=λσ H Q=>∃ μ S ρ,EnvOk K μ H ρ σ/\Rep K cl μ S H/\Post K cl xe μ H (f ρ S) λd _ μ' H'=>∀ v,RD K μ' H' d v->d04 K H' v->Q v H'
theorem PE.unf {X:Cx} {cl:Nat->Addr} {xe:Addr->Hp->Prop} {e:Expr} {f:Env->M D} (h:PE X e (tDf X.K cl xe f)):PE X e (tD X.K cl xe f):=PE.imp h λσ H Q ⟨μ,S,ρ,eo,rp,P⟩=>⟨μ,S,ρ,eo,rp,P.imp λd S1 μ1 H1 l1 r1 p1 v rv _=>p1 v rv⟩
section
variable {X:Cx} {cl:Nat->Addr} {xe:Addr->Hp->Prop} {e:Expr} {es:List Expr} {pos:Pos} {fs:Env->M (List D)}
theorem a96 {K:PySem.W.Frag} {μ:Mp} {H H':Hp} {S:Sto} {c:Nat} {x:Addr} {gs:List (Str×V)} {ds:List (Str×D)} (rp:Rep K cl μ S H) (hx:H x=none) (M:XC K (cl c)) (g:Hn.Got (upd H x (P1 x (cl c) none)) x (cl c) gs H') (r:∀ {μ':Mp} {H':Hp},Lat μ H μ' H'->a75 K μ' H' ds gs) :
  Lat μ H (μ.push x) H'/\Rep K cl (μ.push x) (S++[.exc c ds]) H'/\RD K (μ.push x) H' (.ref S.length) (.ref x):=by
 obtain ⟨d,hd,ne,h1,h2,h3⟩:=g
 rw [a9 ne] at hd
 have k:∀ a u,H a=some u->H' a=some u:=λa u e=>by
  have n1:=c9 e hx
  have n2:=c9 e hd
  rw [h3 a n1 n2,a9 n1];exact e
 have l:=Lat.pushed (μ:=μ) hx k
 refine ⟨l,rp.pushed hx k ⟨M,gs,r l,none,.inr ⟨d,ne,λz=>?_,h1,h2⟩⟩,.ref ?_⟩
 ·rcases List.mem_append.mp (show d∈μ.pl++[x] from z) with z | z
  ·exact rp.notin hd z
  ·exact ne (List.mem_singleton.mp z)
 ·show (μ.pl++[x])[S.length]?=some x
  rw [<- rp.len];simp
theorem b2t {k:Nat} {f:Addr} {fd:FuncData} {ps:List Str} {E:XK} {CX:CXT} {nm g:Str} {p:Pos} {c:Nat} (M:XC X.K (cl c)) (na:v7 X.K (cl c) g) (hi:PySem.W.findIn X.K (.ref (cl c)) "__init__" = some (some (.ref f))) (hf:PySem.W.isFn X.K (.ref f)=true) (F:FnOk X.prog X.w X.K X.mg X.base CX k f fd ps (Hn.sp1 X.K g)) (hr:Room CX.q (k+1) X.A) (hg:Gl X nm) (hm:X.mg nm=some (.ref (cl c))) (hb:Binds X.K fd ps []) (hx:E4 CX X E)
  (ha:PA X (e :: es) (tDs X.K cl xe fs)) (hdb:(nm==("__debug__" : Str))=false) (hs:(e :: es).all noStar=true):PE X (.Call (.Name nm p) (e :: es) [] pos) (tDf X.K cl xe λρ=>bind (fs ρ) (K6 c [g])):=by
 rw [List.all_cons,Bool.and_eq_true] at hs
 refine PE.imp (a1z M hi hf F hr hg hm hb hx ha hdb (f7 hs.1) (p8 hs.2)) λσ H Q ⟨μ,S,ρ,eo,rp,P⟩=>?_
 refine ⟨μ,S,ρ,eo,rp,P.bind.imp λds S1 μ1 H1 l1 r1 p1 vs rvs=>?_⟩
 unfold K6 at p1
 by_cases hc:ds.length=[g].length/\ds.all (D3 S1)=true
 ·rw [if_pos hc] at p1
  match ds,hc,rvs,p1 with
  | [d],hc,rvs,p1=>
   obtain ⟨v,rfl,rv⟩:=b8n rvs
   obtain ⟨q,ft⟩:=a7i r1 rv (by simpa using hc.2)
   refine ⟨by show 1<=1000;decide,λx hx=>⟨x,v,cl c,q,rfl,M,na,c8,ft.laid hx,λH' got=>⟨rfl,?_⟩⟩⟩
   obtain ⟨l2,r2,rd2⟩:=a96 (c:=c) (ds:=[(g,d)]) r1 hx M got λl=>.cons ⟨rfl,rv.later l⟩ .nil
   obtain ⟨d0,_,_,g1,_⟩:=id got
   exact p1 _ _ l2 r2 _ rd2 ⟨x,cl c,_,rfl,M,g1⟩
  | [],hc,_,_=>exact absurd hc.1 (by simp)
  | _ :: _ :: _,hc,_,_=>exact absurd hc.1 (by simp)
 ·rw [if_neg hc] at p1;exact p1.elim
theorem b58 {k:Nat} {f:Addr} {fd:FuncData} {ps:List Str} {E:XK} {CX:CXT} {nm g g2:Str} {p:Pos} {c:Nat} (M:XC X.K (cl c)) (na:v7 X.K (cl c) g) (nb:v7 X.K (cl c) g2) (hi:PySem.W.findIn X.K (.ref (cl c)) "__init__" = some (some (.ref f))) (hf:PySem.W.isFn X.K (.ref f)=true) (F:FnOk X.prog X.w X.K X.mg X.base CX k f fd ps (Hn.sp2 X.K g g2)) (hr:Room CX.q (k+1) X.A) (hg:Gl X nm) (hm:X.mg nm=some (.ref (cl c))) (hb:Binds X.K fd ps []) (hx:E4 CX X E)
  (ha:PA X (e :: es) (tDs X.K cl xe fs)) (hdb:(nm==("__debug__" : Str))=false) (hs:(e :: es).all noStar=true):PE X (.Call (.Name nm p) (e :: es) [] pos) (tDf X.K cl xe λρ=>bind (fs ρ) (K6 c [g,g2])):=by
 rw [List.all_cons,Bool.and_eq_true] at hs
 refine PE.imp (a1z M hi hf F hr hg hm hb hx ha hdb (f7 hs.1) (p8 hs.2)) λσ H Q ⟨μ,S,ρ,eo,rp,P⟩=>?_
 refine ⟨μ,S,ρ,eo,rp,P.bind.imp λds S1 μ1 H1 l1 r1 p1 vs rvs=>?_⟩
 unfold K6 at p1
 by_cases hc:ds.length=[g,g2].length/\ds.all (D3 S1)=true
 ·rw [if_pos hc] at p1
  match ds,hc,rvs,p1 with
  | [d,d2],hc,rvs,p1=>
   cases rvs with
   | cons rv t=>
    obtain ⟨v2,rfl,rv2⟩:=b8n t
    rename_i v
    have hc2:D3 S1 d=true/\D3 S1 d2=true:=by simpa using hc.2
    obtain ⟨q,ft⟩:=a7i r1 rv hc2.1
    obtain ⟨q2,ft2⟩:=a7i r1 rv2 hc2.2
    refine ⟨by show 2<=1000;decide,λx hx=>⟨x,v,v2,cl c,q,q2,rfl,M,na,nb,c8,ft.laid hx,ft2.laid hx,λH' got=>⟨rfl,?_⟩⟩⟩
    obtain ⟨l2,r2,rd2⟩:=a96 (c:=c) (ds:=[(g,d),(g2,d2)]) r1 hx M got λl=>.cons ⟨rfl,rv.later l⟩ (.cons ⟨rfl,rv2.later l⟩ .nil)
    obtain ⟨d0,_,_,g1,_⟩:=id got
    exact p1 _ _ l2 r2 _ rd2 ⟨x,cl c,_,rfl,M,g1⟩
  | [],hc,_,_=>exact absurd hc.1 (by simp)
  | [_],hc,_,_=>exact absurd hc.1 (by simp)
  | _ :: _ :: _ :: _,hc,_,_=>exact absurd hc.1 (by simp)
 ·rw [if_neg hc] at p1;exact p1.elim
theorem b5w {k:Nat} {f:Addr} {fd:FuncData} {ps:List Str} {E:XK} {CX:CXT} {nm:Str} {p:Pos} {c:Nat} (M:XC X.K (cl c)) (hi:PySem.W.findIn X.K (.ref (cl c)) "__init__" = some (some (.ref f))) (hf:PySem.W.isFn X.K (.ref f)=true) (F:FnOk X.prog X.w X.K X.mg X.base CX k f fd ps (Hn.spHE X.K)) (hr:Room CX.q (k+1) X.A) (hg:Gl X nm) (hm:X.mg nm=some (.ref (cl c))) (hb:Binds X.K fd ps []) (hx:E4 CX X E)
  (ha:PA X (e :: es) (tDs X.K cl xe fs)) (hdb:(nm==("__debug__" : Str))=false) (hs:(e :: es).all noStar=true):PE X (.Call (.Name nm p) (e :: es) [] pos) (tDf X.K cl xe λρ=>bind (fs ρ) (b44 c)):=by
 rw [List.all_cons,Bool.and_eq_true] at hs
 refine PE.imp (a1z M hi hf F hr hg hm hb hx ha hdb (f7 hs.1) (p8 hs.2)) λσ H Q ⟨μ,S,ρ,eo,rp,P⟩=>?_
 refine ⟨μ,S,ρ,eo,rp,P.bind.imp λds S1 μ1 H1 l1 r1 p1 vs rvs=>?_⟩
 match ds,rvs,p1 with
 | [d],rvs,p1=>
  obtain ⟨v,rfl,rv⟩:=b8n rvs
  refine ⟨by show 1<=1000;decide,λx hx=>⟨x,v,cl c,none,rfl,M,c8,rfl,?_⟩⟩
  have k:∀ a u,H1 a=some u->upd H1 x (P1 x (cl c) none) a=some u:=λa u e=>by rw [a9 (c9 e hx)];exact e
  have l:=Lat.pushed (μ:=μ1) hx k
  refine p1 _ _ l (r1.pushed hx k ⟨M,[],.nil,none,.inl ⟨rfl,c8⟩⟩) _ (.ref ?_) ⟨x,cl c,_,rfl,M,c8⟩
  show (μ1.pl++[x])[S1.length]?=some x
  rw [<- r1.len];simp
 | [],_,p1=>exact p1.elim
 | _ :: _ :: _,_,p1=>exact p1.elim
noncomputable def a5u (g:Str) (d:D):M D:=match d with
 | .ref n=>λS=>match S[n]? with
  | some (.exc _ fs)=>match fs.lookup g with
   | some v=>.ok v S
   | none=>.bad
  | _=>.bad
 | _=>bad
theorem a26 {K:PySem.W.Frag} {μ:Mp} {H:Hp} {g:Str} {d:D}:∀ {fs:List (Str×D)} {gs:List (Str×V)},a75 K μ H fs gs->fs.lookup g=some d->∃ v,gs.lookup g=some v/\RD K μ H d v
 | _,_,.nil,e=>by cases e
 | _,_,.cons (a:=a) (b:=b) ⟨h1,h2⟩ t,e=>by
  obtain ⟨a1,a2⟩:=a
  obtain ⟨b1,b2⟩:=b
  have h1:a1=b1:=h1
  subst h1
  rw [List.lookup_cons] at e ⊢
  cases hq:g==a1 with
  | true=>rw [hq] at e;cases e;exact ⟨b2,rfl,h2⟩
  | false=>rw [hq] at e;exact a26 t e
theorem c3c {g:Str} {f:Env->M D} (hn:∀ c,XC X.K (cl c)->v7 X.K (cl c) g) (h:PE X e (tD X.K cl xe f)) (hb:y3 e=true):PE X (.Attribute e g pos) (tD X.K cl xe λρ=>bind (f ρ) (a5u g)):=PE.imp (b9m h (N8 hb)) λσ H Q ⟨μ,S,ρ,eo,rp,p⟩=>
 ⟨μ,S,ρ,eo,rp,p.bind.imp λd S1 μ1 H1 l1 r1 p1 v rv=>by
  cases rv with
  | ref h=>
   rename_i n a
   simp only [a5u] at p1
   cases q1:S1[n]? with
   | none=>rw [q1] at p1;exact p1.elim
   | some o=>
    rw [q1] at p1
    cases o with
    | exc c fs=>
     simp only at p1
     obtain ⟨xc,gs,r,fr,h2⟩:=r1.ats n _ a q1 h
     cases q2:fs.lookup g with
     | none=>rw [q2] at p1;exact p1.elim
     | some w=>
      rw [q2] at p1
      obtain ⟨v,e1,r3⟩:=a26 r q2
      rcases h2 with ⟨z,e⟩ | ⟨d,n1,n2,e,e2⟩
      ·subst z;cases e1
      ·exact ⟨fr,a,cl c,d,gs,v,rfl,xc,hn c xc,e,e2,e1,p1 μ1 H1 (Lat.refl _ _) r1 _ r3⟩
    | lst _=>exact p1.elim
    | dct _=>exact p1.elim
  | _=>exact False.elim p1⟩
end
noncomputable def tys:List String:=["NoneType","bool","int","str","tuple","list","dict"]
noncomputable def subT (t T:String):Bool:=t==T||(t == "bool" && T == "int")
theorem b7e (K:PySem.W.Frag):∀ t∈tys,∀ T∈tys,PySem.W.kitOne K (.type t) (.type T)=some (subT t T):=by
 intro t ht T hT
 simp only [tys,List.mem_cons,List.not_mem_nil,or_false] at ht hT
 rcases ht with rfl | rfl | rfl | rfl | rfl | rfl | rfl <;> rcases hT with rfl | rfl | rfl | rfl | rfl | rfl | rfl <;> kernel_rfl
noncomputable def tyD (S:Sto) (d:D):Option String:=match d with
 | .non=>some "NoneType"
 | .bl _=>some "bool"
 | .int _=>some "int"
 | .str _=>some "str"
 | .tup _=>some "tuple"
 | .lst _=>some "list"
 | .scr _=>some "list"
 | .ref n=>match S[n]? with
  | some (.lst _)=>some "list"
  | some (.dct _)=>some "dict"
  | _=>none
noncomputable def z0 (T:String) (sx:Nat->Bool) (d:D):M D:=λS=>match tyD S d with
 | some t=>.ok (.bl (subT t T)) S
 | none=>match d with
  | .ref n=>match S[n]? with
   | some (.exc c _)=>.ok (.bl (sx c)) S
   | _=>.bad
  | _=>.bad
noncomputable def B9 (sx:Nat->Bool) (d:D):M D:=λS=>match d with
 | .ref n=>match S[n]? with
  | some (.exc c _)=>.ok (.bl (sx c)) S
  | _=>.bad
 | _=>.bad
section
variable {X:Cx} {cl:Nat->Addr} {xe:Addr->Hp->Prop} {a:Expr} {pos p q:Pos} {f:Env->M D}
theorem a87 {T:V} {c0:Value} {sx:Nat->Bool} (hc:c7h T=some c0) (hk:∀ c,XC X.K (cl c)->PySem.W.kitOne X.K (.ref (cl c)) c0=some (sx c)) {pins:List (Addr×Obj)} {s:Shared} {σ:L2.St} {H:Hp} {us:List Value} {Q:VK} {μ:Mp} {S:Sto} {n:Nat} {b:Addr} {c:Nat} {fs:List (Str×D)} (I:L2.Inv X pins σ H s) (r:Vals [.ref b,T] us)
  (rp:Rep X.K cl μ S H) (e:S[n]?=some (.exc c fs)) (h:μ.pl[n]?=some b) (q:Q (.bl (sx c)) H):wpAny (model X.prog X.w) X.A (call (.builtin "isinstance") us) (EP X pins σ Q) X.xe s:=by
 obtain ⟨xc,gs,r2,fr,h2⟩:=rp.ats n _ b e h
 rcases h2 with ⟨z,e2⟩ | ⟨d,n1,n2,e2,e3⟩
 ·exact a3d pins s σ H _ us Q I r ⟨fr,b,cl c,none,T,c0,sx c,rfl,xc,e2,λ_ z=>(nomatch z),hc,hk c xc,q⟩
 ·exact a3d pins s σ H _ us Q I r ⟨fr,b,cl c,some d,T,c0,sx c,rfl,xc,e2,λd' z=>by cases z;exact ⟨gs,e3⟩,hc,hk c xc,q⟩
theorem b0h {T:String} (hT:T∈tys) {pins:List (Addr×Obj)} {s:Shared} {σ:L2.St} {H:Hp} {us:List Value} {Q:VK} {μ:Mp} {S:Sto} {d:D} {v:V} {t:String} (I:L2.Inv X pins σ H s) (r:Vals [v,.ty T] us) (rd:RD X.K μ H d v) (rp:Rep X.K cl μ S H) (e:tyD S d=some t)
  (q:Q (.bl (subT t T)) H):wpAny (model X.prog X.w) X.A (call (.builtin "isinstance") us) (EP X pins σ Q) X.xe s:=by
 obtain ⟨u,u2,rfl,ru,ru2⟩:=a56 r
 cases (show u2=Value.type T from ru2)
 have ht:t∈tys:=by
  cases d <;> simp only [tyD] at e <;> first
   | (cases e;decide)
   | (split at e <;> first | (cases e;decide) | cases e)
 have hk:=b7e X.K t ht T hT
 have fin:∀ tk,EP X pins σ Q (.bool (subT t T)) { s with toks:=tk }:=λtk=>⟨.bl _,H,I.tok _,rfl,q⟩
 have tupT:∀ {b:Addr} {xs:List V},SqT X.K H b xs->u=.ref b->t = "tuple"->wpAny (model X.prog X.w) X.A (call (.builtin "isinstance") [u,.type T]) (EP X pins σ Q) X.xe s:=λ{b xs} h eu et=>by
  subst eu et
  obtain ⟨its,_,⟨o,h1,h2,_⟩,_⟩:=I.tuple h
  exact PySem.W.kia_one PySem.W.kitx_tuple I.kIn ⟨o,h1,h2⟩ hk (λz=>nomatch z) fin
 have lstT:∀ {b:Addr} {xs:List V},SqL X.K H b xs->u=.ref b->t = "list"->wpAny (model X.prog X.w) X.A (call (.builtin "isinstance") [u,.type T]) (EP X pins σ Q) X.xe s:=λ{b xs} h eu et=>by
  subst eu et
  obtain ⟨its,_,⟨o,n,h1,h2,_⟩,_⟩:=I.list h
  exact PySem.W.kia_one PySem.W.kitx_list I.kIn ⟨o,h1,h2⟩ hk (λz=>nomatch z) fin
 cases rd with
 | non=>cases (show u=Value.none from ru);cases e;exact PySem.W.kia_one PySem.W.kitx_none I.kIn True.intro hk (λz=>nomatch z) fin
 | bl b=>cases (show u=Value.bool b from ru);cases e;exact PySem.W.kia_one PySem.W.kitx_bool I.kIn True.intro hk (λz=>nomatch z) fin
 | int i=>obtain ⟨tk,q⟩:=(show ∃ t,u=Value.int i t from ru);cases q;cases e;exact PySem.W.kia_one PySem.W.kitx_int I.kIn True.intro hk (λz=>nomatch z) fin
 | str x=>obtain ⟨tk,q⟩:=(show ∃ t,u=Value.str x t from ru);cases q;cases e;exact PySem.W.kia_one PySem.W.kitx_str I.kIn True.intro hk (λz=>nomatch z) fin
 | tup h r=>cases e;exact tupT h.sq ru rfl
 | lst h r=>cases e;exact lstT h.sq ru rfl
 | scr h r=>cases e;exact lstT h.sq ru rfl
 | ref h=>
  rename_i n b
  simp only [tyD] at e
  cases q1:S[n]? with
  | none=>rw [q1] at e;cases e
  | some o=>
   rw [q1] at e
   cases o with
   | lst ds=>
    cases e
    obtain ⟨xs,h1,h2⟩:=rp.ats n _ b q1 h
    exact lstT (.inl (.inl h1)) ru rfl
   | dct kvs=>
    cases e
    obtain ⟨ks,h1,h2⟩:=rp.ats n _ b q1 h
    cases (show u=Value.ref b from ru)
    obtain ⟨_,_,vs,_,pp⟩:=(show ObjOk X.prog X.w H s.heap b (.dK ks) from I.hok b _ h1)
    obtain ⟨o,es,ep,g1,g2,_⟩:=pp
    exact PySem.W.kia_one PySem.W.kitx_dict I.kIn ⟨o,g1,g2.1⟩ hk (λz=>nomatch z) fin
   | exc _ _=>cases e
theorem a97 {x:Str} {T:String} {sx:Nat->Bool} (hT:T∈tys\/T = "ValueError") (hk:∀ c,XC X.K (cl c)->PySem.W.kitOne X.K (.ref (cl c)) (.type T)=some (sx c)) (h:PE X a (tD X.K cl xe f)) (hg:Gl X "isinstance") (hm:X.mg "isinstance" = none) (hg2:Gl X x) (hm2:X.mg x=none) (hv:bootBuiltins x=some (.type T)) (hn:x ≠ "__name__") (hd:(x==("__debug__" : Str))=false) (hs:noStar a=true) :
  PE X (.Call (.Name "isinstance" p) [a,.Name x q] [] pos) (tD X.K cl xe λρ=>bind (f ρ) λd=>if T∈tys then z0 T sx d else B9 sx d):=by
 have key:j3 X (.builtin "isinstance") (λvs H Q=>∃ μ S d v,vs=[v,.ty T]/\RD X.K μ H d v/\Rep X.K cl μ S H/\Post X.K cl xe μ H ((if T∈tys then z0 T sx d else B9 sx d) S) λr _ μ' H'=>∀ v,RD X.K μ' H' r v->Q v H'):=by
  intro pins s σ H xs us Q I r ⟨μ,S,d,v,ev,rd,rp,P⟩
  subst ev
  have ex:∀ {n:Nat} {b:Addr} {c:Nat} {fs:List (Str×D)},v=.ref b->S[n]?=some (.exc c fs)->μ.pl[n]?=some b->Q (.bl (sx c)) H->wpAny (model X.prog X.w) X.A (call (.builtin "isinstance") us) (EP X pins σ Q) X.xe s:=λ{n b c fs} ev e h q=>by
   subst ev
   exact a87 (T:=.ty T) (c0:=.type T) rfl hk I r rp e h q
  by_cases ht:T∈tys
  ·rw [if_pos ht] at P
   unfold z0 at P
   cases e:tyD S d with
   | some t=>rw [e] at P;exact b0h ht I r rd rp e (P μ H (Lat.refl _ _) rp _ (.bl _))
   | none=>
    rw [e] at P
    cases rd with
    | ref h=>
     rename_i n b
     simp only at P
     cases q1:S[n]? with
     | none=>rw [q1] at P;exact P.elim
     | some o=>
      rw [q1] at P
      cases o with
      | exc c fs=>exact ex rfl q1 h (P μ H (Lat.refl _ _) rp _ (.bl _))
      | lst _=>exact P.elim
      | dct _=>exact P.elim
    | _=>exact False.elim P
  ·rw [if_neg ht] at P
   unfold B9 at P
   cases rd with
   | ref h=>
    rename_i n b
    simp only at P
    cases q1:S[n]? with
    | none=>rw [q1] at P;exact P.elim
    | some o=>
     rw [q1] at P
     cases o with
     | exc c fs=>exact ex rfl q1 h (P μ H (Lat.refl _ _) rp _ (.bl _))
     | lst _=>exact P.elim
     | dct _=>exact P.elim
   | _=>exact False.elim P
 have hb:PE X (.Name x q) (tC (.ty T)):=b96 (u:=.type T) hg2 hm2 hv rfl hn hd
 refine PE.imp (V7 key hg hm (by rfl) (i7 h (i7 hb B8 (f7 rfl)) (f7 hs)) (by decide) (by decide) (f7 hs) (p8 rfl)) λσ H Q ⟨μ,S,ρ,eo,rp,P⟩=>?_
 exact ⟨μ,S,ρ,eo,rp,P.bind.imp λd S1 μ1 H1 l1 r1 p1 v rv=>⟨μ1,S1,d,v,rfl,rv,r1,p1⟩⟩
theorem b9v {x:Str} {c0:Nat} {sx:Nat->Bool} (hk:∀ c,XC X.K (cl c)->PySem.W.kitOne X.K (.ref (cl c)) (.ref (cl c0))=some (sx c)) (h:PE X a (tD X.K cl xe f)) (hg:Gl X "isinstance") (hm:X.mg "isinstance" = none) (hg2:Gl X x) (hm2:X.mg x=some (.ref (cl c0))) (hd:(x==("__debug__" : Str))=false) (hs:noStar a=true) :
  PE X (.Call (.Name "isinstance" p) [a,.Name x q] [] pos) (tD X.K cl xe λρ=>bind (f ρ) λd=>B9 sx d):=by
 have key:j3 X (.builtin "isinstance") (λvs H Q=>∃ μ S d v,vs=[v,.ref (cl c0)]/\RD X.K μ H d v/\Rep X.K cl μ S H/\Post X.K cl xe μ H (B9 sx d S) λr _ μ' H'=>∀ v,RD X.K μ' H' r v->Q v H'):=by
  intro pins s σ H xs us Q I r ⟨μ,S,d,v,ev,rd,rp,P⟩
  subst ev
  unfold B9 at P
  cases rd with
  | ref h=>
   rename_i n b
   simp only at P
   cases q1:S[n]? with
   | none=>rw [q1] at P;exact P.elim
   | some o=>
    rw [q1] at P
    cases o with
    | exc c fs=>exact a87 (T:=.ref (cl c0)) (c0:=.ref (cl c0)) rfl hk I r rp q1 h (P μ H (Lat.refl _ _) rp _ (.bl _))
    | lst _=>exact P.elim
    | dct _=>exact P.elim
  | _=>exact False.elim P
 have hb:PE X (.Name x q) (tC (.ref (cl c0))):=a4d (u:=.ref (cl c0)) hg2 hm2 rfl hd
 refine PE.imp (V7 key hg hm (by rfl) (i7 h (i7 hb B8 (f7 rfl)) (f7 hs)) (by decide) (by decide) (f7 hs) (p8 rfl)) λσ H Q ⟨μ,S,ρ,eo,rp,P⟩=>?_
 exact ⟨μ,S,ρ,eo,rp,P.bind.imp λd S1 μ1 H1 l1 r1 p1 v rv=>⟨μ1,S1,d,v,rfl,rv,r1,p1⟩⟩
end
theorem a0t (bs:List Bool):(List.range bs.length).map (λi=>bs.getD i false)=bs:=by
 apply List.ext_getElem
 ·simp
 ·intro i h1 h2
  simp at h1
  simp [h1]
theorem b1w (bs:List Bool):(List.range bs.length).any (λi=>bs.getD i false)=bs.any id:=by
 conv=>rhs;rw [<- a0t bs,List.any_map]
 rfl
theorem b06 (bs:List Bool):(List.range bs.length).all (λi=>bs.getD i false)=bs.all id:=by
 conv=>rhs;rw [<- a0t bs,List.all_map]
 rfl
section
variable {X:Cx}
theorem Y8 {A:Around} {bs:List Bool} {its:List Value} (r:Vals (bs.map V.bl) its):TruthOf X.prog X.w A (λi v=>its.toArray[i]?=some v) (λi=>bs.getD i false):=by
 intro i v s Q E hP hQ
 rw [List.getElem?_toArray] at hP
 have hi:i<bs.length:=by
  have a:=r.length
  rw [List.length_map] at a
  have b:=(List.getElem?_eq_some_iff.mp hP).1
  omega
 obtain ⟨u,e1,rv⟩:=Vals.get r (i:=i) (x:=V.bl bs[i]) (by rw [List.getElem?_map,List.getElem?_eq_getElem hi];rfl)
 rw [hP] at e1
 cases e1
 cases rv
 have:bs.getD i false=bs[i]:=by simp [hi]
 exact wpAny_truthy_bool (this▸hQ)
theorem a5s (hc:X.calm=true):j3 X (.builtin "any") (λxs H Q=>∃ (p:Addr) (bs:List Bool),xs=[.ref p]/\SqL X.K H p (bs.map V.bl)/\Q (.bl (bs.any id)) H):=by
 intro pins s σ H xs us Q I r h
 obtain ⟨p,bs,rfl,hq,q⟩:=h
 obtain ⟨u,rfl,rx⟩:=K0 r
 cases rx
 obtain ⟨its,r',pl,hz⟩:=I.list hq
 have hh:X.A.handled=none:=I.ok.hd hc
 have lt:p<s.heap.objs.size:=by
  obtain ⟨o,ho,_⟩:=pl.isList
  exact Heap.lt_size ho
 have hl:its.length=bs.length:=by rw [<- r'.length,List.length_map]
 refine call_any_walk (wpAny_pyIter_list pl.isList ⟨s.heap.objs.size,[s.heap.objs.size,p],[s.heap.objs.size],its.toArray.size,_,_,λi=>bs.getD i false,rfl,Walks.list (A:=X.A.in1) (show X.A.in1.handled=none from hh) _ _ (Nat.ne_of_lt lt) its.toArray,⟨?_,?_⟩,Y8 r',λh' tk k=>?_⟩)
 ·exact ⟨_,Heap.get?_push_size _ rfl,rfl,rfl⟩
 ·exact pl.isList.push _
 ·have e:(List.range its.toArray.size).any (λi=>bs.getD i false)=bs.any id:=by
   rw [List.size_toArray,hl];exact b1w bs
  rw [e]
  refine ⟨.bl (bs.any id),H,I.kept (t':=tk) λb o eb=>?_,rfl,q⟩
  have nb:b<s.heap.objs.size:=Heap.lt_size eb
  exact k b o (by simp;exact Nat.ne_of_lt nb) (Heap.get?_push_of_some _ eb)
theorem a55 (hc:X.calm=true):j3 X (.builtin "all") (λxs H Q=>∃ (p:Addr) (bs:List Bool),xs=[.ref p]/\SqL X.K H p (bs.map V.bl)/\Q (.bl (bs.all id)) H):=by
 intro pins s σ H xs us Q I r h
 obtain ⟨p,bs,rfl,hq,q⟩:=h
 obtain ⟨u,rfl,rx⟩:=K0 r
 cases rx
 obtain ⟨its,r',pl,hz⟩:=I.list hq
 have hh:X.A.handled=none:=I.ok.hd hc
 have lt:p<s.heap.objs.size:=by
  obtain ⟨o,ho,_⟩:=pl.isList
  exact Heap.lt_size ho
 have hl:its.length=bs.length:=by rw [<- r'.length,List.length_map]
 refine call_all_walk (wpAny_pyIter_list pl.isList ⟨s.heap.objs.size,[s.heap.objs.size,p],[s.heap.objs.size],its.toArray.size,_,_,λi=>bs.getD i false,rfl,Walks.list (A:=X.A.in1) (show X.A.in1.handled=none from hh) _ _ (Nat.ne_of_lt lt) its.toArray,⟨?_,?_⟩,Y8 r',λh' tk k=>?_⟩)
 ·exact ⟨_,Heap.get?_push_size _ rfl,rfl,rfl⟩
 ·exact pl.isList.push _
 ·have e:(List.range its.toArray.size).all (λi=>bs.getD i false)=bs.all id:=by
   rw [List.size_toArray,hl];exact b06 bs
  rw [e]
  refine ⟨.bl (bs.all id),H,I.kept (t':=tk) λb o eb=>?_,rfl,q⟩
  have nb:b<s.heap.objs.size:=Heap.lt_size eb
  exact k b o (by simp;exact Nat.ne_of_lt nb) (Heap.get?_push_of_some _ eb)
variable {cl:Nat->Addr} {xe:Addr->Hp->Prop}
noncomputable def L6:List D->Option (List Bool)
 | []=>some []
 | .bl b :: ds=>(L6 ds).map (b :: ·)
 | _=>none
theorem a60 {K:PySem.W.Frag} {μ:Mp} {H:Hp}:∀ {ds:List D} {vs:List V} {bs:List Bool},L6 ds=some bs->RDs K μ H ds vs->vs=bs.map V.bl
 | [],_,bs,e,r=>by cases r;cases e;rfl
 | d :: ds,_,bs,e,r=>by
  cases r with
  | cons h t=>
   cases d <;> try (simp [L6] at e;done)
   case bl b=>
    simp only [L6] at e
    cases e1:L6 ds with
    | none=>rw [e1] at e;cases e
    | some bs'=>
     rw [e1] at e;cases e
     cases h
     rw [a60 e1 t];rfl
noncomputable def b7x (d:D):M D:=bind (u4 d) λds=>match L6 ds with
 | some bs=>ret (.bl (bs.any id))
 | none=>bad
noncomputable def b1m (d:D):M D:=bind (u4 d) λds=>match L6 ds with
 | some bs=>ret (.bl (bs.all id))
 | none=>bad
theorem d0r (hc:X.calm=true):j3 X (.builtin "any") (rPs X.K cl xe (one b7x)):=J1 λpins s σ H μ S d v us Q I r rd rp p=>by
 obtain ⟨a,xs,ds,rfl,h1,h2,e2⟩:=v3 rd rp p.bind
 have p:=p.ok_bind e2
 cases e:L6 ds with
 | none=>rw [e] at p;exact p.elim
 | some bs=>
  rw [e] at p
  have:=a60 e h2
  subst this
  exact a5s hc pins s σ H _ us Q I r ⟨a,bs,rfl,.inl (.inl h1),p μ H (Lat.refl _ _) rp _ (.bl _)⟩
theorem c8t (hc:X.calm=true):j3 X (.builtin "all") (rPs X.K cl xe (one b1m)):=J1 λpins s σ H μ S d v us Q I r rd rp p=>by
 obtain ⟨a,xs,ds,rfl,h1,h2,e2⟩:=v3 rd rp p.bind
 have p:=p.ok_bind e2
 cases e:L6 ds with
 | none=>rw [e] at p;exact p.elim
 | some bs=>
  rw [e] at p
  have:=a60 e h2
  subst this
  exact a55 hc pins s σ H _ us Q I r ⟨a,bs,rfl,.inl (.inl h1),p μ H (Lat.refl _ _) rp _ (.bl _)⟩
noncomputable def Q9:List D->Option (List Int)
 | []=>some []
 | .int i :: ds=>(Q9 ds).map (i :: ·)
 | _=>none
theorem a8d {K:PySem.W.Frag} {μ:Mp} {H:Hp}:∀ {ds:List D} {vs:List V} {ns:List Int},Q9 ds=some ns->RDs K μ H ds vs->vs=ns.map V.int
 | [],_,ns,e,r=>by cases r;cases e;rfl
 | d :: ds,_,ns,e,r=>by
  cases r with
  | cons h t=>
   cases d <;> try (simp [Q9] at e;done)
   case int i=>
    simp only [Q9] at e
    cases e1:Q9 ds with
    | none=>rw [e1] at e;cases e
    | some ns'=>
     rw [e1] at e;cases e
     cases h
     rw [a8d e1 t];rfl
noncomputable def a6e (d:D):M D:=match d with
 | .int i=>ret (.int i)
 | .bl b=>ret (.int (if b then 1 else 0))
 | _=>bad
theorem c6l:j3 X (.type "int") (rPs X.K cl xe (one a6e)):=J1 λpins s σ H μ S d v us Q I r rd rp p=>by
 cases rd with
 | int i=>exact a22 pins s σ H _ us Q I r (.inl ⟨i,rfl,p μ H (Lat.refl _ _) rp _ (.int _)⟩)
 | bl b=>exact a22 pins s σ H _ us Q I r (.inr ⟨b,rfl,p μ H (Lat.refl _ _) rp _ (.int _)⟩)
 | _=>exact False.elim p
noncomputable def b9y (d:D):M D:=match d with
 | .int i=>if i.natAbs.log2<1920 then ret (.str (toString i)) else bad
 | _=>bad
theorem c7x:j3 X (.type "str") (rPs X.K cl xe (one b9y)):=J1 λpins s σ H μ S d v us Q I r rd rp p=>by
 cases rd with
 | int i=>
  obtain ⟨h,p⟩:=Post.guard p
  exact a4r pins s σ H _ us Q I r ⟨i,rfl,h,p μ H (Lat.refl _ _) rp _ (.str _)⟩
 | _=>exact False.elim p
noncomputable def b8r (d:D):M D:=match d with
 | .int i=>ret (.int (-i))
 | _=>bad
theorem b61:UnR X (unaryOp .USub) (λx H Q=>∃ μ S d,RD X.K μ H d x/\Rep X.K cl μ S H/\Post X.K cl xe μ H (b8r d S) λr _ μ' H'=>∀ v,RD X.K μ' H' r v->Q v H'):=by
 intro pins s σ H x v Q I rx ⟨μ,S,d,rd,rp,p⟩
 cases rd with
 | int i=>exact c53 pins s σ H _ v Q I rx ⟨i,rfl,p μ H (Lat.refl _ _) rp _ (.int _)⟩
 | _=>exact False.elim p
theorem c4v {a:Expr} {f:Env->M D} {pos:Pos} (h:PE X a (tD X.K cl xe f)):PE X (.UnaryOp .USub a pos) (tD X.K cl xe λρ=>bind (f ρ) b8r):=
 PE.imp (c68 b61 h) λσ H Q ⟨μ,S,ρ,eo,rp,p⟩=>⟨μ,S,ρ,eo,rp,p.bind.imp λd S1 μ1 H1 l1 r1 p1 v rv=>⟨μ1,S1,d,rv,r1,p1⟩⟩
noncomputable def a4v (h h':D->D->M D) (x y:D) (z:M D):M D:=bind (h x y) λd=>bind (asB d) λk=>if k=true then bind z λw=>h' y w else ret (.bl false)
theorem b6q {h h':D->D->M D} {tc:TE} {fc:Env->M D} {ρ:Env} {σ:L2.St} {μ:Mp} {S:Sto} {H:Hp} {x y:D} {v u:V} {Q:VK} (htc:tc=tD X.K cl xe fc) (eo:EnvOk X.K μ H ρ σ) (rx:RD X.K μ H x v) (ry:RD X.K μ H y u) (rp:Rep X.K cl μ S H)
  (p:Post X.K cl xe μ H (a4v h h' x y (fc ρ) S) λd _ μ' H'=>∀ v,RD X.K μ' H' d v->Q v H') :
  rP2 X.K cl xe h v u H λz H3=>∃ k,z=.bl k/\(if k=true then tc σ H3 λw' H4=>rP2 X.K cl xe h' u w' H4 Q else Q (.bl false) H3):=by
 subst htc
 refine ⟨μ,S,x,y,rx,ry,rp,p.bind.imp λd S3 μ3 H3 l3 r3 p3 z rz=>?_⟩
 cases rz with
 | bl k=>
  refine ⟨k,rfl,?_⟩
  have p3:Post X.K cl xe μ3 H3 ((if k=true then bind (fc ρ) (λw=>h' y w) else ret (.bl false)) S3) λd _ μ' H'=>∀ v,RD X.K μ' H' d v->Q v H':=p3
  cases k with
  | true=>
   rw [if_pos rfl] at p3 ⊢
   exact ⟨μ3,S3,ρ,eo.later l3,r3,p3.bind.imp λw S4 μ4 H4 l4 r4 p4 w' rw'=>⟨μ4,S4,y,w,(ry.later l3).later l4,rw',r4,p4⟩⟩
  | false=>
   rw [if_neg Bool.false_ne_true] at p3 ⊢
   exact p3 μ3 H3 (Lat.refl _ _) r3 _ (.bl _)
 | _=>exact False.elim p3
theorem d01 {op op':CmpOp} {b c:Expr} (h:behindInMarks op' c=false):lastMarks [op,op'] [b,c]=false:=h
theorem b5z {op op':CmpOp} {h h':D->D->M D} {a b c:Expr} {f g fc:Env->M D} {pos:Pos} (ha:PE X a (tD X.K cl xe f)) (hb:PE X b (tD X.K cl xe g)) (hc:PE X c (tD X.K cl xe fc)) (ho:OpR X (compareOp op) (rP2 X.K cl xe h)) (ho':OpR X (compareOp op') (rP2 X.K cl xe h')) (hm:behindInMarks op' c=false) :
  PE X (.Compare a [op,op'] [b,c] pos) (tD X.K cl xe λρ=>bind (f ρ) λx=>bind (g ρ) λy=>a4v h h' x y (fc ρ)):=PE.imp (b4y ho ho' ha hb hc (d01 hm)) λσ H Q ⟨μ,S,ρ,eo,rp,p⟩=>
 ⟨μ,S,ρ,eo,rp,p.bind.imp λx S1 μ1 H1 l1 r1 p1 v rv=>⟨μ1,S1,ρ,eo.later l1,r1,p1.bind.imp λy S2 μ2 H2 l2 r2 p2 u ru=>b6q rfl ((eo.later l1).later l2) (rv.later l2) ru r2 p2⟩⟩
end
theorem a1h:∀ {xs:List V} {us:List Value},Vals xs us->Vals xs.reverse us.reverse
 | _,_,.nil=>.nil
 | _,_,.cons r t=>by
  rw [List.reverse_cons,List.reverse_cons]
  exact (a1h t).append (.cons r .nil)
theorem a4j {K:PySem.W.Frag} {μ:Mp} {H:Hp}:∀ {ds:List D} {vs:List V},RDs K μ H ds vs->RDs K μ H ds.reverse vs.reverse
 | _,_,.nil=>.nil
 | _,_,.cons r t=>by
  rw [List.reverse_cons,List.reverse_cons]
  exact (a4j t).append (.cons r .nil)
theorem fm_congr {α β:Type} {f g:α->Option β}:∀ {l:List α},(∀ x∈l,f x=g x)->l.filterMap f=l.filterMap g
 | [],_=>rfl
 | x :: l,h=>by
  rw [List.filterMap_cons,List.filterMap_cons,h x (List.mem_cons_self ..),fm_congr λy hy=>h y (List.mem_cons_of_mem _ hy)]
theorem b4t (its:List Value):slicePick its.toArray none none (some (-1))=its.reverse.toArray:=by
 have hb:sliceBounds none none (some (-1)) its.toArray.size=((its.length:Int)-1,-1,-1):=by
  simp [sliceBounds]
 unfold slicePick
 rw [hb]
 have hc:sliceRange ((its.length:Int)-1) (-1) (-1)=(List.range its.length).map λ(k:Nat)=>its.length-1-k:=by
  unfold sliceRange
  have e:(if (-1:Int) > 0 then (if (its.length:Int)-1 < -1 then (-1-((its.length:Int)-1) + -1-1) / -1 else 0) else (if (its.length:Int)-1 > -1 then ((its.length:Int)-1 - -1 - -1-1) / (- -1) else 0)).toNat=its.length:=by
   rw [if_neg (by decide)]
   by_cases h:(its.length:Int)-1 > -1
   ·rw [if_pos h];simp
   ·rw [if_neg h];omega
  show (List.range (if (-1:Int) > 0 then (if (its.length:Int)-1 < -1 then (-1-((its.length:Int)-1) + -1-1) / -1 else 0) else (if (its.length:Int)-1 > -1 then ((its.length:Int)-1 - -1 - -1-1) / (- -1) else 0)).toNat).map (λ(k:Nat)=>((its.length:Int)-1 + -1 * (k:Int)).toNat)=_
  rw [e]
  apply List.map_congr_left
  intro k hk
  omega
 simp only [hc]
 congr 1
 rw [List.filterMap_map]
 have h2:(List.range its.length).filterMap ((λx=>its.toArray[x]?) ∘ λk=>its.length-1-k)=(List.range its.length).filterMap (λk=>its.reverse.toArray[0+k]?):=by
  apply fm_congr
  intro k hk
  have hk:k<its.length:=List.mem_range.mp hk
  simp only [Function.comp,List.getElem?_toArray,Nat.zero_add]
  rw [List.getElem?_reverse hk]
 rw [h2]
 have:=pick_run its.reverse.toArray 0 its.length
 rw [List.filterMap_map] at this
 have e2:((λx=>its.reverse.toArray[x]?) ∘ λx=>0+x)=λm=>its.reverse.toArray[0+m]?:=rfl
 rw [e2] at this
 rw [this]
 simp only [List.drop_zero]
 rw [List.take_of_length_le (by simp)]
end L3
namespace HT
open PySem PySem.Spec PyProof.Rows
section
variable {prog:Program} {w:World} {A:Around} {E:Value->Shared->Prop} {s:Shared}
theorem W6 {sl:Addr} {t:Tok} {n:Nat} {Q:Int×Int×Nat->Shared->Prop} (hs:s.heap.IsSliceOf sl .none .none (.int (-1) t))
  (h:Q ((n:Int)-1,-1,n) s):wpAny (model prog w) A (Builtin.Slice.sliceApplied (.ref sl) (pure (n:Int))) Q E s:=by
 obtain ⟨os,hos,hcs,hds⟩:=id hs
 unfold Builtin.Slice.sliceApplied Builtin.Slice.sliceFields
 refine wpAny_bind (wpAny_bind (wpAny_field hos hds (x:=.none) rfl (wpAny_bind (wpAny_field hos hds (x:=.none) rfl (wpAny_bind (wpAny_field hos hds (x:=.int (-1) t) rfl (wpAny_pure ?_)))))))
 refine wpAny_bind (slicePart_int ?_)
 show wpAny _ _ (if ((-1:Int)==0)=true then _ else _) _ _ s
 rw [if_neg (by decide)]
 refine wpAny_bind (slicePart_none (wpAny_bind (slicePart_none (wpAny_bind (wpAny_pure ?_)))))
 show wpAny _ _ (pure ((n:Int)-1,(-1:Int),Builtin.Slice.slicePlaces ((n:Int)-1) (-1) (-1))) _ _ s
 have e:Builtin.Slice.slicePlaces ((n:Int)-1) (-1) (-1)=n:=by
  unfold Builtin.Slice.slicePlaces
  rw [if_neg (by decide)]
  by_cases hn:(n:Int)-1 > -1
  ·rw [if_pos hn];simp
  ·rw [if_neg hn];omega
 rw [e]
 exact wpAny_pure h
theorem b0l (xs:List Value):((List.range xs.length).filterMap λ(m:Nat)=>xs.toArray[((xs.length:Int)-1+(m:Int) * -1).toNat]?).toArray=xs.reverse.toArray:=by
 congr 1
 have h2:(List.range xs.length).filterMap (λ(m:Nat)=>xs.toArray[((xs.length:Int)-1+(m:Int) * -1).toNat]?)=(List.range xs.length).filterMap (λk=>xs.reverse.toArray[0+k]?):=by
  apply L3.fm_congr
  intro k hk
  have hk:k<xs.length:=List.mem_range.mp hk
  have e:((xs.length:Int)-1+(k:Int) * -1).toNat=xs.length-1-k:=by omega
  rw [e]
  simp only [List.getElem?_toArray,Nat.zero_add]
  rw [List.getElem?_reverse hk]
 rw [h2]
 have:=pick_run xs.reverse.toArray 0 xs.length
 rw [List.filterMap_map] at this
 have e2:((λx=>xs.reverse.toArray[x]?) ∘ λx=>0+x)=λm=>xs.reverse.toArray[0+m]?:=rfl
 rw [e2] at this
 rw [this]
 simp only [List.drop_zero]
 rw [List.take_of_length_le (by simp)]
theorem getItem_tuple_rev {t sl:Addr} {its:List Value} {tk:Tok} {Q:Value->Shared->Prop} (ht:IsTup s.heap t its.toArray) (hs:s.heap.IsSliceOf sl .none .none (.int (-1) tk))
  (h:Q (.ref s.heap.objs.size) { s with heap:=s.heap.push { cls:=.type "tuple",data:=.seq its.reverse.toArray } })
  (hsz:its.length<=sizeLine):wpAny (model prog w) A (getItem (.ref t) (.ref sl)) Q E s:=by
 have htake:sizeOk (.seq its.reverse.toArray):=by
  show its.reverse.toArray.size<=sizeLine
  rw [List.size_toArray,List.length_reverse];exact hsz
 obtain ⟨os,hos,hcs,hds⟩:=id hs
 have hTs:s.TypeIs (.ref sl) "slice":=⟨os,hos,hcs⟩
 unfold getItem
 try with_reducible refine wpAny_holding ?_
 first | refine wpAny_bind (wpAny_pure ?_) | skip
 refine wpAny_bind (wpAny_sequenceKey ht.typeIs (by decide) ?_)
 refine wpAny_bind (wpAny_callSpecial?_slot (name:=Str.ofString "__getitem__") ht.typeIs PyProof.Rows.slot_tuple_getitem
  (wpAny_call_entry PyProof.Rows.slot_tuple_getitem ht.typeIs entry_tuple_getitem ?_ (args_tuple_getitem _ _)))
 show wpAny _ _ (Builtin.Tuple.tupleItemsOf (.ref t) >>= _) _ _ s
 refine wpAny_bind (tupleItemsOf_ ht ?_)
 refine wpAny_bind (wpAny_typeOf hTs ?_)
 rw [if_pos (by decide)]
 refine wpAny_bind (W6 (n:=its.length) hs ?_)
 have hno:¬ ((((its.length:Int)-1)==0&&(-1:Int)==1&&its.length==its.toArray.size)=true):=by
  intro q
  rw [Bool.and_eq_true,Bool.and_eq_true] at q
  exact absurd q.1.2 (by decide)
 show wpAny _ _ (if (((its.length:Int)-1)==0&&(-1:Int)==1&&its.length==its.toArray.size)=true then _ else _) _ _ s
 rw [if_neg hno,b0l]
 first
  | exact wpAny_bind (m:=Builtin.Tuple.tupleExact _) (wpAny_newObj_type (wpAny_pure ⟨_,rfl,wpAny_pure h⟩) htake)
  | exact wpAny_bind (m:=Builtin.Tuple.tupleExact _) (wpAny_newObj_type (wpAny_bind (wpAny_pure (wpAny_pure ⟨_,rfl,wpAny_pure h⟩))) htake)
  | exact wpAny_bind (wpAny_bind (m:=Builtin.Tuple.tupleExact _) (wpAny_newObj_type (wpAny_pure (wpAny_pure ⟨_,rfl,wpAny_pure h⟩)) htake))
  | exact wpAny_bind (wpAny_bind (m:=Builtin.Tuple.tupleExact _) (wpAny_newObj_type (wpAny_pure ⟨_,rfl,wpAny_pure h⟩) htake))
end
end HT
namespace L3
open PySem PySem.Spec PyProof.Rows L2
section
variable {X:Cx} {e st:Expr} {te ts:TE} {pos p2:Pos} {cl:Nat->Addr} {xe:Addr->Hp->Prop}
def c9n (K:PySem.W.Frag) (te ts:TE):TE:=λσ H Q=>te σ H λx H1=>ts σ H1 λy H2=>y=.int (-1)/\∃ a xs,x=.ref a/\((SqL K H2 a xs/\∀ p,H2 p=none->Q (.ref p) (upd H2 p (.lst xs.reverse)))\/(SqT K H2 a xs/\∀ p,H2 p=none->Q (.ref p) (upd H2 p (.tup xs.reverse))))
theorem b9z (he:PE X e te) (hs:PE X st ts):PE X (.Subscript e (.Slice none none (some st) p2) pos) (c9n X.K te ts):=by
 intro pins s σ H Q I h
 refine Subscript_ (thn (he pins s σ H _ I h) λv s1 ⟨x,H1,I1,r1,q1⟩=>?_)
 refine wpAny_Slice ?_
 rw [evalPart_none]
 refine wpAny_pure (wpAny_pure ?_)
 rw [evalPart_some]
 refine thn (hs pins s1 σ H1 _ I1 q1) λu s3 ⟨y,H3,I3,r3,e3,a,xs,e4,hx⟩=>?_
 subst e3 e4
 obtain ⟨t,rfl⟩:=r3
 cases r1
 have I4:Inv X pins σ H3 { s3 with heap:=s3.heap.push { cls:=.type "slice",data:=.fields #[.none,.none,.int (-1) t] } }:=I3.kept (t':=s3.toks) λb ob q=>Heap.get?_push_of_some _ q
 rcases hx with ⟨hx,q⟩ | ⟨hx,q⟩
 ·obtain ⟨its,r,ht,hz⟩:=I4.list hx
  have hlen:=r.length
  have hg:wpAny (model X.prog X.w) X.A (getItem (.ref a) (.ref s3.heap.objs.size)) (EP X pins σ Q) X.xe { s3 with heap:=s3.heap.push { cls:=.type "slice",data:=.fields #[.none,.none,.int (-1) t] } }:=by
   refine wpAny_getItem_list_slice ht.isList (Heap.IsSliceOf.new ..) .none .none (.int (-1) t) (by simp) ?_ (by rw [List.size_toArray] <;> omega)
   rw [b4t]
   refine ⟨.ref _,_,I4.laid (t':=s3.toks) (o:=.lst xs.reverse) (λb ob q=>Heap.get?_push_of_some _ q) (Nat.le_refl _) ?_,rfl,q _ (I4.hok.fresh (Nat.le_refl _))⟩
   exact ⟨by rw [List.length_reverse];exact hz,_,0,a1h r,Heap.get?_push_size _ rfl⟩
  show wpAny (model X.prog X.w) X.A (subscriptTail e (.Slice none none (some st) p2) (.ref a) (.ref s3.heap.objs.size)) (EP X pins σ Q) X.xe { s3 with heap:=s3.heap.push { cls:=.type "slice",data:=.fields #[.none,.none,.int (-1) t] } }
  exact tail_any (ops:=[.ref a,.ref s3.heap.objs.size]) ht.isList.typeIs slot_list_getitem.lookup hg (by with_unfolding_all rfl)
 ·obtain ⟨its,r,ht,hz⟩:=I4.tuple hx
  have hlen:=r.length
  have hg:wpAny (model X.prog X.w) X.A (getItem (.ref a) (.ref s3.heap.objs.size)) (EP X pins σ Q) X.xe { s3 with heap:=s3.heap.push { cls:=.type "slice",data:=.fields #[.none,.none,.int (-1) t] } }:=by
   refine HT.getItem_tuple_rev ht (Heap.IsSliceOf.new ..) ?_ (by rw [<- hlen];exact hz)
   refine ⟨.ref _,_,I4.laid (t':=s3.toks) (o:=.tup xs.reverse) (λb ob q=>Heap.get?_push_of_some _ q) (Nat.le_refl _) ?_,rfl,q _ (I4.hok.fresh (Nat.le_refl _))⟩
   exact ⟨by rw [List.length_reverse];exact hz,_,a1h r,TupN.new _ _⟩
  show wpAny (model X.prog X.w) X.A (subscriptTail e (.Slice none none (some st) p2) (.ref a) (.ref s3.heap.objs.size)) (EP X pins σ Q) X.xe { s3 with heap:=s3.heap.push { cls:=.type "slice",data:=.fields #[.none,.none,.int (-1) t] } }
  exact tail_any (ops:=[.ref a,.ref s3.heap.objs.size]) ht.typeIs PyProof.Rows.slot_tuple_getitem.lookup hg (by with_unfolding_all rfl)
noncomputable def b9k (d s:D):M D:=match s with
 | .int (-1)=>(match d with
  | .tup ds=>ret (.tup ds.reverse)
  | d=>bind (u4 d) λds=>ret (.lst ds.reverse))
 | _=>bad
theorem c2u {f g:Env->M D} (he:PE X e (tD X.K cl xe f)) (hs:PE X st (tD X.K cl xe g)):PE X (.Subscript e (.Slice none none (some st) p2) pos) (tD X.K cl xe λρ=>bind (f ρ) λx=>bind (g ρ) λy=>b9k x y):=
 PE.imp (b9z he hs) λσ H Q ⟨μ,S,ρ,eo,rp,p⟩=>⟨μ,S,ρ,eo,rp,p.bind.imp λx S1 μ1 H1 l1 r1 p1 v rv=>⟨μ1,S1,ρ,eo.later l1,r1,p1.bind.imp λy S2 μ2 H2 l2 r2 p2 u ru=>by
  unfold b9k at p2
  split at p2
  ·cases ru
   refine ⟨rfl,?_⟩
   have L:Post X.K cl xe μ2 H2 (bind (u4 x) (λds=>ret (.lst ds.reverse)) S2) (λd _ μ' H'=>∀ v,RD X.K μ' H' d v->Q v H')->∃ a xs,v=.ref a/\((SqL X.K H2 a xs/\∀ p,H2 p=none->Q (.ref p) (upd H2 p (.lst xs.reverse)))\/(SqT X.K H2 a xs/\∀ p,H2 p=none->Q (.ref p) (upd H2 p (.tup xs.reverse)))):=λp2=>by
    obtain ⟨a,xs,ds,rfl,h1,h2,e2⟩:=v3 (rv.later l2) r2 p2.bind
    refine ⟨a,xs,rfl,.inl ⟨.inl (.inl h1),λz hz=>?_⟩⟩
    obtain ⟨l,rp2,rd2⟩:=G7 r2 (a4j h2) hz
    exact (p2.ok_bind e2) μ2 _ l rp2 _ rd2
   cases rv.later l2 with
   | tup h1 h2=>
    rename_i a xs ds
    refine ⟨a,xs,rfl,.inr ⟨h1.sq,λz hz=>?_⟩⟩
    obtain ⟨l,rp2,rd2⟩:=G3 r2 (a4j h2) hz
    exact p2 μ2 _ l rp2 _ rd2
   | _=>exact L p2
  ·exact p2.elim⟩⟩
end
section
variable {X:Cx} {cl:Nat->Addr} {xe:Addr->Hp->Prop} {o e:Expr} {es:List Expr} {f:Env->M D} {fs:Env->M (List D)} {apos cpos:Pos}
noncomputable def tupOf (x:D):M (List D):=match x with
 | .tup ds=>ret ds
 | _=>bad
end
section
variable {X:Cx} {cl:Nat->Addr} {xe:Addr->Hp->Prop} {o e:Expr} {es:List Expr} {f:Env->M D} {fs:Env->M (List D)} {apos cpos:Pos} {name:Str} {T T2 id id2:String} {r r2:V->List V->Hp->VK->Prop} {α:Type}
def Looks (K:PySem.W.Frag) (cl:Nat->Addr) (xe:Addr->Hp->Prop) (T:String) (g:D->M α):Prop:=∀ (μ:Mp) (S:Sto) (H:Hp) (x:D) (v:V) (G:α->Sto->Mp->Hp->Prop),RD K μ H x v->Rep K cl μ S H->Post K cl xe μ H (g x S) G->tyV K T v H/\∃ a,g x S=.ok a S
def b9h (K:PySem.W.Frag) (cl:Nat->Addr) (xe:Addr->Hp->Prop) (r:V->List V->Hp->VK->Prop) (op:D->List D->M D):Prop:=∀ (μ:Mp) (S:Sto) (H:Hp) (x:D) (v:V) (ds:List D) (vs:List V) (Q:VK),RD K μ H x v->RDs K μ H ds vs->Rep K cl μ S H->Post K cl xe μ H (op x ds S) (λd _ μ' H'=>∀ w,RD K μ' H' d w->Q w H')->r v vs H Q
theorem a33 {g:D->M α} {op:D->List D->M D} (pa:PlainAttrs T) (slot:Slot T name id) (hty:typeOf (.builtin id)=pure (.type "method_descriptor")) (hm:MtR X id r) (hg:Looks X.K cl xe T g) (hd:b9h X.K cl xe r op) (ho:PE X o (tD X.K cl xe f)) (ha:PA X (e :: es) (tDs X.K cl xe fs))
  (hb:y3 o=true) (hs:(e :: es).all noStar=true) (hf:O3 (e :: es)=true) (hl:(apos.endLine==cpos.line)=true) :
  PE X (.Call (.Attribute o name apos) (e :: es) [] cpos) (tD X.K cl xe λρ=>bind (f ρ) λx=>bind (g x) λ_=>bind (fs ρ) λds=>op x ds):=by
 have hs2:=hs
 rw [List.all_cons,Bool.and_eq_true] at hs2
 refine PE.imp (d0p pa slot hty hm ho ha (N8 hb) (c3p hs hf) hl (f7 hs2.1) (p8 hs2.2)) λσ H Q ⟨μ,S,ρ,eo,rp,p⟩=>?_
 refine ⟨μ,S,ρ,eo,rp,p.bind.imp λx S1 μ1 H1 l1 r1 p1 xv rx=>?_⟩
 obtain ⟨ty,a,ea⟩:=hg μ1 S1 H1 x xv _ rx r1 p1.bind
 have p1:=p1.ok_bind ea
 exact ⟨ty,μ1,S1,ρ,eo.later l1,r1,p1.bind.imp λds S2 μ2 H2 l2 r2 p2 vs rvs=>hd μ2 S2 H2 x xv ds vs Q (rx.later l2) rvs r2 p2⟩
theorem b4j (hu:X.A.units+1<cLine):MtR X "dict.get" (λx vs H Q=>∃ a y z ov,x=.ref a/\(vs=[y,z]\/(vs=[y]/\z=.non))/\DGet H a y ov/\Q (ov.getD z) H):=by
 intro pins s σ H x vs v us Q I rx rv h
 obtain ⟨a,y,z,ov,rfl,hv,g,q⟩:=h
 cases rx
 rcases hv with rfl | ⟨rfl,rfl⟩
 ·obtain ⟨u1,u2,rfl,r1,r2⟩:=a56 rv
  exact c2e hu I g r1 r2 λw' s' I' rw'=>⟨_,H,I',rw',q⟩
 ·cases rv with
  | cons r1 t=>
   cases t
   exact c4a hu I g r1 λw' s' I' rw'=>⟨_,H,I',rw',q⟩
noncomputable def getDD (x:D) (ds:List D):M D:=match x,ds with
 | .ref n,[k,z]=>λS=>match S[n]? with
  | some (.dct kvs)=>(match B1 k with
   | some key=>.ok ((M8 kvs key).getD z) S
   | none=>.bad)
  | _=>.bad
 | .ref n,[k]=>λS=>match S[n]? with
  | some (.dct kvs)=>(match B1 k with
   | some key=>.ok ((M8 kvs key).getD .non) S
   | none=>.bad)
  | _=>.bad
 | _,_=>bad
noncomputable def dctOf (x:D):M Unit:=match x with
 | .ref n=>λS=>match S[n]? with
  | some (.dct _)=>.ok () S
  | _=>.bad
 | _=>bad
theorem a1i {K:PySem.W.Frag} {μ:Mp} {H:Hp} {k:Key}:∀ {kvs:List (Key×D)} {ks:List (Key×V)},KvsAt K μ H kvs ks->M8 kvs k=none->P4 ks k=none
 | _,_,.nil,_=>rfl
 | p :: r,q :: r',.cons ⟨h1,h2⟩ t,e=>by
  unfold M8 at e
  unfold P4
  rw [List.find?_cons] at e ⊢
  rw [<- h1]
  cases hk:decide (p.1=k) with
  | true=>rw [hk] at e;cases e
  | false=>
   rw [hk] at e
   exact a1i t e
theorem a13:Looks X.K cl xe "dict" dctOf:=λμ S H x v G rx rp p=>by
 unfold dctOf at p
 cases x with
 | ref n=>
  cases rx with
  | ref e=>
   rename_i a
   dsimp only at p
   cases q1:S[n]? with
   | none=>rw [q1] at p;exact p.elim
   | some o=>
    rw [q1] at p
    cases o with
    | dct kvs=>
     obtain ⟨ks,h1,_⟩:=rp.ats n _ a q1 e
     exact ⟨.inr (.inr (.inl ⟨rfl,.inl ⟨_,h1⟩⟩)),(),by simp only [dctOf,q1]⟩
    | lst _=>exact p.elim
    | exc _ _=>exact p.elim
 | _=>exact p.elim
theorem b4c:b9h X.K cl xe (λx vs H Q=>∃ a y z ov,x=.ref a/\(vs=[y,z]\/(vs=[y]/\z=.non))/\DGet H a y ov/\Q (ov.getD z) H) getDD:=λμ S H x v ds vs Q rx rvs rp p=>by
 unfold getDD at p
 split at p
 ·rename_i n k z
  cases rvs with
  | cons hk t=>
   cases t with
   | cons hz t2=>
    cases t2
    rename_i kv zv
    cases rx with
    | ref e=>
     rename_i a
     cases q1:S[n]? with
     | none=>rw [q1] at p;exact p.elim
     | some o=>
      rw [q1] at p
      cases o with
      | dct kvs=>
       obtain ⟨ks,h1,h2⟩:=rp.ats n _ a q1 e
       dsimp only at p
       cases q2:B1 k with
       | none=>rw [q2] at p;exact p.elim
       | some key=>
        rw [q2] at p
        dsimp only at p
        have hy:=L8 hk q2
        subst hy
        refine ⟨a,_,zv,P4 ks key,rfl,.inl rfl,DGet.k h1,?_⟩
        cases q3:M8 kvs key with
        | some d=>
         obtain ⟨w,e3,r3⟩:=a0b h2 q3
         rw [q3] at p
         rw [e3]
         exact p μ H (Lat.refl _ _) rp _ r3
        | none=>
         rw [q3] at p
         rw [a1i h2 q3]
         exact p μ H (Lat.refl _ _) rp _ hz
      | lst _=>exact p.elim
      | exc _ _=>exact p.elim
 ·rename_i n k
  cases rvs with
  | cons hk t=>
   cases t
   rename_i kv
   cases rx with
   | ref e=>
    rename_i a
    cases q1:S[n]? with
    | none=>rw [q1] at p;exact p.elim
    | some o=>
     rw [q1] at p
     cases o with
     | dct kvs=>
      obtain ⟨ks,h1,h2⟩:=rp.ats n _ a q1 e
      dsimp only at p
      cases q2:B1 k with
      | none=>rw [q2] at p;exact p.elim
      | some key=>
       rw [q2] at p
       dsimp only at p
       have hy:=L8 hk q2
       subst hy
       refine ⟨a,_,.non,P4 ks key,rfl,.inr ⟨rfl,rfl⟩,DGet.k h1,?_⟩
       cases q3:M8 kvs key with
       | some d=>
        obtain ⟨w,e3,r3⟩:=a0b h2 q3
        rw [q3] at p
        rw [e3]
        exact p μ H (Lat.refl _ _) rp _ r3
       | none=>
        rw [q3] at p
        rw [a1i h2 q3]
        exact p μ H (Lat.refl _ _) rp _ .non
     | lst _=>exact p.elim
     | exc _ _=>exact p.elim
 ·exact p.elim
end
section
variable {X:Cx} {cl:Nat->Addr} {xe:Addr->Hp->Prop} {o e:Expr} {es:List Expr} {f:Env->M D} {p p2 pos pos2:Pos} {te:TE}
noncomputable def rgL (n:Nat):List Int:=(List.range n).map λ(k:Nat)=>(k:Int)
theorem b75 {acc:List Value} {n:Nat} (hl:acc.length=n) (h:∀ (i:Nat) (v:Value),acc[i]?=some v->∃ t,v=Value.int (i:Int) t):Vals ((rgL n).map V.int) acc:=by
 have gen:∀ (k:Nat) (l:List Value) (b:Nat),l.length=k->(∀ (i:Nat) (v:Value),l[i]?=some v->∃ t,v=Value.int ((b+i:Nat):Int) t)->Vals ((List.range' b k).map λ(j:Nat)=>V.int (j:Int)) l:=by
  intro k
  induction k with
  | zero=>intro l b hl _;cases l with
   | nil=>exact .nil
   | cons _ _=>simp at hl
  | succ k ih=>
   intro l b hl hv
   cases l with
   | nil=>simp at hl
   | cons v l=>
    rw [List.range'_succ,List.map_cons]
    refine .cons ?_ (ih l (b+1) (by simpa using hl) λi w hw=>?_)
    ·obtain ⟨t,e⟩:=hv 0 v rfl
     exact ⟨t,by rw [e];simp⟩
    ·obtain ⟨t,e⟩:=hv (i+1) w (by simpa using hw)
     exact ⟨t,by rw [e];congr 2;omega⟩
 have:=gen n acc 0 hl λi v hv=>by
  obtain ⟨t,e⟩:=h i v hv
  exact ⟨t,by rw [e];simp⟩
 unfold rgL
 rw [List.map_map,List.range_eq_range']
 exact this
def b7i (te:TE):TE:=λσ H Q=>te σ H λx H1=>∃ n:Nat,x=.int (n:Int)/\n<100000/\∀ q,H1 q=none->Q (.ref q) (upd H1 q (.lst ((rgL n).map V.int)))
theorem b1p (hc:X.calm=true) (hl:Gl X "list") (ml:X.mg "list" = none) (hr:Gl X "range") (mr:X.mg "range" = none) (he:PE X e te) (hn:noStar e=true):PE X (.Call (.Name "list" p) [.Call (.Name "range" p2) [e] [] pos2] [] pos) (b7i te):=by
 intro pins s σ H Q I h
 have hh:X.A.handled=none:=I.ok.hd hc
 refine wpAny_Call_Name_kw (K9 I hl ml (by rfl) ?_ (by decide) (by decide))
 refine PyProof.Rows.callWith_type1 ?_ rfl rfl
 show wpAny _ _ (spliced ((false,eval (.Call (.Name "range" p2) [e] [] pos2) X.env) :: backTo pos (starEach [] X.env))) _ _ s
 refine Calls.spliced_cons ?_
 refine wpAny_Call_Name_kw (K9 I hr mr boot_range ?_ (by decide) (by decide))
 refine PyProof.Rows.callWith_type1 ?_ (f7 hn) rfl
 rw [f7 hn]
 show wpAny _ _ (spliced ((false,eval e X.env) :: backTo pos2 (starEach [] X.env))) _ _ s
 refine Calls.spliced_cons (thn (he pins s σ H _ I h) λu s1 ⟨x,H1,I1,r1,n,e1,hz,q⟩=>?_)
 subst e1
 obtain ⟨t,rfl⟩:=r1
 refine Calls.spliced_nil (call_range_1 (Calls.spliced_nil ?_))
 have rs:Builtin.Range.rangeSize 0 (n:Int) 1=(n:Int):=by rw [rangeSize_one];split <;> omega
 refine call_list_range hh (IsRange.new ..) (small_one (by omega) (by omega) (by omega) (by omega)) rs (by omega) λh' tk acc c hk hS hacc=>?_
 have I2:=I1.kept (t':=s1.toks+1+1) (h':=s1.heap.push { cls:=.type "range",data:=.fields #[.int 0 s1.toks,.int (n:Int) t,.int 1 (s1.toks+1)] }) λb ob q=>Heap.get?_push_of_some _ q
 refine ⟨.ref _,_,Inv.laid (t':=tk) (o:=.lst ((rgL n).map V.int)) I2 hk (Nat.le_refl _) ?_,rfl,q _ (I2.hok.fresh (Nat.le_refl _))⟩
 refine ⟨by rw [List.length_map];show (rgL n).length<=_;unfold rgL;rw [List.length_map,List.length_range,sizeLine_eq];omega,acc.toList,c,b75 (by rw [Array.length_toList];exact hacc.1) (λi v hv=>?_),?_⟩
 ·obtain ⟨t',e⟩:=hacc.2 i v (by rw [<- Array.getElem?_toList];exact hv)
  exact ⟨t',by rw [e];simp⟩
 ·rw [Array.toArray_toList];exact hS
noncomputable def U3 (d:D):M D:=match d with
 | .int i=>if 0<=i/\i<100000 then ret (.lst ((rgL i.toNat).map D.int)) else bad
 | _=>bad
theorem b0d (hc:X.calm=true) (hl:Gl X "list") (ml:X.mg "list" = none) (hr:Gl X "range") (mr:X.mg "range" = none) (he:PE X e (tD X.K cl xe f)) (hn:noStar e=true):PE X (.Call (.Name "list" p) [.Call (.Name "range" p2) [e] [] pos2] [] pos) (tD X.K cl xe λρ=>bind (f ρ) U3):=
 PE.imp (b1p hc hl ml hr mr he hn) λσ H Q ⟨μ,S,ρ,eo,rp,p⟩=>⟨μ,S,ρ,eo,rp,p.bind.imp λd S1 μ1 H1 l1 r1 p1 v rv=>by
  cases rv with
  | int i=>
   obtain ⟨hi,p1⟩:=Post.guard p1
   refine ⟨i.toNat,by rw [Int.toNat_of_nonneg hi.1],by omega,λz hz=>?_⟩
   obtain ⟨l,rp2,rd2⟩:=G7 r1 (RDs.ints (rgL i.toNat)) hz
   exact p1 μ1 _ l rp2 _ rd2
  | _=>exact False.elim p1⟩
end
section
variable {X:Cx} {cl:Nat->Addr} {xe:Addr->Hp->Prop} {f:Env->M D} {a:Expr}
noncomputable def a1b (d:D):M D:=match d with
 | .str x=>if (Txt.upper x).length<=sizeLine then ret (.str (Txt.upper x)) else bad
 | _=>bad
theorem b4b:MtR X "str.upper" (λx vs H Q=>∃ z,x=.str z/\vs=[]/\(Txt.upper z).length<=sizeLine/\Q (.str (Txt.upper z)) H):=by
 intro pins s σ H x vs v us Q I rx rv h
 obtain ⟨z,rfl,rfl,hl,q⟩:=h
 obtain ⟨t,rfl⟩:=rx
 cases rv
 refine SC.upper (by unfold Builtin.Str.tooLong;exact decide_eq_false (by omega)) ?_
 exact ⟨.str _,H,I.tok _,⟨_,rfl⟩,q⟩
theorem b38 {apos cpos:Pos} (ho:PE X a (tD X.K cl xe f)) (hb:y3 a=true) (hl:(apos.endLine==cpos.line)=true) :
  PE X (.Call (.Attribute a "upper" apos) [] [] cpos) (tD X.K cl xe λρ=>bind (f ρ) a1b):=by
 refine PE.imp (c5x PySem.F.plainAttrs_str PySem.F.slot_str_upper PySem.F.type_str_upper b4b ho (N8 hb) hl) λσ H Q ⟨μ,S,ρ,eo,rp,p⟩=>?_
 refine ⟨μ,S,ρ,eo,rp,p.bind.imp λx S1 μ1 H1 l1 r1 p1 xv rx=>?_⟩
 cases rx with
 | str z=>
  obtain ⟨hz,p1⟩:=Post.guard p1
  exact ⟨rfl,z,rfl,rfl,hz,p1 μ1 H1 (Lat.refl _ _) r1 _ (.str _)⟩
 | _=>exact False.elim p1
end
end L3
namespace L2
open PySem PySem.Spec PyProof.Rows
theorem a3e:∀ {cs:List Addr} {us:List Value},Vals (cs.map V.ref) us->us=cs.map Value.ref
 | [],_,h=>by cases h;rfl
 | c :: cs,_,h=>by
  cases h with
  | cons r t=>
   have e:=a3e t
   subst e
   cases (show _=Value.ref c from r)
   rfl
theorem a06 {X:Cx}:j3 X (.builtin "isinstance") (λxs H Q=>∃ fr x C d tp,∃ (cs:List Addr) (b:Bool),xs=[.ref x,.ref tp]/\XC X.K C/\H x=some (P5 fr x C d)/\(∀ d',d=some d'->∃ fs,H d'=some (G0 d' fs))/\H tp=some (.tup (cs.map V.ref))/\PySem.W.kitAny X.K (.ref C) (cs.map Value.ref)=some b/\Q (.bl b) H):=by
 intro pins s σ H xs us Q I r h
 obtain ⟨fr,x,C,d,tp,cs,b,rfl,M,e0,hd,et,hk,q⟩:=h
 obtain ⟨u,u2,rfl,ru,ru2⟩:=a56 r
 cases (show u=Value.ref x from ru)
 cases (show u2=Value.ref tp from ru2)
 have J:∃ ox od,PySem.W.InstAt s.heap x ox C od:=by
  cases d with
  | none=>obtain ⟨ox,J⟩:=(I.isX e0).inst0;exact ⟨ox,_,J⟩
  | some d'=>
   obtain ⟨fs,e1⟩:=hd d' rfl
   obtain ⟨mA,n0,_⟩:=I.isD e1
   obtain ⟨od,hod,_⟩:=N3 n0
   obtain ⟨ox,J⟩:=(I.isX e0).inst1 hod
   exact ⟨ox,_,J⟩
 obtain ⟨_,its,rv,o,ho,hc,n,hs,hdn⟩:=I.hok tp _ et
 have ei:=a3e rv
 subst ei
 obtain ⟨oc,od,odt,osl⟩:=o
 cases (show oc=_ from hc)
 cases (show odt=_ from hs)
 exact PySem.W.kia_tup (c75 M.xc) I.kIn J ho hk (λz=>nomatch z) λtk=>⟨.bl b,H,I.tok _,rfl,q⟩
end L2
namespace L3
open PySem PySem.Spec PyProof.Rows L2
def a31 (X:Cx) (cl:Nat->Addr):List Expr->List Nat->Prop
 | [],[]=>True
 | .Name x _ :: es,c :: cs=>Gl X x/\X.mg x=some (.ref (cl c))/\(x==("__debug__" : Str))=false/\a31 X cl es cs
 | _,_=>False
section
variable {X:Cx} {cl:Nat->Addr} {xe:Addr->Hp->Prop} {a:Expr} {f:Env->M D} {pos p q:Pos}
theorem a6p:∀ {es:List Expr} {cs:List Nat},a31 X cl es cs->PA X es λ_ H Q=>Q (cs.map λc=>V.ref (cl c)) H
 | [],[],_=>B8
 | .Name x p :: es,c :: cs,⟨h1,h2,h3,h4⟩=>i7 (te:=tC (.ref (cl c))) (t:=λ_ H Q=>Q (cs.map λc=>V.ref (cl c)) H) (a4d h1 h2 rfl h3) (a6p h4) rfl
 | [],_ :: _,h=>h.elim
 | .Name _ _ :: _,[],h=>h.elim
theorem a81 {K:PySem.W.Frag} {t:Value} {g:Nat->Value} {s:Nat->Bool}:∀ {cs:List Nat},(∀ c∈cs,PySem.W.kitOne K t (g c)=some (s c))->PySem.W.kitAny K t (cs.map g)=some (cs.any s)
 | [],_=>rfl
 | c :: cs,h=>by
  have h1:=h c (by simp)
  show (match PySem.W.kitOne K t (g c) with
   | some true=>some true
   | some false=>PySem.W.kitAny K t (cs.map g)
   | none=>none)=_
  rw [h1,List.any_cons]
  cases s c with
  | true=>rfl
  | false=>exact a81 λc hc=>h c (by simp [hc])
theorem b1x {ys:List Expr} {cs:List Nat} {k:Nat} {sub:Nat->Nat->Bool} (hk:∀ c0∈cs,∀ c,XC X.K (cl c)->PySem.W.kitOne X.K (.ref (cl c)) (.ref (cl c0))=some (sub c c0)) (hl:cs.length<=1000) (h:PE X a (tD X.K cl xe f)) (hg:Gl X "isinstance") (hm:X.mg "isinstance" = none) (hn:a31 X cl ys cs) (hs:noStar a=true) :
  PE X (.Call (.Name "isinstance" p) [a,.Tuple ys k q] [] pos) (tD X.K cl xe λρ=>bind (f ρ) λd=>B9 (λc=>cs.any λc0=>sub c c0) d):=by
 have key:j3 X (.builtin "isinstance") (λvs H Q=>∃ μ S d v tp,vs=[v,.ref tp]/\H tp=some (.tup (cs.map λc=>V.ref (cl c)))/\RD X.K μ H d v/\Rep X.K cl μ S H/\Post X.K cl xe μ H (B9 (λc=>cs.any λc0=>sub c c0) d S) λr _ μ' H'=>∀ v,RD X.K μ' H' r v->Q v H'):=by
  intro pins s σ H xs us Q I r ⟨μ,S,d,v,tp,ev,et,rd,rp,P⟩
  subst ev
  unfold B9 at P
  cases rd with
  | ref h=>
   rename_i n b
   simp only at P
   cases q1:S[n]? with
   | none=>rw [q1] at P;exact P.elim
   | some o=>
    rw [q1] at P
    cases o with
    | exc c fs=>
     have q:=P μ H (Lat.refl _ _) rp _ (.bl _)
     obtain ⟨xc,gs,r2,fr,h2⟩:=rp.ats n _ b q1 h
     have kk:=a81 (K:=X.K) (t:=.ref (cl c)) (g:=λc0=>.ref (cl c0)) (s:=λc0=>sub c c0) (cs:=cs) λc0 hc=>hk c0 hc c xc
     have et':H tp=some (.tup ((cs.map cl).map V.ref)):=by rw [List.map_map];exact et
     have kk':PySem.W.kitAny X.K (.ref (cl c)) ((cs.map cl).map Value.ref)=some (cs.any λc0=>sub c c0):=by rw [List.map_map];exact kk
     rcases h2 with ⟨z,e2⟩ | ⟨d,n1,n2,e2,e3⟩
     ·exact a06 pins s σ H _ us Q I r ⟨fr,b,cl c,none,tp,cs.map cl,_,rfl,xc,e2,λ_ z=>(nomatch z),et',kk',q⟩
     ·exact a06 pins s σ H _ us Q I r ⟨fr,b,cl c,some d,tp,cs.map cl,_,rfl,xc,e2,λd' z=>by cases z;exact ⟨gs,e3⟩,et',kk',q⟩
    | lst _=>exact P.elim
    | dct _=>exact P.elim
  | _=>exact False.elim P
 refine PE.imp (V7 key hg hm (by rfl) (i7 h (i7 (b46 (a6p hn)) B8 (f7 rfl)) (f7 hs)) (by decide) (by decide) (f7 hs) (p8 rfl)) λσ H Q ⟨μ,S,ρ,eo,rp,P⟩=>?_
 refine ⟨μ,S,ρ,eo,rp,P.bind.imp λd S1 μ1 H1 l1 r1 p1 v rv=>⟨by rw [List.length_map];rw [sizeLine_eq];omega,λz hz=>?_⟩⟩
 have l:=Lat.laid (μ:=μ1) (o:=.tup (cs.map λc=>V.ref (cl c))) hz
 exact ⟨μ1,S1,d,v,z,rfl,c8,rv.later l,r1.laid hz,p1.later l⟩
end
noncomputable def v9:List D->Option (List Str)
 | []=>some []
 | .str x :: ds=>(v9 ds).map (x :: ·)
 | _=>none
theorem a9c {K:PySem.W.Frag} {μ:Mp} {H:Hp}:∀ {es:List D} {xs:List V} {ys:List Str},v9 es=some ys->RDs K μ H es xs->xs=ys.map V.str
 | [],_,_,e,r=>by cases e;cases r;rfl
 | d :: es,_,ys,e,r=>by
  cases d with
  | str x=>
   simp only [v9] at e
   cases q:v9 es with
   | none=>rw [q] at e;cases e
   | some zs=>
    rw [q] at e;cases e
    cases r with
    | cons h t=>cases h;rw [a9c q t];rfl
  | _=>simp only [v9] at e;cases e
theorem X9:∀ {ys:List Str} {us:List Value},Vals (ys.map V.str) us->StrsAre us ys
 | [],_,h=>by cases h;exact .nil
 | y :: ys,_,h=>by
  cases h with
  | cons r t=>
   obtain ⟨tk,rfl⟩:=r
   exact .cons _ _ (X9 t)
noncomputable def O9:List Int->Int
 | []=>0
 | x :: xs=>x+O9 xs
theorem a6k:∀ (xs ys:List Int),O9 (xs++ys)=O9 xs+O9 ys
 | [],ys=>by show O9 ys=0+O9 ys;omega
 | x :: xs,ys=>by show x+O9 (xs++ys)=x+O9 xs+O9 ys;rw [a6k xs ys];omega
theorem a92 (ns:List Int):∀ j,j<=ns.length->preSum (λi=>ns.getD i 0) j=O9 (ns.take j)
 | 0,_=>by simp [preSum,O9]
 | j+1,h=>by
  have hj:j<ns.length:=by omega
  rw [List.take_succ_eq_append_getElem hj,a6k,<- a92 ns j (by omega)]
  show preSum _ j+ns.getD j 0=preSum _ j+(ns[j]+0)
  simp [hj]
section
variable {X:Cx} {cl:Nat->Addr} {xe:Addr->Hp->Prop}
theorem a9k {pins:List (Addr×Obj)} {s s':Shared} {σ:L2.St} {H:Hp} {Q:VK} {ns:List Int} {t':Nat} {o:Obj} (I:L2.Inv X pins σ H s) (q:Q (.int (O9 ns)) H) {m:Nat} (hm:m=ns.length)
  (mv:Moved [s.heap.objs.size] (λa b=>b=a) { s with heap:=s.heap.push o } s'):EP X pins σ Q (.int (preSum (λi=>ns.getD i 0) m) t') s':=by
 have e:preSum (λi=>ns.getD i 0) m=O9 ns:=by rw [hm,a92 ns ns.length (Nat.le_refl _),List.take_length]
 rw [e]
 obtain ⟨k,g,dr,os,tk⟩:=mv
 have es:s'={ s with heap:=s'.heap,toks:=s'.toks }:=by
  cases s';cases s
  simp only at g dr os ⊢
  subst g dr os
  rfl
 rw [es]
 refine ⟨.int (O9 ns),H,I.kept (t':=s'.toks) λb o eb=>?_,⟨_,rfl⟩,q⟩
 have nb:b<s.heap.objs.size:=Heap.lt_size eb
 exact k b o (by simp;exact Nat.ne_of_lt nb) (Heap.get?_push_of_some _ eb)
theorem a45 {ns:List Int} {its:List Value} (r':Vals (ns.map V.int) its):∀ (i:Nat) (v:Value),its.toArray[i]?=some v->∃ t,v=Value.int (ns.getD i 0) t:=by
 intro i v hP
 rw [List.getElem?_toArray] at hP
 have hl:its.length=ns.length:=by rw [<- r'.length,List.length_map]
 have hi:i<ns.length:=by
  have b:=(List.getElem?_eq_some_iff.mp hP).1
  omega
 obtain ⟨u,e1,rv⟩:=Vals.get r' (i:=i) (x:=V.int ns[i]) (by rw [List.getElem?_map,List.getElem?_eq_getElem hi];rfl)
 rw [e1] at hP;cases hP
 obtain ⟨t,rfl⟩:=rv
 exact ⟨t,by simp [hi]⟩
theorem b5p {s:Shared} {p:Addr} {o:Obj} (lt:p<s.heap.objs.size) (hf:o.isFreed=false:=by rfl):∀ b∈[s.heap.objs.size,p],b<(s.heap.push o).objs.size:=by
 intro b hb
 rcases List.mem_cons.mp hb with rfl | hb
 ·exact Heap.lt_size (Heap.get?_push_size _ hf)
 ·rw [List.mem_singleton.mp hb];exact Nat.lt_trans lt (Heap.lt_size (Heap.get?_push_size _ hf))
theorem a5p (hc:X.calm=true):j3 X (.builtin "sum") (λxs H Q=>∃ (p:Addr) (ns:List Int),xs=[.ref p]/\(SqL X.K H p (ns.map V.int)\/SqT X.K H p (ns.map V.int))/\Q (.int (O9 ns)) H):=by
 intro pins s σ H xs us Q I r h
 obtain ⟨p,ns,rfl,hq,q⟩:=h
 obtain ⟨u,rfl,rx⟩:=K0 r
 cases rx
 have hh:X.A.handled=none:=I.ok.hd hc
 rcases hq with hq | hq
 ·obtain ⟨its,r',pl,hz⟩:=I.list hq
  have lt:p<s.heap.objs.size:=by
   obtain ⟨o,ho,_⟩:=pl.isList
   exact Heap.lt_size ho
  have hl:its.toArray.size=ns.length:=by rw [List.size_toArray,<- r'.length,List.length_map]
  exact call_sum_walkAnyS (wpAny_pyIter_list pl.isList ⟨s.heap.objs.size,[s.heap.objs.size,p],[s.heap.objs.size],_,its.toArray.size,_,_,λi=>ns.getD i 0,rfl,(Walks.list (A:=X.A.in1) (show X.A.in1.handled=none from hh) _ _ (Nat.ne_of_lt lt) its.toArray).toS,⟨⟨_,Heap.get?_push_size _ rfl,rfl,rfl⟩,pl.isList.push _⟩,b5p lt,a45 r',λs' t' m=>a9k I q hl m⟩)
 ·obtain ⟨its,r',⟨o,ho,hcl,n,hd⟩,hz⟩:=I.tuple hq
  have pl:s.heap.IsTuple p its.toArray:=⟨o,ho,hcl,n,hd⟩
  have lt:p<s.heap.objs.size:=Heap.lt_size ho
  have hl:its.toArray.size=ns.length:=by rw [List.size_toArray,<- r'.length,List.length_map]
  exact call_sum_walkAnyS (wpAny_pyIter_tuple pl ⟨s.heap.objs.size,[s.heap.objs.size,p],[s.heap.objs.size],_,its.toArray.size,_,_,λi=>ns.getD i 0,rfl,(Walks.tuple (A:=X.A.in1) (show X.A.in1.handled=none from hh) _ _ (Nat.ne_of_lt lt) its.toArray).toS,⟨⟨_,Heap.get?_push_size _ rfl,rfl,rfl⟩,pl.push _⟩,b5p lt,a45 r',λs' t' m=>a9k I q hl m⟩)
noncomputable def b8e (d:D):M D:=bind (Z7 d) λds=>match Q9 ds with
 | some ns=>ret (.int (O9 ns))
 | none=>bad
theorem d03 (hc:X.calm=true):j3 X (.builtin "sum") (rPs X.K cl xe (one b8e)):=J1 λpins s σ H μ S d v us Q I r rd rp p=>by
 obtain ⟨a,xs,ds,rfl,h1,h2,e2⟩:=a42 rd rp p.bind
 have p:=p.ok_bind e2
 cases e:Q9 ds with
 | none=>rw [e] at p;exact p.elim
 | some ns=>
  rw [e] at p
  have:=a8d e h2
  subst this
  exact a5p hc pins s σ H _ us Q I r ⟨a,ns,rfl,h1,p μ H (Lat.refl _ _) rp _ (.int _)⟩
end
noncomputable def countT (x:D) (ds:List D):M D:=match x,ds with
 | .tup es,[.str w]=>(match v9 es with
  | some ys=>ret (.int (countIn (.str w) (ys.map PyData.str)))
  | none=>bad)
 | _,_=>bad
section
variable {X:Cx} {cl:Nat->Addr} {xe:Addr->Hp->Prop}
theorem b0s:Looks X.K cl xe "tuple" tupOf:=λμ S H x v G rx rp p=>by
 cases rx with
 | tup h0 r0=>
  refine ⟨?_,_,rfl⟩
  rcases h0 with ⟨q,_,_⟩ | ⟨o,its,n,c1,c2,c3,c4,c5,c6⟩
  ·exact .inr (.inr (.inr (.inr ⟨rfl,_,q⟩)))
  ·exact .inr (.inl ⟨rfl,o,c1,c2,c6⟩)
 | _=>exact False.elim p
theorem b1t:MtR X "tuple.count" (λx vs H Q=>∃ (p:Addr) (ys:List Str) (w:Str),x=.ref p/\vs=[.str w]/\SqT X.K H p (ys.map V.str)/\Q (.int (countIn (.str w) (ys.map PyData.str))) H):=by
 intro pins s σ H x vs v us Q I rx rv h
 obtain ⟨p,ys,w,rfl,rfl,hq,q⟩:=h
 cases rx
 obtain ⟨u,rfl,ru⟩:=rv.one
 obtain ⟨t,rfl⟩:=ru
 obtain ⟨its,r',⟨⟨cls,dd,data,sl⟩,ho,hc,n,hd⟩,hz⟩:=I.tuple hq
 simp only at hc hd
 subst hc hd
 refine call_meets PySem.F.slot_tuple_count ⟨_,ho,rfl⟩ PySem.F.entry_tuple_count (PySem.F.args_tuple_count_2 _ _) (PySem.SeqAt.tuple_countAt p its.toArray n dd sl (.str w t) (isStrOf w)) ⟨ho,λy hy=>(eq_isStrOf w t (X9 r') y (by simpa using hy)).at _ _,?_⟩
 rw [show its.toArray.toList=its from rfl,countP_isStrOf_map w (X9 r')]
 exact ⟨.int _,H,I.tok _,⟨_,rfl⟩,q⟩
theorem a6m:b9h X.K cl xe (λx vs H Q=>∃ (p:Addr) (ys:List Str) (w:Str),x=.ref p/\vs=[.str w]/\SqT X.K H p (ys.map V.str)/\Q (.int (countIn (.str w) (ys.map PyData.str))) H) countT:=λμ S H x v ds vs Q rx rvs rp p=>by
 unfold countT at p
 split at p
 ·rename_i es w
  cases rx with
  | tup h0 r0=>
   cases rvs with
   | cons h t=>
    cases t;cases h
    cases q:v9 es with
    | none=>rw [q] at p;exact p.elim
    | some ys=>
     rw [q] at p
     have ex:=a9c q r0
     subst ex
     exact ⟨_,ys,w,rfl,rfl,h0.sq,p μ H (Lat.refl _ _) rp _ (.int _)⟩
 ·exact p.elim
end
def CXr (P:Program) (w:World) (K:PySem.W.Frag):List PySem.Env->Hp->Shared->XK->Value->Shared->Prop:=λouter H s E e s'=>
 ∃ a C d tb H',e=.ref a/\s'.os=s.os/\AllBare s'.gens/\Un (frs outer) [] H H' s.heap s'.heap/\HOk P w H' s'.heap/\Fx K H' a C d tb/\E e none H'
noncomputable abbrev CXd (P:Program) (w:World) (K:PySem.W.Frag):CXT:=⟨CXr P w K,false⟩
section
variable {K:PySem.W.Frag} {cl:Nat->Addr} {xe xe':Addr->Hp->Prop} {α β:Type} {μ:Mp} {H H':Hp} {S:Sto} {a C:Addr} {d tb:Option Addr} {P:Program} {w:World} {h:Heap}
theorem Post.ximp {r:R α} {G:α->Sto->Mp->Hp->Prop} (p:Post K cl xe μ H r G) (k:∀ n S μ' H' a,r=.exn n S->Lat μ H μ' H'->Rep K cl μ' S H'->μ'.pl[n]?=some a->xe a H'->xe' a H'):Post K cl xe' μ H r G:=by
 cases r with
 | ok a S=>exact p
 | exn n S=>exact λμ' H' a l r e=>k n S μ' H' a rfl l r e (p μ' H' a l r e)
 | bad=>exact p
noncomputable def nx (m:M α):M α:=λS=>match m S with
 | .exn _ _=>.bad
 | r=>r
theorem Post.nx {m:M α} {G:α->Sto->Mp->Hp->Prop} (p:Post K cl xe μ H (nx m S) G):Post K cl xe' μ H (m S) G:=by
 unfold L3.nx at p
 cases e:m S with
 | ok a S1=>rw [e] at p;exact p
 | exn n S1=>rw [e] at p;exact p.elim
 | bad=>rw [e] at p;exact p
theorem b3q {c:Nat} {fs:List (Str×D)} (hk:HOk P w H h) (o:OAt K cl μ H a (.exc c fs)) (e:H a=some (P5 tb a C d)) (ht:∀ T,tb=some T->T≠a/\H T=some (TbO T)):C=cl c/\Fx K H a C d tb:=by
 obtain ⟨xc,gs,q,fr,o⟩:=o
 obtain ⟨vs,q1,_⟩:=(hk a _ e).1
 rcases o with ⟨z,e2⟩ | ⟨d',h1,h2,e2,e3⟩
 ·obtain ⟨vs2,q2,_⟩:=(hk a _ e2).1
  rw [q1] at q2;cases q2
  exact ⟨rfl,xc,e,λd' z=>(nomatch z),ht⟩
 ·obtain ⟨vs2,q2,_⟩:=(hk a _ e2).1
  rw [q1] at q2;cases q2
  exact ⟨rfl,xc,e,λd2 z=>by cases z;exact ⟨h1,gs,e3⟩,ht⟩
theorem Rep.mv {n:Nat} (r:Rep K cl μ S H) (hk:HOk P w H h) (e:μ.pl[n]?=some a) (fx:H a=some (P5 tb a C d)) (m:Mv H a C d H'):Lat μ H μ H'/\Rep K cl μ S H':=by
 have am:a∈μ.pl:=List.mem_of_getElem? e
 have l:Lat μ H μ H':=⟨λ_ _ h=>h,λb o q nb=>m.1 b o (λz=>nb (z▸am)) q,λ_ h=>.inl h,rfl⟩
 refine ⟨l,r.len,r.nd,λi o b e1 e2=>?_,λb mb=>let ⟨h1,u,h2⟩:=r.res b mb;⟨h1,u,l.oth _ _ h2 h1⟩⟩
 have ho:=r.ats i o b e1 e2
 by_cases hb:b=a
 ·subst hb
  cases o with
  | lst ds=>obtain ⟨xs,q,_⟩:=ho;rw [fx] at q;simp [P5] at q
  | dct kvs=>obtain ⟨xs,q,_⟩:=ho;rw [fx] at q;simp [P5] at q
  | exc c fs=>
   obtain ⟨xc,gs,q,fr,o⟩:=ho
   obtain ⟨tb',m2⟩:=m.2
   obtain ⟨vs,q1,_⟩:=(hk b _ fx).1
   rcases o with ⟨z,e2⟩ | ⟨d',h1,h2,e2,e3⟩
   ·obtain ⟨vs2,q2,_⟩:=(hk b _ e2).1
    rw [q1] at q2;cases q2
    exact ⟨xc,gs,Paired.mono (λ_ _ ⟨z,w⟩=>⟨z,w.later l⟩) q,tb',.inl ⟨z,m2⟩⟩
   ·obtain ⟨vs2,q2,_⟩:=(hk b _ e2).1
    rw [q1] at q2;cases q2
    exact ⟨xc,gs,Paired.mono (λ_ _ ⟨z,w⟩=>⟨z,w.later l⟩) q,tb',.inr ⟨d',h1,h2,m2,m.1 d' _ h1 e3⟩⟩
 ·obtain ⟨u,q⟩:=ho.some
  exact ho.later l (by rw [q];exact m.1 b u hb q)
end
def xOf (X:Cx) (a:Addr) (H:Hp):Prop:=∀ (pins:List (Addr×Obj)) (σ:L2.St) (s:Shared) (C:Addr) (d tb:Option Addr),L2.Inv X pins σ H s->Fx X.K H a C d tb->X.xe (.ref a) s
def c1y (X:Cx) (pins:List (Addr×Obj)) (σ:L2.St) (F:Addr->Hp->Prop) (ev:Value) (s:Shared):Prop:=∃ a H C d tb,ev=.ref a/\L2.Inv X pins σ H s/\Fx X.K H a C d tb/\F a H
def PX (X:Cx) (cl:Nat->Addr) (e:Expr) (f:Env->M D):Prop:=∀ (pins:List (Addr×Obj)) (s:Shared) (σ:L2.St) (H:Hp) (Q:VK) (F:Addr->Hp->Prop),L2.Inv X pins σ H s->tD X.K cl F f σ H Q ->
 wpAny (model X.prog X.w) X.A (eval e X.env) (EP X pins σ Q) (c1y X pins σ F) s
def spX (K:PySem.W.Frag) (cl:Nat->Addr) (n:Nat) (run:List D->M D):Sp:=λvs H Q E=>vs.length=n/\∃ μ S ds,RDs K μ H ds vs/\Rep K cl μ S H/\Post K cl (b4q E) μ H (run ds S) λd _ μ' H'=>∀ v,RD K μ' H' d v->Q v H'
section
variable {X:Cx} {cl:Nat->Addr} {e:Expr} {es:List Expr} {f:Env->M D} {pos p:Pos}
theorem PX.of (h:PE X.nox e (tD X.K cl x0 f)):PX X cl e λρ=>nx (f ρ):=λpins s σ H Q F I ⟨μ,S,ρ,eo,rp,p⟩=>
 wpAny_mono (h pins s σ H Q (I.wish _) ⟨μ,S,ρ,eo,rp,p.nx⟩) (λ_ _ ⟨v,H',I',r,q⟩=>⟨v,H',I'.unwish,r,q⟩) λ_ _ z=>False.elim z
theorem b7h {k n:Nat} {a:Addr} {fd:FuncData} {ps:List Str} {x:Str} {fs:Env->M (List D)} {run:List D->M D} (hn:ps.length=n) (F:FnOk X.prog X.w X.K X.mg X.base (CXd X.prog X.w X.K) k a fd ps (spX X.K cl n run)) (hr:Room false k X.A) (hg:Gl X x) (hm:X.mg x=some (.ref a)) (hk:PySem.W.keepIn X.K (.ref a)=true) (hb:Binds X.K fd ps [])
  (ha:PA X.nox (e :: es) (tDs X.K cl x0 fs)) (hdb:(x==("__debug__" : Str))=false) (hs:(e :: es).all noStar=true) :
  PX X cl (.Call (.Name x p) (e :: es) [] pos) λρ=>bind (nx (fs ρ)) λds=>if ds.length=n then run ds else bad:=by
 rw [List.all_cons,Bool.and_eq_true] at hs
 intro pins s σ H Q F0 I ⟨μ,S,ρ,eo,rp,p⟩
 refine wpAny_Call_Name_kw (G5 I hg hm ?_ hdb)
 refine PySem.W.callWith_K (h₀:=X.base) I.ok.mod.kin hk (wpAny_mono (ha pos pins s σ H (λvs H1=>∃ μ1 S1 ds,RDs X.K μ1 H1 ds vs/\Rep X.K cl μ1 S1 H1/\Post X.K cl F0 μ1 H1 ((if ds.length=n then run ds else bad) S1) λd _ μ' H'=>∀ v,RD X.K μ' H' d v->Q v H') (I.wish _) ⟨μ,S,ρ,eo,rp,p.bind.nx.imp λds S1 μ1 H1 l1 r1 p1 vs rvs=>⟨μ1,S1,ds,rvs,r1,p1⟩⟩)
  (λus s1 ⟨vs,H1,I1,r,μ1,S1,ds,rvs,r1,p1⟩=>⟨I1.unwish.kIn,?_⟩) λ_ _ z=>False.elim z) (f7 hs.1) (p8 hs.2)
 have I1:=I1.unwish
 by_cases hd:ds.length=n
 ·rw [if_pos hd] at p1
  have hl:us.length=ps.length:=by rw [<- r.length,<- rvs.length,hd,hn]
  have hb2:=hb s1 us I1.kIn (by rw [List.append_nil];exact hl)
  rw [List.append_nil] at hb2
  refine wpAny_call (codeAny_mono (F.run X.A X.stack s1 H1 ⟨us,[]⟩ us vs Q (λev _ H=>∀ a,ev=.ref a->F0 a H) hr I1.env0 hb2 r ⟨by rw [<- rvs.length];exact hd,μ1,S1,ds,rvs,r1,p1.ximp λ_ _ _ _ a _ _ _ _ h a' z=>by cases z;exact h⟩) λres s' hq=>?_)
  cases res with
  | error ev=>
   obtain ⟨a',C,d,tb,H',he,os,bare,un,hok,fx,q⟩:=hq
   exact ⟨a',H',C,d,tb,he,I1.call' (ch:=[]) os un hok bare (λb z=>absurd z (by simp)),fx,q a' he⟩
  | ok fl=>
   cases fl with
   | ret u=>exact I1.after hq
   | next=>exact False.elim hq
   | brk=>exact False.elim hq
   | cont=>exact False.elim hq
 ·rw [if_neg hd] at p1;exact p1.elim
noncomputable def w5 (d:D):M Fl:=match d with
 | .ref n=>λS=>match S[n]? with
  | some (.exc _ _)=>.exn n S
  | _=>.bad
 | _=>bad
theorem b6o (hc:X.calm=true) (h:PE X e (tDf X.K cl (xOf X) f)):PS X (.Raise (some e) none pos) (sD X.K cl (xOf X) λρ=>bind (f ρ) w5):=by
 intro pins s σ H D I ⟨μ,S,ρ,eo,rp,p⟩
 show wpAny _ _ (do standAt pos;raiseStmt X.env (some (do let v <- eval e X.env;standAt pos;pure v)) none) _ _ _
 refine wpAny_bind (wpAny_standAt (a4i (K:=X.K) (I.ok.hd hc) (wpAny_bind (wpAny_mono (h pins s σ H (λv H1=>∃ (x C:Addr) (d:Option Addr) (μ1:Mp) (S1:Sto) (n c:Nat) (fs:List (Str×L3.D)),v=.ref x/\XC X.K C/\H1 x=some (P1 x C d)/\Rep X.K cl μ1 S1 H1/\S1[n]?=some (O.exc c fs)/\μ1.pl[n]?=some x/\xOf X x H1) I ⟨μ,S,ρ,eo,rp,p.bind.imp λd S1 μ1 H1 l1 r1 p1 v rv fr=>?_⟩)
  (λu s1 ⟨v,H1,I1,ru,x,C,d,μ1,S1,n,c,fs,ev,xc,ex,r1,e1,e2,xo⟩=>wpAny_bind (wpAny_standAt (wpAny_pure ?_))) λ_ _ z=>z))))
 ·cases rv with
  | ref hp=>
   rename_i n a
   obtain ⟨x,C,d,ev,xc,ex⟩:=fr
   cases ev
   simp only [w5] at p1
   cases q:S1[n]? with
   | none=>rw [q] at p1;exact p1.elim
   | some o=>
    rw [q] at p1
    cases o with
    | exc c fs=>exact ⟨_,C,d,μ1,S1,n,c,fs,rfl,xc,ex,r1,q,hp,p1 μ1 H1 _ (Lat.refl _ _) r1 hp⟩
    | lst _=>exact p1.elim
    | dct _=>exact p1.elim
  | _=>exact False.elim p1
 ·subst ev
  obtain rfl:u=Value.ref x:=ru
  have fx:=(b3q I1.hok (r1.ats n _ x e1 e2) ex λT z=>(nomatch z)).2
  exact ⟨x,C,d,rfl,I1.kIn,xc,I1.isX ex,xo pins σ s1 C d none I1 fx⟩
end
section
variable {K:PySem.W.Frag} {cl:Nat->Addr} {xe xe':Addr->Hp->Prop} {α:Type} {μ:Mp} {H:Hp}
theorem Post.up {r:R α} {G:α->Sto->Mp->Hp->Prop} (p:Post K cl xe μ H r G) (k:∀ a H',xe a H'->xe' a H'):Post K cl xe' μ H r G:=p.ximp λ_ _ _ H' a _ _ _ _ h=>k a H' h
theorem Post.x0 {r:R α} {G:α->Sto->Mp->Hp->Prop} (p:Post K cl (b4q E0) μ H r G):Post K cl xe μ H r G:=p.up λ_ _ z=>False.elim z
end
noncomputable abbrev x0:Addr->Hp->Prop:=b4q E0
section
variable {X:Cx} {cl:Nat->Addr} {xe:Addr->Hp->Prop} {e tg:Expr} {es:List Expr}
theorem PE.x0 {f:Env->M D} (h:PE X e (tD X.K cl xe f)):PE X e (tD X.K cl x0 f):=PE.imp h λσ H Q ⟨μ,S,ρ,eo,rp,p⟩=>⟨μ,S,ρ,eo,rp,p.x0⟩
theorem PTL.x0 {f:Env->M Bool} (h:PTL X es (tBo X.K cl xe f)):PTL X es (tBo X.K cl x0 f):=λpins s σ H Q I ⟨μ,S,ρ,eo,rp,p⟩=>h pins s σ H Q I ⟨μ,S,ρ,eo,rp,p.x0⟩
theorem PA.x0 {f:Env->M (List D)} (h:PA X es (tDs X.K cl xe f)):PA X es (tDs X.K cl x0 f):=PA.imp h λσ H Q ⟨μ,S,ρ,eo,rp,p⟩=>⟨μ,S,ρ,eo,rp,p.x0⟩
theorem PI.x0 {f:Env->M (Src×Nat)} (h:PI X tg e (tIt X.K cl xe f)):PI X tg e (tIt X.K cl x0 f):=PI.imp h λσ H Q ⟨μ,S,ρ,eo,rp,p⟩=>⟨μ,S,ρ,eo,rp,p.x0⟩
theorem PSs.x0 {sts:List Stmt} {f:Env->M Fl} (h:PSs X sts (sD X.K cl xe f)):PSs X sts (sD X.K cl x0 f):=PSs.imp h λD σ H ⟨μ,S,ρ,eo,rp,p⟩=>⟨μ,S,ρ,eo,rp,p.x0⟩
theorem b91 {fs:Env->M (List D)} (h:PE X e (c1r X.K cl x0 fs)):PE X e (tD X.K cl xe λρ=>bind (nx (fs ρ)) λds=>ret (.lst ds)):=PE.imp h λσ H Q ⟨μ,S,ρ,eo,rp,p⟩=>
 ⟨μ,S,ρ,eo,rp,p.bind.nx.imp λds S1 μ1 H1 l1 r1 p1 acc ys hl rds=>p1.ret μ1 H1 (Lat.refl _ _) r1 _ (.lst hl rds)⟩
theorem c11:E4 (CXd X.prog X.w X.K) X (λev _ H=>∀ a,ev=.ref a->xOf X a H):=λpins σ H s e s' I ⟨a,C,d,tb,H',he,os,bare,un,hok,fx,q⟩=>by
 subst he
 exact q a rfl pins σ s' C d tb (I.call' (ch:=[]) os un hok bare λb z=>absurd z (by simp)) fx
theorem b49 {k n:Nat} {a:Addr} {fd:FuncData} {ps:List Str} {x:Str} {p pos:Pos} {fs:Env->M (List D)} {run:List D->M D} (F:FnOk X.prog X.w X.K X.mg X.base (CXd X.prog X.w X.K) k a fd ps (spX X.K cl n run)) (hr:Room false k X.A) (hg:Gl X x) (hm:X.mg x=some (.ref a)) (hk:PySem.W.keepIn X.K (.ref a)=true) (hb:Binds X.K fd ps [])
  (ha:PA X (e :: es) (tDs X.K cl (xOf X) fs)) (hdb:(x==("__debug__" : Str))=false) (hs:(e :: es).all noStar=true) :
  PE X (.Call (.Name x p) (e :: es) [] pos) (tD X.K cl (xOf X) λρ=>bind (fs ρ) λds=>if ds.length=n then run ds else bad):=by
 rw [List.all_cons,Bool.and_eq_true] at hs
 exact PE.imp (b8d F hr hg hm hk hb .nil c11 ha hdb (f7 hs.1) (p8 hs.2)) λσ H Q ⟨μ,S,ρ,eo,rp,p⟩=>
  ⟨μ,S,ρ,eo,rp,p.bind.imp λds S1 μ1 H1 l1 r1 p1 vs rvs=>by
   by_cases hd:ds.length=n
   ·rw [if_pos hd] at p1
    exact ⟨by rw [List.append_nil,<- rvs.length];exact hd,μ1,S1,ds,by rw [List.append_nil];exact rvs,r1,p1.up λa H' h a' z=>by cases z;exact h⟩
   ·rw [if_neg hd] at p1;exact p1.elim⟩
theorem b02 {k:Nat} {a:Addr} {fd:FuncData} {ps:List Str} {x:Str} {p pos:Pos} {run:List D->M D} (F:FnOk X.prog X.w X.K X.mg X.base (CXd X.prog X.w X.K) k a fd ps (spX X.K cl 0 run)) (hr:Room false k X.A) (hg:Gl X x) (hm:X.mg x=some (.ref a)) (hk:PySem.W.keepIn X.K (.ref a)=true) (hb:Binds X.K fd ps [])
  (hdb:(x==("__debug__" : Str))=false):PE X (.Call (.Name x p) [] [] pos) (tD X.K cl (xOf X) λρ=>run []):=PE.imp (b5g F hr hg hm hk hb .nil c11 hdb) λσ H Q ⟨μ,S,ρ,eo,rp,p⟩=>⟨rfl,μ,S,[],.nil,rp,p.up λa H' h a' z=>by cases z;exact h⟩
end
inductive G where
 | val (d:D) | fn (i n:Nat) | err (c:Nat) (fs:List Str) | dct (kvs:List (Str×D))
structure Gm where
 gl:List (Str×G)
 sub:Nat->Nat->Bool
 flds:List Str
 qs:List Nat:=[]
structure Lc where
 N:List Str
 sc:Scope
 fr:Bool
 mu:List Str
noncomputable def quiet (lc:Lc):Bool:=lc.mu.contains ("~" : Str)
structure Ev where
 e:Lc->Expr->Env->M D
 t:Lc->Expr->Env->M Bool
 s:Lc->Stmt->Env->M Fl
 i:Lc->Expr->Expr->Env->M (Src×Nat)
structure EvK where
 e:Lc->Expr->Env->∀ {α:Type},(D->M α)->M α
 t:Lc->Expr->Env->∀ {α:Type},(Bool->M α)->M α
 s:Lc->Stmt->Env->∀ {α:Type},(Fl->M α)->M α
 i:Lc->Expr->Expr->Env->∀ {α:Type},(Src×Nat->M α)->M α
structure EqK (r:Ev) (q:EvK):Prop where
 e:∀ lc e ρ {α:Type} (k:D->M α),q.e lc e ρ k=bind (r.e lc e ρ) k
 t:∀ lc e ρ {α:Type} (k:Bool->M α),q.t lc e ρ k=bind (r.t lc e ρ) k
 s:∀ lc e ρ {α:Type} (k:Fl->M α),q.s lc e ρ k=bind (r.s lc e ρ) k
 i:∀ lc g e ρ {α:Type} (k:Src×Nat->M α),q.i lc g e ρ k=bind (r.i lc g e ρ) k
theorem a0u {α β:Type} (k:α->M β):bind bad k=bad:=rfl
theorem t8 {α β:Type} {c:Prop} [Decidable c] (a b:M α) (k:α->M β):bind (if c then a else b) k=if c then bind a k else bind b k:=by split <;> rfl
theorem W1 {α:Type} (m:M α):bind m ret=m:=by
 funext S;unfold bind ret;cases m S <;> rfl
noncomputable def m9:List Str->Str->Option Nat
 | [],_=>none
 | y :: ys,x=>if y=x then some 0 else (m9 ys x).map (· + 1)
theorem v4:∀ {N:List Str} {x:Str} {i:Nat},m9 N x=some i->N[i]?=some x
 | [],_,_,e=>by cases e
 | y :: ys,x,i,e=>by
  unfold m9 at e
  split at e
  ·rename_i h;cases e;simp [h]
  ·cases q:m9 ys x with
   | none=>rw [q] at e;cases e
   | some j=>rw [q] at e;cases e;simpa using v4 q
noncomputable def b5a (sc:Scope) (x:Str):Bool:=decide (sc.names.lookup x=some .local)||decide (sc.names.lookup x=some .cell)||decide (sc.names.lookup x=some .free)
noncomputable def a2p (sc:Scope) (x:Str):Bool:=decide (sc.names.lookup x=some .local)||decide (sc.names.lookup x=some .cell)
noncomputable def glB (sc:Scope) (x:Str):Bool:=decide (sc.names.lookup x=some .globalImplicit)
noncomputable def u5 (x:Str):Bool:=!(x==("__debug__" : Str))&&!(x==("__classdict__" : Str))&&!(x==("__name__" : Str))
theorem b8g {sc:Scope} {x:Str} (h:b5a sc x=true):Vis sc x:=by
 simpa [b5a,Vis,or_assoc] using h
theorem O6 {sc:Scope} {x:Str} (h:a2p sc x=true):L2.Loc sc x:=by
 simpa [a2p,L2.Loc] using h
theorem u9 {x:Str} (h:u5 x=true):(x==("__debug__" : Str))=false/\(x==("__classdict__" : Str))=false/\x ≠ "__name__":=by
 simpa [u5,and_assoc] using h
structure Tx where
 P:Program
 w:World
 K:PySem.W.Frag
 mg:Str->Option Value
 base:Heap
 cl:Nat->Addr
noncomputable def bnames:List Str:=["len","tuple","list","repr","isinstance","range","int","bool","str","dict","ValueError","all","any","sum","max","min","sorted","set","enumerate","abs","zip"]
noncomputable abbrev CXq (q:Bool):CXT:=⟨λ_ _ _ _ _ _=>False,q⟩
structure FnX (T:Tx) (k i n:Nat) (x:Str) (run:List D->M D):Prop where
 ex:∃ (a:Addr) (fd:FuncData) (ps:List Str),ps.length=n/\FnOk T.P T.w T.K T.mg T.base (CXd T.P T.w T.K) k a fd ps (spX T.K T.cl n run)/\T.mg x=some (.ref a)/\PySem.W.keepIn T.K (.ref a)=true/\Binds T.K fd ps []
structure FnAt (T:Tx) (k i n:Nat) (x:Str) (run:List D->M D):Prop where
 ex:∃ (a:Addr) (fd:FuncData) (ps:List Str),ps.length=n/\FnOk T.P T.w T.K T.mg T.base (CXq true) k a fd ps (spD T.K T.cl n run)/\T.mg x=some (.ref a)/\PySem.W.keepIn T.K (.ref a)=true/\Binds T.K fd ps []
structure ErrAt (T:Tx) (x:Str) (c:Nat) (fs:List Str):Prop where
 xc:XC T.K (T.cl c)
 mg_:T.mg x=some (.ref (T.cl c))
 ex:∃ (f:Addr) (fd:FuncData) (ps:List Str),PySem.W.findIn T.K (.ref (T.cl c)) "__init__" = some (some (.ref f))/\PySem.W.isFn T.K (.ref f)=true/\Binds T.K fd ps [] /\
  match fs with
  | []=>FnOk T.P T.w T.K T.mg T.base CX0 2 f fd ps (Hn.spHE T.K)
  | [g]=>FnOk T.P T.w T.K T.mg T.base CX0 2 f fd ps (Hn.sp1 T.K g)
  | [g,g2]=>FnOk T.P T.w T.K T.mg T.base CX0 2 f fd ps (Hn.sp2 T.K g g2)
  | _=>False
def b5l (T:Tx) (x:Str) (kvs:List (Str×D)):Prop:=∃ (a:Addr) (es:Array DictEntry) (n:Nat),T.mg x=some (.ref a)/\T.K.lookup a=some ⟨.type "dict",none,.dict es n,#[]⟩/\PySem.W.KeysLit T.w.params es.toList/\∀ k d,kvs.lookup k=some d->∃ u v,PySem.W.nsIn T.K a k=some (some u)/\RelV v u/\∀ μ H,RD T.K μ H d v
structure TxOk (T:Tx) (Γ:Gm) (k:Nat) (C:Nat->List D->M D):Prop where
 blt:∀ x∈bnames,Γ.gl.lookup x=none->T.mg x=none
 val:∀ x d,Γ.gl.lookup x=some (.val d)->∃ u v,T.mg x=some u/\RelV v u/\∀ μ H,RD T.K μ H d v
 fn:∀ x i n,Γ.gl.lookup x=some (.fn i n)->i∉Γ.qs->FnX T k i n x (C i)
 fnq:∀ x i n,Γ.gl.lookup x=some (.fn i n)->i∈Γ.qs->FnAt T k i n x (C i)
 err:∀ x c fs,Γ.gl.lookup x=some (.err c fs)->ErrAt T x c fs/\(∀ g∈fs,v7 T.K (T.cl c) g)
 sub:∀ x c c0 fs,Γ.gl.lookup x=some (.err c0 fs)->XC T.K (T.cl c)->PySem.W.kitOne T.K (.ref (T.cl c)) (.ref (T.cl c0))=some (Γ.sub c c0)
 subV:∀ c,XC T.K (T.cl c)->PySem.W.kitOne T.K (.ref (T.cl c)) (.type "ValueError")=some true
 subT:∀ c,XC T.K (T.cl c)->∀ t∈tys,PySem.W.kitOne T.K (.ref (T.cl c)) (.type t)=some false
 fld:∀ g∈Γ.flds,∀ c,XC T.K (T.cl c)->v7 T.K (T.cl c) g
 dct:∀ x kvs,Γ.gl.lookup x=some (.dct kvs)->b5l T x kvs
 k3:3<=k
structure CxOk (T:Tx) (k:Nat) (lc:Lc) (X:Cx):Prop where
 prog:X.prog=T.P
 w:X.w=T.w
 K:X.K=T.K
 mg:X.mg=T.mg
 base:X.base=T.base
 N:X.N=lc.N
 nd:lc.N.Nodup
 sc:X.env.scope=lc.sc
 calm:quiet lc=false->X.calm=true
 room:Room (quiet lc) k X.A
 po:PassesOwn (model X.prog X.w) X.A X.env X.xe
 fn:X.fn=λ_=>lc.fr
 kd:lc.sc.kind=.function
 own:lc.fr=true->quiet lc=false->X.stack=X.env :: X.outer/\X.env.frame=some X.env.locals
structure EvOk (T:Tx) (k:Nat) (r:Ev):Prop where
 e:∀ lc X,CxOk T k lc X->∀ e,PE X e (tD T.K T.cl (xOf X) (r.e lc e))
 t:∀ lc X,CxOk T k lc X->∀ e,PT X e (tBo T.K T.cl (xOf X) (r.t lc e))
 s:∀ lc X,CxOk T k lc X->lc.fr=true->∀ st,PS X st (sD T.K T.cl (xOf X) (r.s lc st))
 i:∀ lc X,CxOk T k lc X->∀ g e,PI X g e (tIt T.K T.cl (xOf X) (r.i lc g e))
section
variable {T:Tx} {k:Nat} {r:Ev} {Γ:Gm} {C:Nat->List D->M D} {lc:Lc} {X:Cx} {pos:Pos}
theorem EvOk.ex (R:EvOk T k r) (h:CxOk T k lc X) (e:Expr):PE X e (tD X.K T.cl (xOf X) (r.e lc e)):=by rw [h.K];exact R.e lc X h e
theorem EvOk.tx (R:EvOk T k r) (h:CxOk T k lc X) (e:Expr):PT X e (tBo X.K T.cl (xOf X) (r.t lc e)):=by rw [h.K];exact R.t lc X h e
theorem EvOk.ix (R:EvOk T k r) (h:CxOk T k lc X) (g e:Expr):PI X g e (tIt X.K T.cl (xOf X) (r.i lc g e)):=by rw [h.K];exact R.i lc X h g e
theorem EvOk.sx (R:EvOk T k r) (h:CxOk T k lc X) (hf:lc.fr=true) (st:Stmt):PS X st (sD X.K T.cl (xOf X) (r.s lc st)):=by rw [h.K];exact R.s lc X h hf st
theorem CxOk.u64 (h:CxOk T k lc X):X.A.units+64<cLine:=h.room.units
theorem CxOk.u80 (h:CxOk T k lc X):X.A.units+80<cLine:=by have:=h.room.un;omega
theorem CxOk.u1 (h:CxOk T k lc X):X.A.units+1<cLine:=c7r h.room
theorem CxOk.gl (h:CxOk T k lc X) {x:Str} (hg:glB lc.sc x=true):Gl X x:=by
 show X.env.kindOf x=_
 unfold PySem.Env.kindOf
 rw [h.sc]
 exact of_decide_eq_true hg
theorem TxOk.none (TX:TxOk T Γ k C) (h:CxOk T k lc X) {x:Str} (hx:x∈bnames) (e:Γ.gl.lookup x=none):X.mg x=none:=by rw [h.mg];exact TX.blt x hx e
theorem CxOk.nd' (h:CxOk T k lc X):X.N.Nodup:=by rw [h.N];exact h.nd
theorem CxOk.fn1 (h:CxOk T k lc X) (hf:lc.fr=true) {x:Str}:X.fn x=true:=by rw [h.fn];exact hf
theorem CxOk.room0 (h:CxOk T k lc X) (hq:quiet lc=false):Room false k X.A:=by have:=h.room;rw [hq] at this;exact this
theorem CxOk.nox (h:CxOk T k lc X):CxOk T k lc X.nox:=⟨h.prog,h.w,h.K,h.mg,h.base,h.N,h.nd,h.sc,h.calm,h.room,PassesOwn.never,h.fn,h.kd,h.own⟩
end
noncomputable abbrev Cf:=Nat->List D->M D
structure RuE:Type 1 where
 is:Gm->Lc->Expr->Bool
 run:Ev->Gm->Cf->Lc->Expr->Env->M D
 ok:∀ {T:Tx} {k:Nat} {r:Ev} {Γ:Gm} {C:Cf} {lc:Lc} {X:Cx} (e:Expr),EvOk T k r->TxOk T Γ k C->CxOk T k lc X->is Γ lc e=true->PE X e (tD X.K T.cl (xOf X) (run r Γ C lc e))
 runK:EvK->Gm->Cf->Lc->Expr->Env->∀ {α:Type},(D->M α)->M α
 eq:∀ {r:Ev} {q:EvK} {Γ:Gm} {C:Cf} {lc:Lc} (e:Expr) (ρ:Env) {α:Type} (k:D->M α),EqK r q->runK q Γ C lc e ρ k=bind (run r Γ C lc e ρ) k
structure RuT:Type 1 where
 is:Gm->Lc->Expr->Bool
 run:Ev->Gm->Cf->Lc->Expr->Env->M Bool
 ok:∀ {T:Tx} {k:Nat} {r:Ev} {Γ:Gm} {C:Cf} {lc:Lc} {X:Cx} (e:Expr),EvOk T k r->TxOk T Γ k C->CxOk T k lc X->is Γ lc e=true->PT X e (tBo X.K T.cl (xOf X) (run r Γ C lc e))
 runK:EvK->Gm->Cf->Lc->Expr->Env->∀ {α:Type},(Bool->M α)->M α
 eq:∀ {r:Ev} {q:EvK} {Γ:Gm} {C:Cf} {lc:Lc} (e:Expr) (ρ:Env) {α:Type} (k:Bool->M α),EqK r q->runK q Γ C lc e ρ k=bind (run r Γ C lc e ρ) k
structure RuS:Type 1 where
 is:Gm->Lc->Stmt->Bool
 run:Ev->Gm->Cf->Lc->Stmt->Env->M Fl
 ok:∀ {T:Tx} {k:Nat} {r:Ev} {Γ:Gm} {C:Cf} {lc:Lc} {X:Cx} (e:Stmt),EvOk T k r->TxOk T Γ k C->CxOk T k lc X->lc.fr=true->is Γ lc e=true->PS X e (sD X.K T.cl (xOf X) (run r Γ C lc e))
 runK:EvK->Gm->Cf->Lc->Stmt->Env->∀ {α:Type},(Fl->M α)->M α
 eq:∀ {r:Ev} {q:EvK} {Γ:Gm} {C:Cf} {lc:Lc} (e:Stmt) (ρ:Env) {α:Type} (k:Fl->M α),EqK r q->runK q Γ C lc e ρ k=bind (run r Γ C lc e ρ) k
structure RuI:Type 1 where
 is:Gm->Lc->Expr->Expr->Bool
 run:Ev->Gm->Cf->Lc->Expr->Env->M (Src×Nat)
 ok:∀ {T:Tx} {k:Nat} {r:Ev} {Γ:Gm} {C:Cf} {lc:Lc} {X:Cx} (g e:Expr),EvOk T k r->TxOk T Γ k C->CxOk T k lc X->is Γ lc g e=true->PI X g e (tIt X.K T.cl (xOf X) (run r Γ C lc e))
 runK:EvK->Gm->Cf->Lc->Expr->Env->∀ {α:Type},(Src×Nat->M α)->M α
 eq:∀ {r:Ev} {q:EvK} {Γ:Gm} {C:Cf} {lc:Lc} (e:Expr) (ρ:Env) {α:Type} (k:Src×Nat->M α),EqK r q->runK q Γ C lc e ρ k=bind (run r Γ C lc e ρ) k
structure Rules:Type 1 where
 es:List RuE
 ts:List RuT
 ss:List RuS
 is:List RuI
section
variable (Rs:Rules) (Γ:Gm) (C:Cf)
noncomputable def step (r:Ev):Ev:=
 ⟨λlc e=>match Rs.es.find? (λR=>R.is Γ lc e) with
  | some R=>R.run r Γ C lc e
  | none=>λ_=>bad,
 λlc e=>match Rs.ts.find? (λR=>R.is Γ lc e) with
  | some R=>R.run r Γ C lc e
  | none=>λ_=>bad,
 λlc e=>match Rs.ss.find? (λR=>R.is Γ lc e) with
  | some R=>R.run r Γ C lc e
  | none=>λ_=>bad,
 λlc g e=>match Rs.is.find? (λR=>R.is Γ lc g e) with
  | some R=>R.run r Γ C lc e
  | none=>λ_=>bad⟩
noncomputable def badEv:Ev:=⟨λ_ _ _=>bad,λ_ _ _=>bad,λ_ _ _=>bad,λ_ _ _ _=>bad⟩
noncomputable def ev:Nat->Ev
 | 0=>badEv
 | n+1=>step Rs Γ C (ev n)
noncomputable def c1o (q:EvK):EvK:=
 ⟨λlc e ρ _ k=>match Rs.es.find? (λR=>R.is Γ lc e) with
  | some R=>R.runK q Γ C lc e ρ k
  | none=>bad,
 λlc e ρ _ k=>match Rs.ts.find? (λR=>R.is Γ lc e) with
  | some R=>R.runK q Γ C lc e ρ k
  | none=>bad,
 λlc e ρ _ k=>match Rs.ss.find? (λR=>R.is Γ lc e) with
  | some R=>R.runK q Γ C lc e ρ k
  | none=>bad,
 λlc g e ρ _ k=>match Rs.is.find? (λR=>R.is Γ lc g e) with
  | some R=>R.runK q Γ C lc e ρ k
  | none=>bad⟩
noncomputable def d2d:EvK:=⟨λ_ _ _ _ _=>bad,λ_ _ _ _ _=>bad,λ_ _ _ _ _=>bad,λ_ _ _ _ _ _=>bad⟩
noncomputable def evK:Nat->EvK
 | 0=>d2d
 | n+1=>c1o Rs Γ C (evK n)
end
section
variable {Rs:Rules} {T:Tx} {k:Nat} {r:Ev} {q:EvK} {Γ:Gm} {C:Cf} {lc:Lc} {X:Cx}
theorem b79 (TX:TxOk T Γ k C) (R:EvOk T k r):EvOk T k (step Rs Γ C r):=by
 refine ⟨λlc X h e=>?_,λlc X h e=>?_,λlc X h hf e=>?_,λlc X h g e=>?_⟩
 ·rw [<- h.K]
  show PE X e (tD X.K T.cl (xOf X) (match Rs.es.find? (λR=>R.is Γ lc e) with
   | some R=>R.run r Γ C lc e
   | none=>λ_=>bad))
  cases hf:Rs.es.find? (λR=>R.is Γ lc e) with
  | none=>exact f9
  | some R0=>exact R0.ok e R TX h (by have:=List.find?_some hf;exact this)
 ·rw [<- h.K]
  show PT X e (tBo X.K T.cl (xOf X) (match Rs.ts.find? (λR=>R.is Γ lc e) with
   | some R=>R.run r Γ C lc e
   | none=>λ_=>bad))
  cases hf:Rs.ts.find? (λR=>R.is Γ lc e) with
  | none=>exact a6z
  | some R0=>exact R0.ok e R TX h (by have:=List.find?_some hf;exact this)
 ·rw [<- h.K]
  show PS X e (sD X.K T.cl (xOf X) (match Rs.ss.find? (λR=>R.is Γ lc e) with
   | some R=>R.run r Γ C lc e
   | none=>λ_=>bad))
  cases hq:Rs.ss.find? (λR=>R.is Γ lc e) with
  | none=>exact M3
  | some R0=>exact R0.ok e R TX h hf (by have:=List.find?_some hq;exact this)
 ·rw [<- h.K]
  show PI X g e (tIt X.K T.cl (xOf X) (match Rs.is.find? (λR=>R.is Γ lc g e) with
   | some R=>R.run r Γ C lc e
   | none=>λ_=>bad))
  cases hf:Rs.is.find? (λR=>R.is Γ lc g e) with
  | none=>exact a82
  | some R0=>exact R0.ok g e R TX h (by have:=List.find?_some hf;exact this)
theorem b2n:EvOk T k badEv:=⟨λlc X h e=>by rw [<- h.K];exact f9,λlc X h e=>by rw [<- h.K];exact a6z,λlc X h _ st=>by rw [<- h.K];exact M3,λlc X h g e=>by rw [<- h.K];exact a82⟩
theorem b52 (TX:TxOk T Γ k C):∀ n,EvOk T k (ev Rs Γ C n)
 | 0=>b2n
 | n+1=>b79 TX (b52 TX n)
theorem b7r (h:EqK r q):EqK (step Rs Γ C r) (c1o Rs Γ C q):=by
 refine ⟨λlc e ρ _ k=>?_,λlc e ρ _ k=>?_,λlc e ρ _ k=>?_,λlc g e ρ _ k=>?_⟩
 ·show (match Rs.es.find? (λ(R:RuE)=>R.is Γ lc e) with
   | some R=>R.runK q Γ C lc e ρ k
   | none=>bad)=bind ((match Rs.es.find? (λ(R:RuE)=>R.is Γ lc e) with
   | some R=>R.run r Γ C lc e
   | none=>λ_=>bad) ρ) k
  cases Rs.es.find? (λ(R:RuE)=>R.is Γ lc e) with
  | none=>rfl
  | some R0=>exact R0.eq e ρ k h
 ·show (match Rs.ts.find? (λ(R:RuT)=>R.is Γ lc e) with
   | some R=>R.runK q Γ C lc e ρ k
   | none=>bad)=bind ((match Rs.ts.find? (λ(R:RuT)=>R.is Γ lc e) with
   | some R=>R.run r Γ C lc e
   | none=>λ_=>bad) ρ) k
  cases Rs.ts.find? (λ(R:RuT)=>R.is Γ lc e) with
  | none=>rfl
  | some R0=>exact R0.eq e ρ k h
 ·show (match Rs.ss.find? (λ(R:RuS)=>R.is Γ lc e) with
   | some R=>R.runK q Γ C lc e ρ k
   | none=>bad)=bind ((match Rs.ss.find? (λ(R:RuS)=>R.is Γ lc e) with
   | some R=>R.run r Γ C lc e
   | none=>λ_=>bad) ρ) k
  cases Rs.ss.find? (λ(R:RuS)=>R.is Γ lc e) with
  | none=>rfl
  | some R0=>exact R0.eq e ρ k h
 ·show (match Rs.is.find? (λ(R:RuI)=>R.is Γ lc g e) with
   | some R=>R.runK q Γ C lc e ρ k
   | none=>bad)=bind ((match Rs.is.find? (λ(R:RuI)=>R.is Γ lc g e) with
   | some R=>R.run r Γ C lc e
   | none=>λ_=>bad) ρ) k
  cases Rs.is.find? (λ(R:RuI)=>R.is Γ lc g e) with
  | none=>rfl
  | some R0=>exact R0.eq e ρ k h
theorem c1x:∀ n,EqK (ev Rs Γ C n) (evK Rs Γ C n)
 | 0=>⟨λ_ _ _ _ _=>rfl,λ_ _ _ _ _=>rfl,λ_ _ _ _ _=>rfl,λ_ _ _ _ _ _=>rfl⟩
 | n+1=>b7r (c1x n)
end
section
variable (r:Ev) (q:EvK) (lc:Lc)
noncomputable def A3:List Expr->Env->M (List D)
 | [],_=>ret []
 | e :: es,ρ=>bind (r.e lc e ρ) λd=>bind (A3 es ρ) λds=>ret (d :: ds)
noncomputable def D7 {α:Type}:List Expr->Env->(List D->M α)->M α
 | [],_,k=>k []
 | e :: es,ρ,k=>q.e lc e ρ λd=>D7 es ρ λds=>k (d :: ds)
noncomputable def X8:List Stmt->Env->M Fl
 | [],ρ=>ret (.nx ρ)
 | st :: sts,ρ=>c8y (r.s lc st) (X8 sts) ρ
noncomputable def j0 {α:Type}:List Stmt->Env->(Fl->M α)->M α
 | [],ρ,k=>k (.nx ρ)
 | st :: sts,ρ,k=>q.s lc st ρ λfl=>match fl with
  | .nx ρ'=>j0 sts ρ' k
  | fl=>k fl
end
section
variable {T:Tx} {k:Nat} {r:Ev} {q:EvK} {Γ:Gm} {C:Cf} {lc:Lc} {X:Cx} {pos:Pos}
theorem u6 (h:EqK r q):∀ (es:List Expr) (ρ:Env) {α:Type} (k:List D->M α),D7 q lc es ρ k=bind (A3 r lc es ρ) k
 | [],_,_,_=>rfl
 | e :: es,ρ,_,k=>by
  show q.e lc e ρ (λd=>D7 q lc es ρ λds=>k (d :: ds))=bind (bind (r.e lc e ρ) λd=>bind (A3 r lc es ρ) λds=>ret (d :: ds)) k
  rw [h.e,a7]
  congr;funext d
  rw [u6 h,a7];rfl
theorem a19 (h:EqK r q):∀ (sts:List Stmt) (ρ:Env) {α:Type} (k:Fl->M α),j0 q lc sts ρ k=bind (X8 r lc sts ρ) k
 | [],_,_,_=>rfl
 | st :: sts,ρ,_,k=>by
  show (q.s lc st ρ λfl=>match fl with
   | .nx ρ'=>j0 q lc sts ρ' k
   | fl=>k fl)=bind (bind (r.s lc st ρ) λfl=>match fl with
   | .nx ρ'=>X8 r lc sts ρ'
   | fl=>ret fl) k
  rw [h.s,a7]
  congr;funext fl
  cases fl with
  | nx ρ'=>exact a19 h sts ρ' k
  | bk ρ'=>rfl
  | ct ρ'=>rfl
  | rt d=>rfl
theorem v8 (R:EvOk T k r) (h:CxOk T k lc X):∀ {es:List Expr},es.all noStar=true->PA X es (tDs X.K T.cl (xOf X) (A3 r lc es))
 | [],_=>c00
 | e :: es,hs=>by
  rw [List.all_cons,Bool.and_eq_true] at hs
  exact b6h (R.ex h e) (v8 R h hs.2) hs.1
theorem Q7 (R:EvOk T k r) (h:CxOk T k lc X) (hf:lc.fr=true):∀ {sts:List Stmt},PSs X sts (sD X.K T.cl (xOf X) (X8 r lc sts))
 | []=>b5q
 | st :: sts=>c08 (R.sx h hf st) (Q7 R h hf)
end
noncomputable def b6n (c:Const):M D:=match c with
 | .int i=>ret (.int i)
 | .bool b=>ret (.bl b)
 | .none=>ret .non
 | .str x=>ret (.str x)
 | _=>bad
noncomputable def c5o {α:Type} (c:Const) (k:D->M α):M α:=match c with
 | .int i=>k (.int i)
 | .bool b=>k (.bl b)
 | .none=>k .non
 | .str x=>k (.str x)
 | _=>bad
noncomputable def c38:RuE where
 is _ _ e:=match e with
  | .Constant _ _ _=>true
  | _=>false
 run _ _ _ _ e _:=match e with
  | .Constant c _ _=>b6n c
  | _=>bad
 ok e R TX h hi:=by
  cases e with
  | Constant c n p=>
   show PE _ _ (tD _ _ _ λ_=>b6n c)
   cases c <;> first
    | exact M4 c18 λ_ _=>.int _
    | exact M4 d0e λ_ _=>.bl _
    | exact M4 c5r λ_ _=>.non
    | exact M4 c2d λ_ _=>.str _
    | exact f9
  | _=>exact f9
 runK _ _ _ _ e _ _ k:=match e with
  | .Constant c _ _=>c5o c k
  | _=>bad
 eq e ρ _ k h:=by
  cases e with
  | Constant c n p=>cases c <;> rfl
  | _=>rfl
noncomputable def a44 (Γ:Gm) (lc:Lc) (x:Str) (ρ:Env):M D:=match m9 lc.N x with
 | some i=>if b5a lc.sc x=true then getD i ρ else bad
 | none=>if glB lc.sc x=true then (match Γ.gl.lookup x with
  | some (.val d)=>ret d
  | _=>bad) else bad
noncomputable def d1c {α:Type} (i:Nat) (ρ:Env) (k:D->M α):M α:=match ρ[i]? with
 | some (some d)=>k d
 | _=>bad
noncomputable def b47 {α:Type} (Γ:Gm) (lc:Lc) (x:Str) (ρ:Env) (k:D->M α):M α:=match m9 lc.N x with
 | some i=>if b5a lc.sc x=true then d1c i ρ k else bad
 | none=>if glB lc.sc x=true then (match Γ.gl.lookup x with
  | some (.val d)=>k d
  | _=>bad) else bad
theorem b7m {T:Tx} {k:Nat} {Γ:Gm} {C:Cf} {lc:Lc} {X:Cx} {pos:Pos} (TX:TxOk T Γ k C) (h:CxOk T k lc X) {x:Str} (hn:u5 x=true):PE X (.Name x pos) (tD X.K T.cl (xOf X) (a44 Γ lc x)):=by
 unfold a44
 obtain ⟨n1,n2,n3⟩:=u9 hn
 cases e:m9 lc.N x with
 | some i=>
  by_cases hv:b5a lc.sc x=true
  ·simp only [if_pos hv]
   exact c4n (b21 (by rw [h.N];exact v4 e) (by rw [h.sc];exact b8g hv) n1 n2)
  ·simp only [if_neg hv];exact f9
 | none=>
  by_cases hv:glB lc.sc x=true
  ·simp only [if_pos hv]
   cases e2:Γ.gl.lookup x with
   | none=>exact f9
   | some g=>
    cases g with
    | val d=>
     obtain ⟨u,v,e3,rv,rd⟩:=TX.val x d e2
     exact M4 (a4d (u:=u) (h.gl hv) (by rw [h.mg];exact e3) rv n1) λμ H=>by rw [h.K];exact rd μ H
    | fn i n=>exact f9
    | err c fs=>exact f9
    | dct kvs=>exact f9
  ·simp only [if_neg hv];exact f9
theorem b7q (Γ:Gm) (lc:Lc) (x:Str) (ρ:Env) {α:Type} (k:D->M α):b47 Γ lc x ρ k=bind (a44 Γ lc x ρ) k:=by
 unfold b47 a44
 cases m9 lc.N x with
 | some i=>
  simp only []
  split
  ·unfold d1c getD
   cases ρ[i]? with
   | none=>rfl
   | some o=>cases o <;> rfl
  ·rfl
 | none=>
  simp only []
  split
  ·cases Γ.gl.lookup x with
   | none=>rfl
   | some g=>cases g <;> rfl
  ·rfl
noncomputable def c7a:RuE where
 is _ _ e:=match e with
  | .Name x _=>u5 x
  | _=>false
 run _ Γ _ lc e ρ:=match e with
  | .Name x _=>a44 Γ lc x ρ
  | _=>bad
 ok e R TX h hi:=by
  cases e with
  | Name x p=>exact b7m TX h hi
  | _=>exact f9
 runK _ Γ _ lc e ρ _ k:=match e with
  | .Name x _=>b47 Γ lc x ρ k
  | _=>bad
 eq e ρ _ k h:=by
  cases e with
  | Name x p=>exact b7q _ _ x ρ k
  | _=>rfl
noncomputable def c3o (op:Operator):D->D->M D:=match op with
 | .Add=>d8
 | .Sub=>a74
 | .Mult=>C9
 | .Mod=>a16
 | .FloorDiv=>K2
 | .Pow=>b7l
 | _=>λ_ _=>bad
noncomputable def b8 (op:CmpOp):D->D->M D:=match op with
 | .Eq=>eqD false
 | .NotEq=>eqD true
 | .Lt=>b2r λi j=>decide (i<j)
 | .LtE=>b2r λi j=>decide (i<=j)
 | .Gt=>b2r λi j=>decide (j<i)
 | .GtE=>b2r λi j=>decide (j<=i)
 | .In=>inD false
 | .NotIn=>inD true
 | .Is=>isD false
 | .IsNot=>isD true
theorem c48 {X:Cx} {cl:Nat->Addr} {xe:Addr->Hp->Prop} (op:Operator):OpR X (binaryOp op) (rP2 X.K cl xe (c3o op)):=by
 cases op <;> first
  | exact c74
  | exact c8g
  | exact c78
  | exact c71
  | exact c3z
  | exact c9q
  | exact λpins s σ H x y v u Q I rx ry ⟨μ,S,d,e,rd,re,rp,p⟩=>p.elim
theorem a35 {T:Tx} {k:Nat} {lc:Lc} {X:Cx} {cl:Nat->Addr} {xe:Addr->Hp->Prop} (h:CxOk T k lc X) (op:CmpOp):OpR X (compareOp op) (rP2 X.K cl xe (b8 op)):=by
 cases op
 case Eq=>exact d18 h.u64
 case NotEq=>exact d1z h.u64
 case Lt=>exact a8w d0b
 case LtE=>exact a8w c7j
 case Gt=>exact a8w d07
 case GtE=>exact a8w c9k
 case In=>exact c94 false h.u80
 case NotIn=>exact c94 true h.u80
 case Is=>exact c73 false
 case IsNot=>exact c73 true
noncomputable def d1o:RuE where
 is _ _ e:=match e with
  | .BinOp _ _ _ _=>true
  | _=>false
 run r _ _ lc e ρ:=match e with
  | .BinOp a op b _=>bind (r.e lc a ρ) λx=>bind (r.e lc b ρ) λy=>c3o op x y
  | _=>bad
 ok e R TX h hi:=by
  cases e with
  | BinOp a op b p=>exact c35 (R.ex h _) (R.ex h _) (c48 _)
  | _=>exact f9
 runK q _ _ lc e ρ _ k:=match e with
  | .BinOp a op b _=>q.e lc a ρ λx=>q.e lc b ρ λy=>bind (c3o op x y) k
  | _=>bad
 eq e ρ _ k h:=by
  cases e with
  | BinOp a op b p=>simp only [h.e,a7]
  | _=>rfl
noncomputable def d16:RuE where
 is _ _ e:=match e with
  | .UnaryOp .Not _ _=>true
  | _=>false
 run r _ _ lc e ρ:=match e with
  | .UnaryOp .Not a _=>bind (r.e lc a ρ) λd=>bind (d9 d) λk=>ret (.bl (!k))
  | _=>bad
 ok e R TX h hi:=by
  split at hi
  ·exact c5t (R.ex h _)
  ·cases hi
 runK q _ _ lc e ρ _ k:=match e with
  | .UnaryOp .Not a _=>q.e lc a ρ λd=>bind (d9 d) λc=>k (.bl (!c))
  | _=>bad
 eq e ρ _ k h:=by
  split
  ·simp only [h.e,a7,j9]
  ·first
   | rfl
   | (rename_i hn;split;exact (hn _ _ rfl).elim;rfl)
noncomputable def d1m:RuE where
 is _ _ e:=match e with
  | .UnaryOp .USub _ _=>true
  | _=>false
 run r _ _ lc e ρ:=match e with
  | .UnaryOp .USub a _=>bind (r.e lc a ρ) b8r
  | _=>bad
 ok e R TX h hi:=by
  split at hi
  ·exact c4v (R.ex h _)
  ·cases hi
 runK q _ _ lc e ρ _ k:=match e with
  | .UnaryOp .USub a _=>q.e lc a ρ λd=>bind (b8r d) k
  | _=>bad
 eq e ρ _ k h:=by
  split
  ·simp only [h.e,a7]
  ·first
   | rfl
   | (rename_i hn;split;exact (hn _ _ rfl).elim;rfl)
section
variable (r:Ev) (q:EvK) (lc:Lc)
noncomputable def b6f:List Expr->Env->M D
 | [],_=>bad
 | [a],ρ=>r.e lc a ρ
 | a :: b :: es,ρ=>bind (r.e lc a ρ) λd=>bind (d9 d) λq=>if q=true then b6f (b :: es) ρ else ret d
noncomputable def orE:List Expr->Env->M D
 | [],_=>bad
 | [a],ρ=>r.e lc a ρ
 | a :: b :: es,ρ=>bind (r.e lc a ρ) λd=>bind (d9 d) λq=>if q=true then ret d else orE (b :: es) ρ
noncomputable def c0m {α:Type}:List Expr->Env->(D->M α)->M α
 | [],_,_=>bad
 | [a],ρ,k=>q.e lc a ρ k
 | a :: b :: es,ρ,k=>q.e lc a ρ λd=>bind (d9 d) λc=>if c=true then c0m (b :: es) ρ k else k d
noncomputable def orK {α:Type}:List Expr->Env->(D->M α)->M α
 | [],_,_=>bad
 | [a],ρ,k=>q.e lc a ρ k
 | a :: b :: es,ρ,k=>q.e lc a ρ λd=>bind (d9 d) λc=>if c=true then k d else orK (b :: es) ρ k
noncomputable def b5b:List Expr->Env->M Bool
 | [],_=>bad
 | [a],ρ=>r.t lc a ρ
 | a :: b :: es,ρ=>bind (r.t lc a ρ) λq=>if q=true then b5b (b :: es) ρ else ret false
noncomputable def orB:List Expr->Env->M Bool
 | [],_=>bad
 | [a],ρ=>r.t lc a ρ
 | a :: b :: es,ρ=>bind (r.t lc a ρ) λq=>if q=true then ret true else orB (b :: es) ρ
noncomputable def a9l {α:Type}:List Expr->Env->(Bool->M α)->M α
 | [],_,_=>bad
 | [a],ρ,k=>q.t lc a ρ k
 | a :: b :: es,ρ,k=>q.t lc a ρ λc=>if c=true then a9l (b :: es) ρ k else k false
noncomputable def b71 {α:Type}:List Expr->Env->(Bool->M α)->M α
 | [],_,_=>bad
 | [a],ρ,k=>q.t lc a ρ k
 | a :: b :: es,ρ,k=>q.t lc a ρ λc=>if c=true then k true else b71 (b :: es) ρ k
end
section
variable {T:Tx} {k:Nat} {r:Ev} {q:EvK} {Γ:Gm} {C:Cf} {lc:Lc} {X:Cx} {pos:Pos}
theorem b33 (R:EvOk T k r) (h:CxOk T k lc X):∀ {es:List Expr},PE X (.BoolOp .And es pos) (tD X.K T.cl (xOf X) (b6f r lc es))
 | []=>f9
 | [a]=>b5m (R.ex h a)
 | a :: b :: es=>c3g (R.ex h a) (b33 R h)
theorem c14 (R:EvOk T k r) (h:CxOk T k lc X):∀ {es:List Expr},PE X (.BoolOp .Or es pos) (tD X.K T.cl (xOf X) (orE r lc es))
 | []=>f9
 | [a]=>b5m (R.ex h a)
 | a :: b :: es=>d02 (R.ex h a) (c14 R h)
theorem a9s (R:EvOk T k r) (h:CxOk T k lc X):∀ {es:List Expr},PW X (.BoolOp .And es pos) (tBo X.K T.cl (xOf X) (b5b r lc es))
 | []=>pw_bad
 | [a]=>c0o (R.tx h a)
 | a :: b :: es=>c40 (R.tx h a) (a9s R h)
theorem b2i (R:EvOk T k r) (h:CxOk T k lc X):∀ {es:List Expr},PW X (.BoolOp .Or es pos) (tBo X.K T.cl (xOf X) (orB r lc es))
 | []=>pw_bad
 | [a]=>c51 (R.tx h a)
 | a :: b :: es=>d0m (R.tx h a) (b2i R h)
theorem b4u (h:EqK r q):∀ (es:List Expr) (ρ:Env) {α:Type} (k:D->M α),c0m q lc es ρ k=bind (b6f r lc es ρ) k
 | [],_,_,_=>rfl
 | [a],ρ,_,k=>h.e lc a ρ k
 | a :: b :: es,ρ,_,k=>by simp only [c0m,b6f,h.e,a7,t8,b4u h (b :: es),j9]
theorem c1b (h:EqK r q):∀ (es:List Expr) (ρ:Env) {α:Type} (k:D->M α),orK q lc es ρ k=bind (orE r lc es ρ) k
 | [],_,_,_=>rfl
 | [a],ρ,_,k=>h.e lc a ρ k
 | a :: b :: es,ρ,_,k=>by simp only [orK,orE,h.e,a7,t8,c1b h (b :: es),j9]
theorem a98 (h:EqK r q):∀ (es:List Expr) (ρ:Env) {α:Type} (k:Bool->M α),a9l q lc es ρ k=bind (b5b r lc es ρ) k
 | [],_,_,_=>rfl
 | [a],ρ,_,k=>h.t lc a ρ k
 | a :: b :: es,ρ,_,k=>by simp only [a9l,b5b,h.t,a7,t8,a98 h (b :: es),j9]
theorem b54 (h:EqK r q):∀ (es:List Expr) (ρ:Env) {α:Type} (k:Bool->M α),b71 q lc es ρ k=bind (orB r lc es ρ) k
 | [],_,_,_=>rfl
 | [a],ρ,_,k=>h.t lc a ρ k
 | a :: b :: es,ρ,_,k=>by simp only [b71,orB,h.t,a7,t8,b54 h (b :: es),j9]
end
noncomputable def c62:RuE where
 is _ _ e:=match e with
  | .BoolOp _ _ _=>true
  | _=>false
 run r _ _ lc e ρ:=match e with
  | .BoolOp .And es _=>b6f r lc es ρ
  | .BoolOp .Or es _=>orE r lc es ρ
  | _=>bad
 ok e R TX h hi:=by
  cases e with
  | BoolOp op es p=>cases op;exact b33 R h;exact c14 R h
  | _=>exact f9
 runK q _ _ lc e ρ _ k:=match e with
  | .BoolOp .And es _=>c0m q lc es ρ k
  | .BoolOp .Or es _=>orK q lc es ρ k
  | _=>bad
 eq e ρ _ k h:=by
  cases e with
  | BoolOp op es p=>cases op;exact b4u h es ρ k;exact c1b h es ρ k
  | _=>rfl
noncomputable def d28:RuE where
 is _ _ e:=match e with
  | .Compare _ [_] [b] _=>G2 b
  | _=>false
 run r _ _ lc e ρ:=match e with
  | .Compare a [op] [b] _=>bind (r.e lc a ρ) λx=>bind (r.e lc b ρ) λy=>b8 op x y
  | _=>bad
 ok e R TX h hi:=by
  split at hi
  ·exact c2t (R.ex h _) (R.ex h _) (a35 h _) (W9 hi)
  ·cases hi
 runK q _ _ lc e ρ _ k:=match e with
  | .Compare a [op] [b] _=>q.e lc a ρ λx=>q.e lc b ρ λy=>bind (b8 op x y) k
  | _=>bad
 eq e ρ _ k h:=by
  split
  ·simp only [h.e,a7]
  ·first
   | rfl
   | (rename_i hn;split;exact (hn _ _ _ _ rfl).elim;rfl)
noncomputable def rIf:RuE where
 is _ _ e:=match e with
  | .IfExp _ _ _ _=>true
  | _=>false
 run r _ _ lc e ρ:=match e with
  | .IfExp c a b _=>bind (r.t lc c ρ) λq=>if q=true then r.e lc a ρ else r.e lc b ρ
  | _=>bad
 ok e R TX h hi:=by
  cases e with
  | IfExp c a b p=>exact d0d (R.tx h _) (R.ex h _) (R.ex h _)
  | _=>exact f9
 runK q _ _ lc e ρ _ k:=match e with
  | .IfExp c a b _=>q.t lc c ρ λz=>if z=true then q.e lc a ρ k else q.e lc b ρ k
  | _=>bad
 eq e ρ _ k h:=by
  cases e with
  | IfExp c a b p=>simp only [h.e,h.t,a7,t8]
  | _=>rfl
noncomputable def d1p:RuE where
 is _ _ e:=match e with
  | .Tuple es _ _=>es.all noStar
  | _=>false
 run r _ _ lc e ρ:=match e with
  | .Tuple es _ _=>bind (A3 r lc es ρ) c4r
  | _=>bad
 ok e R TX h hi:=by
  cases e with
  | Tuple es n p=>exact c5c (v8 R h hi)
  | _=>exact f9
 runK q _ _ lc e ρ _ k:=match e with
  | .Tuple es _ _=>D7 q lc es ρ λds=>bind (c4r ds) k
  | _=>bad
 eq e ρ _ k h:=by
  cases e with
  | Tuple es n p=>simp only [u6 h,a7]
  | _=>rfl
noncomputable def d2u:RuE where
 is _ _ e:=match e with
  | .List es _=>es.all noStar
  | _=>false
 run r _ _ lc e ρ:=match e with
  | .List es _=>bind (A3 r lc es ρ) c2v
  | _=>bad
 ok e R TX h hi:=by
  cases e with
  | List es p=>exact c5p (v8 R h hi)
  | _=>exact f9
 runK q _ _ lc e ρ _ k:=match e with
  | .List es _=>D7 q lc es ρ λds=>bind (c2v ds) k
  | _=>bad
 eq e ρ _ k h:=by
  cases e with
  | List es p=>simp only [u6 h,a7]
  | _=>rfl
noncomputable def a1g (r:Ev) (lc:Lc):List (Option Expr)->List Expr->List ((Env->M D)×(Env->M D))
 | some k :: ks,v :: vs=>(r.e lc k,r.e lc v) :: a1g r lc ks vs
 | _,_=>[]
noncomputable def a4p (q:EvK) (lc:Lc) {α:Type}:List (Option Expr)->List Expr->Env->(List (D×D)->M α)->M α
 | some x :: ks,v :: vs,ρ,k=>q.e lc x ρ λa=>q.e lc v ρ λb=>a4p q lc ks vs ρ λps=>k ((a,b) :: ps)
 | _,_,_,k=>k []
theorem a59 {T:Tx} {k:Nat} {r:Ev} {lc:Lc} {X:Cx} {pos:Pos} (R:EvOk T k r) (h:CxOk T k lc X):∀ {ks:List (Option Expr)} {vs:List Expr},ks.all (·.isSome)=true->ks.length=vs.length->PPs X pos ks vs ((a1g r lc ks vs).map λfg=>(tD X.K T.cl (xOf X) fg.1,tD X.K T.cl (xOf X) fg.2))
 | [],[],_,_=>b7c
 | [],_ :: _,_,hl=>by simp at hl
 | _ :: _,[],_,hl=>by simp at hl
 | none :: _,_ :: _,ha,_=>by simp at ha
 | some k :: ks,v :: vs,ha,hl=>b5e (R.ex h k) (R.ex h v) (a59 R h (by simpa using ha) (by simpa using hl))
theorem a6s {r:Ev} {q:EvK} {lc:Lc} (h:EqK r q):∀ (ks:List (Option Expr)) (vs:List Expr) (ρ:Env) {α:Type} (k:List (D×D)->M α),a4p q lc ks vs ρ k=bind (E1 (a1g r lc ks vs) ρ) k
 | [],_,_,_,_=>rfl
 | none :: _,_,_,_,_=>rfl
 | some _ :: _,[],_,_,_=>rfl
 | some x :: ks,v :: vs,ρ,_,k=>by
  simp only [a4p,a1g,E1,h.e,a7]
  congr;funext a
  congr;funext b
  rw [a6s h ks vs ρ];rfl
noncomputable def d2n:RuE where
 is _ _ e:=match e with
  | .Dict ks vs _=>ks.all (·.isSome)&&decide (ks.length=vs.length)&&decide (0<ks.length)&&decide (ks.length<=15)
  | _=>false
 run r _ _ lc e ρ:=match e with
  | .Dict ks vs _=>bind (E1 (a1g r lc ks vs) ρ) a2q
  | _=>bad
 ok e R TX h hi:=by
  cases e with
  | Dict ks vs p=>
   simp only [Bool.and_eq_true,decide_eq_true_eq] at hi
   exact b8z (a59 R h hi.1.1.1 hi.1.1.2) hi.1.1.1 hi.1.1.2 (by intro z;rw [z] at hi;simp at hi) hi.2
  | _=>exact f9
 runK q _ _ lc e ρ _ k:=match e with
  | .Dict ks vs _=>a4p q lc ks vs ρ λps=>bind (a2q ps) k
  | _=>bad
 eq e ρ _ k h:=by
  cases e with
  | Dict ks vs p=>simp only [a6s h,a7]
  | _=>rfl
noncomputable def rIx:RuE where
 is _ _ e:=match e with
  | .Subscript _ i _=>J2 i
  | _=>false
 run r _ _ lc e ρ:=match e with
  | .Subscript a i _=>bind (r.e lc a ρ) λx=>bind (r.e lc i ρ) λy=>ixD x y
  | _=>bad
 ok e R TX h hi:=by
  cases e with
  | Subscript a i p=>exact d0a (R.ex h _) (R.ex h _) (d2h h.u1) (a7l hi)
  | _=>exact f9
 runK q _ _ lc e ρ _ k:=match e with
  | .Subscript a i _=>q.e lc a ρ λx=>q.e lc i ρ λy=>bind (ixD x y) k
  | _=>bad
 eq e ρ _ k h:=by
  cases e with
  | Subscript a i p=>simp only [h.e,a7]
  | _=>rfl
noncomputable def a5c (r:Ev) (lc:Lc) (o:Option Expr) (ρ:Env):M (Option Int):=match o with
 | none=>ret none
 | some e=>bind (r.e lc e ρ) y4
noncomputable def a8v (q:EvK) (lc:Lc) {α:Type} (o:Option Expr) (ρ:Env) (k:Option Int->M α):M α:=match o with
 | none=>k none
 | some e=>q.e lc e ρ λd=>bind (y4 d) k
theorem b8t {r:Ev} {q:EvK} {lc:Lc} (h:EqK r q) (o:Option Expr) (ρ:Env) {α:Type} (k:Option Int->M α):a8v q lc o ρ k=bind (a5c r lc o ρ) k:=by
 cases o with
 | none=>rfl
 | some e=>simp only [a8v,a5c,h.e,a7]
theorem a9n {T:Tx} {k:Nat} {r:Ev} {lc:Lc} {X:Cx} (R:EvOk T k r) (h:CxOk T k lc X) {o:Option Expr}:PO X o (tPt X.K T.cl (xOf X) (a5c r lc o)):=by
 cases o with
 | none=>exact b9i
 | some e=>exact b7s (R.ex h e)
noncomputable def rSl:RuE where
 is _ _ e:=match e with
  | .Subscript _ (.Slice _ _ none _) _=>true
  | _=>false
 run r _ _ lc e ρ:=match e with
  | .Subscript a (.Slice lo hi none _) _=>bind (r.e lc a ρ) λd=>bind (a5c r lc lo ρ) λl=>bind (a5c r lc hi ρ) λu=>slD d l u
  | _=>bad
 ok e R TX h hi:=by
  split at hi
  ·exact c6w (R.ex h _) (a9n R h) (a9n R h)
  ·cases hi
 runK q _ _ lc e ρ _ k:=match e with
  | .Subscript a (.Slice lo hi none _) _=>q.e lc a ρ λd=>a8v q lc lo ρ λl=>a8v q lc hi ρ λu=>bind (slD d l u) k
  | _=>bad
 eq e ρ _ k h:=by
  split
  ·simp only [h.e,b8t h,a7]
  ·first
   | rfl
   | (rename_i hn;split;exact (hn _ _ _ _ _ rfl).elim;rfl)
noncomputable def d3c:RuE where
 is _ _ e:=match e with
  | .Subscript _ (.Slice none none (some _) _) _=>true
  | _=>false
 run r _ _ lc e ρ:=match e with
  | .Subscript a (.Slice none none (some st) _) _=>bind (r.e lc a ρ) λx=>bind (r.e lc st ρ) λy=>b9k x y
  | _=>bad
 ok e R TX h hi:=by
  split at hi
  ·exact c2u (R.ex h _) (R.ex h _)
  ·cases hi
 runK q _ _ lc e ρ _ k:=match e with
  | .Subscript a (.Slice none none (some st) _) _=>q.e lc a ρ λx=>q.e lc st ρ λy=>bind (b9k x y) k
  | _=>bad
 eq e ρ _ k h:=by
  split
  ·simp only [h.e,a7]
  ·first
   | rfl
   | (rename_i hn;split;exact (hn _ _ _ _ rfl).elim;rfl)
noncomputable def d3h:RuE where
 is Γ _ e:=match e with
  | .Attribute a g _=>y3 a&&decide (g∈Γ.flds)
  | _=>false
 run r _ _ lc e ρ:=match e with
  | .Attribute a g _=>bind (r.e lc a ρ) (a5u g)
  | _=>bad
 ok e R TX h hi:=by
  cases e with
  | Attribute a g p=>
   simp only [Bool.and_eq_true,decide_eq_true_eq] at hi
   exact c3c (λc xc=>by rw [h.K] at xc ⊢;exact TX.fld g hi.2 c xc) (R.ex h _) hi.1
  | _=>exact f9
 runK q _ _ lc e ρ _ k:=match e with
  | .Attribute a g _=>q.e lc a ρ λd=>bind (a5u g d) k
  | _=>bad
 eq e ρ _ k h:=by
  cases e with
  | Attribute a g p=>simp only [h.e,a7]
  | _=>rfl
noncomputable def c19:RuE where
 is _ _ e:=match e with
  | .Compare _ [_,_] [_,c] _=>G2 c
  | _=>false
 run r _ _ lc e ρ:=match e with
  | .Compare a [op,op'] [b,c] _=>bind (r.e lc a ρ) λx=>bind (r.e lc b ρ) λy=>a4v (b8 op) (b8 op') x y (r.e lc c ρ)
  | _=>bad
 ok e R TX h hi:=by
  split at hi
  ·exact b5z (R.ex h _) (R.ex h _) (R.ex h _) (a35 h _) (a35 h _) (W9 hi)
  ·cases hi
 runK q _ _ lc e ρ _ k:=match e with
  | .Compare a [op,op'] [b,c] _=>q.e lc a ρ λx=>q.e lc b ρ λy=>bind (b8 op x y) λd=>bind (asB d) λz=>if z=true then q.e lc c ρ λw=>bind (b8 op' y w) k else k (.bl false)
  | _=>bad
 eq e ρ _ k h:=by
  split
  ·simp only [h.e,a4v,a7,t8,j9]
  ·first
   | rfl
   | (rename_i hn;split;exact (hn _ _ _ _ _ _ rfl).elim;rfl)
noncomputable def c6a:RuT where
 is _ _ e:=match e with
  | .UnaryOp .Not _ _=>true
  | _=>false
 run r _ _ lc e ρ:=match e with
  | .UnaryOp .Not a _=>bind (r.t lc a ρ) λq=>ret (!q)
  | _=>bad
 ok e R TX h hi:=by
  split at hi
  ·exact c32 (R.tx h _)
  ·cases hi
 runK q _ _ lc e ρ _ k:=match e with
  | .UnaryOp .Not a _=>q.t lc a ρ λc=>k (!c)
  | _=>bad
 eq e ρ _ k h:=by
  split
  ·simp only [h.t,a7,j9]
  ·first
   | rfl
   | (rename_i hn;split;exact (hn _ _ rfl).elim;rfl)
noncomputable def c8q:RuT where
 is _ _ e:=match e with
  | .BoolOp _ _ _=>true
  | _=>false
 run r _ _ lc e ρ:=match e with
  | .BoolOp .And es _=>b5b r lc es ρ
  | .BoolOp .Or es _=>orB r lc es ρ
  | _=>bad
 ok e R TX h hi:=by
  cases e with
  | BoolOp op es p=>cases op;exact (a9s R h).pt;exact (b2i R h).pt
  | _=>exact a6z
 runK q _ _ lc e ρ _ k:=match e with
  | .BoolOp .And es _=>a9l q lc es ρ k
  | .BoolOp .Or es _=>b71 q lc es ρ k
  | _=>bad
 eq e ρ _ k h:=by
  cases e with
  | BoolOp op es p=>cases op;exact a98 h es ρ k;exact b54 h es ρ k
  | _=>rfl
noncomputable def d1r:RuT where
 is _ _ e:=match e with
  | .Compare _ [_] [b] _=>G2 b
  | _=>false
 run r _ _ lc e ρ:=match e with
  | .Compare a [op] [b] _=>bind (r.e lc a ρ) λx=>bind (r.e lc b ρ) λy=>bind (b8 op x y) asB
  | _=>bad
 ok e R TX h hi:=by
  split at hi
  ·exact c2g (R.ex h _) (R.ex h _) (a35 h _) (W9 hi)
  ·cases hi
 runK q _ _ lc e ρ _ k:=match e with
  | .Compare a [op] [b] _=>q.e lc a ρ λx=>q.e lc b ρ λy=>bind (b8 op x y) λd=>bind (asB d) k
  | _=>bad
 eq e ρ _ k h:=by
  split
  ·simp only [h.e,a7]
  ·first
   | rfl
   | (rename_i hn;split;exact (hn _ _ _ _ rfl).elim;rfl)
noncomputable def c2j:RuT where
 is _ _ e:=E9 e
 run r _ _ lc e ρ:=bind (r.e lc e ρ) d9
 ok e R TX h hi:=b5n (R.ex h _) hi
 runK q _ _ lc e ρ _ k:=q.e lc e ρ λd=>bind (d9 d) k
 eq e ρ _ k h:=by simp only [h.e,a7]
noncomputable def c0d (Γ:Gm) (x:Str) (p:Nat->Nat->Bool):Bool:=match Γ.gl.lookup x with
 | some (.fn i n)=>p i n
 | _=>false
theorem a9h {Γ:Gm} {x:Str} {p:Nat->Nat->Bool} (h:c0d Γ x p=true):∃ i n,Γ.gl.lookup x=some (.fn i n)/\p i n=true:=by
 unfold c0d at h
 split at h
 ·rename_i i n e;exact ⟨i,n,e,h⟩
 ·cases h
noncomputable def rFn:RuE where
 is Γ lc e:=match e with
  | .Call (.Name x _) es [] _=>u5 x&&glB lc.sc x&&es.all noStar&&!quiet lc&&c0d Γ x λi n=>decide (es.length=n)&&decide (i∉Γ.qs)
  | _=>false
 run r Γ C lc e ρ:=match e with
  | .Call (.Name x _) es [] _=>(match Γ.gl.lookup x with
   | some (.fn i n)=>bind (A3 r lc es ρ) λds=>if ds.length=n then C i ds else bad
   | _=>bad)
  | _=>bad
 ok {T k r Γ C lc X} e R TX h hi:=by
  split at hi
  ·rename_i x p es pos
   simp only [Bool.and_eq_true,Bool.not_eq_true'] at hi
   obtain ⟨⟨⟨⟨c1,c2⟩,c3⟩,c4⟩,c5⟩:=hi
   obtain ⟨n1,n2,n3⟩:=u9 c1
   obtain ⟨i,n,e1,c6⟩:=a9h c5
   simp only [Bool.and_eq_true,decide_eq_true_eq] at c6
   obtain ⟨a,fd,ps,f1,f2,f3,f4,f5⟩:=(TX.fn x i n e1 c6.2).ex
   have F:FnOk X.prog X.w X.K X.mg X.base (CXd X.prog X.w X.K) k a fd ps (spX X.K T.cl n (C i)):=by rw [h.prog,h.w,h.K,h.mg,h.base];exact f2
   have hk:PySem.W.keepIn X.K (.ref a)=true:=by rw [h.K];exact f4
   have hb:Binds X.K fd ps []:=by rw [h.K];exact f5
   have hm:X.mg x=some (.ref a):=by rw [h.mg];exact f3
   show PE X _ (tD X.K T.cl (xOf X) λρ=>(match Γ.gl.lookup x with
    | some (.fn i n)=>bind (A3 r lc es ρ) λds=>if ds.length=n then C i ds else bad
    | _=>bad))
   rw [e1]
   match es,c3,c6 with
   | [],_,c6=>
    have:n=0:=c6.1.symm
    subst this
    exact b02 F (h.room0 c4) (h.gl c2) hm hk hb n1
   | e :: es,c3,_=>exact b49 F (h.room0 c4) (h.gl c2) hm hk hb (v8 R h c3) n1 c3
  ·cases hi
 runK q Γ C lc e ρ _ k:=match e with
  | .Call (.Name x _) es [] _=>(match Γ.gl.lookup x with
   | some (.fn i n)=>D7 q lc es ρ λds=>if ds.length=n then bind (C i ds) k else bad
   | _=>bad)
  | _=>bad
 eq {r q Γ C lc} e ρ _ k h:=by
  split
  ·rename_i x p es pos
   cases Γ.gl.lookup x with
   | none=>rfl
   | some g=>cases g <;> first | rfl | simp only [u6 h,a7,t8,a0u]
  ·first
   | rfl
   | (rename_i hn;split;exact (hn _ _ _ _ rfl).elim;rfl)
noncomputable def b1q (r:Ev) (Γ:Gm) (lc:Lc) (x:Str) (es:List Expr) (ρ:Env):M D:=match Γ.gl.lookup x with
 | some (.err c fs)=>(match fs with
  | []=>bind (A3 r lc es ρ) (b44 c)
  | [g]=>bind (A3 r lc es ρ) (K6 c [g])
  | [g,g2]=>bind (A3 r lc es ρ) (K6 c [g,g2])
  | _=>bad)
 | _=>bad
noncomputable def b92 (q:EvK) (Γ:Gm) (lc:Lc) (x:Str) (es:List Expr) (ρ:Env) {α:Type} (k:D->M α):M α:=match Γ.gl.lookup x with
 | some (.err c fs)=>(match fs with
  | []=>D7 q lc es ρ λds=>bind (b44 c ds) k
  | [g]=>D7 q lc es ρ λds=>bind (K6 c [g] ds) k
  | [g,g2]=>D7 q lc es ρ λds=>bind (K6 c [g,g2] ds) k
  | _=>bad)
 | _=>bad
theorem b2v {r:Ev} {q:EvK} {Γ:Gm} {lc:Lc} (h:EqK r q) (x:Str) (es:List Expr) (ρ:Env) {α:Type} (k:D->M α):b92 q Γ lc x es ρ k=bind (b1q r Γ lc x es ρ) k:=by
 unfold b92 b1q
 cases Γ.gl.lookup x with
 | none=>rfl
 | some g=>
  cases g with
  | err c fs=>
   match fs with
   | []=>simp only [u6 h,a7]
   | [g]=>simp only [u6 h,a7]
   | [g,g2]=>simp only [u6 h,a7]
   | _ :: _ :: _ :: _=>rfl
  | _=>rfl
theorem a78 {T:Tx} {k:Nat} {r:Ev} {Γ:Gm} {C:Cf} {lc:Lc} {X:Cx} {x:Str} {p pos:Pos} {e:Expr} {es:List Expr} (R:EvOk T k r) (TX:TxOk T Γ k C) (h:CxOk T k lc X) (c1:u5 x=true) (c2:glB lc.sc x=true) (c3:(e :: es).all noStar=true) (c4:quiet lc=false) :
  PE X (.Call (.Name x p) (e :: es) [] pos) (tDf X.K T.cl (xOf X) (b1q r Γ lc x (e :: es))):=by
 have bd:PE X (.Call (.Name x p) (e :: es) [] pos) (tDf X.K T.cl (xOf X) λρ=>bad):=λ_ _ _ _ _ _ ⟨_,_,_,_,_,z⟩=>z.elim
 obtain ⟨n1,n2,n3⟩:=u9 c1
 have ha:=v8 R h c3
 unfold b1q
 cases e1:Γ.gl.lookup x with
 | none=>exact bd
 | some g=>
  cases g with
  | val d=>exact bd
  | fn i n=>exact bd
  | dct kvs=>exact bd
  | err c fs=>
   obtain ⟨ea,na⟩:=TX.err x c fs e1
   obtain ⟨f,fd,ps,g1,g2,g3,g4⟩:=ea.ex
   have xc:XC X.K (T.cl c):=by rw [h.K];exact ea.xc
   have hm:X.mg x=some (.ref (T.cl c)):=by rw [h.mg];exact ea.mg_
   have hr:Room false (2+1) X.A:=(h.room0 c4).mono TX.k3
   have hi:PySem.W.findIn X.K (.ref (T.cl c)) "__init__" = some (some (.ref f)):=by rw [h.K];exact g1
   have hf:PySem.W.isFn X.K (.ref f)=true:=by rw [h.K];exact g2
   have hb:Binds X.K fd ps []:=by rw [h.K];exact g3
   match fs,g4,na with
   | [],g4,na=>exact b5w (E:=E0) xc hi hf (by rw [h.prog,h.w,h.K,h.mg,h.base];exact g4) hr (h.gl c2) hm hb Z1 ha n1 c3
   | [g],g4,na=>exact b2t (E:=E0) xc (by rw [h.K];exact na g (by simp)) hi hf (by rw [h.prog,h.w,h.K,h.mg,h.base];exact g4) hr (h.gl c2) hm hb Z1 ha n1 c3
   | [g,g'],g4,na=>exact b58 (E:=E0) xc (by rw [h.K];exact na g (by simp)) (by rw [h.K];exact na g' (by simp)) hi hf (by rw [h.prog,h.w,h.K,h.mg,h.base];exact g4) hr (h.gl c2) hm hb Z1 ha n1 c3
   | _ :: _ :: _ :: _,g4,_=>exact g4.elim
noncomputable def b37 (Γ:Gm) (x:Str):Bool:=match Γ.gl.lookup x with
 | some (.err _ _)=>true
 | _=>false
noncomputable def d10:RuE where
 is Γ lc e:=match e with
  | .Call (.Name x _) (a :: es) [] _=>u5 x&&glB lc.sc x&&(a :: es).all noStar&&!quiet lc&&b37 Γ x
  | _=>false
 run r Γ C lc e ρ:=match e with
  | .Call (.Name x _) (a :: es) [] _=>b1q r Γ lc x (a :: es) ρ
  | _=>bad
 ok {T k r Γ C lc X} e R TX h hi:=by
  split at hi
  ·simp only [Bool.and_eq_true,Bool.not_eq_true'] at hi
   exact PE.unf (a78 R TX h hi.1.1.1.1 hi.1.1.1.2 hi.1.1.2 hi.1.2)
  ·cases hi
 runK q Γ C lc e ρ _ k:=match e with
  | .Call (.Name x _) (a :: es) [] _=>b92 q Γ lc x (a :: es) ρ k
  | _=>bad
 eq {r q Γ C lc} e ρ _ k h:=by
  split
  ·exact b2v h _ _ ρ k
  ·first
   | rfl
   | (rename_i hn;split;exact (hn _ _ _ _ _ rfl).elim;rfl)
noncomputable def U2 (Γ:Gm) (lc:Lc) (x:Str) (a:Expr):Bool:=decide (x = "isinstance")&&(Γ.gl.lookup ("isinstance" : Str)).isNone&&glB lc.sc "isinstance" && noStar a
theorem R1 {Γ:Gm} {lc:Lc} {x:Str} {a:Expr} (h:U2 Γ lc x a=true):x = "isinstance"/\Γ.gl.lookup ("isinstance" : Str)=none/\glB lc.sc "isinstance" = true/\noStar a=true:=by
 simp only [U2,Bool.and_eq_true,decide_eq_true_eq,Option.isNone_iff_eq_none] at h
 exact ⟨h.1.1.1,h.1.1.2,h.1.2,h.2⟩
noncomputable def c7n:RuE where
 is Γ lc e:=match e with
  | .Call (.Name x _) [a,.Name y _] [] _=>U2 Γ lc x a&&u5 y&&glB lc.sc y&&b37 Γ y
  | _=>false
 run r Γ C lc e ρ:=match e with
  | .Call (.Name _ _) [a,.Name y _] [] _=>(match Γ.gl.lookup y with
   | some (.err c0 _)=>bind (r.e lc a ρ) (B9 λc=>Γ.sub c c0)
   | _=>bad)
  | _=>bad
 ok {T k r Γ C lc X} e R TX h hi:=by
  split at hi
  ·rename_i x p a y q pos
   simp only [Bool.and_eq_true] at hi
   obtain ⟨⟨⟨c0,c1⟩,c2⟩,c3⟩:=hi
   obtain ⟨rfl,i1,i2,i3⟩:=R1 c0
   obtain ⟨n1,n2,n3⟩:=u9 c1
   show PE X _ (tD X.K T.cl (xOf X) λρ=>(match Γ.gl.lookup y with
    | some (.err c0 _)=>bind (r.e lc a ρ) (B9 λc=>Γ.sub c c0)
    | _=>bad))
   unfold b37 at c3
   cases e1:Γ.gl.lookup y with
   | none=>exact f9
   | some g=>
    cases g with
    | err c0 fs=>exact b9v (λc xc=>by rw [h.K] at xc ⊢;exact TX.sub y c c0 fs e1 xc) (R.ex h a) (h.gl i2) (TX.none h (by decide) i1) (h.gl c2) (by rw [h.mg];exact (TX.err y c0 fs e1).1.mg_) n1 i3
    | val d=>exact f9
    | fn i n=>exact f9
    | dct kvs=>exact f9
  ·cases hi
 runK q Γ C lc e ρ _ k:=match e with
  | .Call (.Name _ _) [a,.Name y _] [] _=>(match Γ.gl.lookup y with
   | some (.err c0 _)=>q.e lc a ρ λd=>bind (B9 (λc=>Γ.sub c c0) d) k
   | _=>bad)
  | _=>bad
 eq {r q Γ C lc} e ρ _ k h:=by
  split
  ·rename_i x p a y q pos
   cases Γ.gl.lookup y with
   | none=>rfl
   | some g=>cases g <;> first | rfl | simp only [h.e,a7]
  ·first
   | rfl
   | (rename_i hn;split;exact (hn _ _ _ _ _ _ rfl).elim;rfl)
noncomputable def btys:List (Str×String):=[("int","int"),("bool","bool"),("str","str"),("tuple","tuple"),("list","list"),("dict","dict"),("ValueError","ValueError")]
theorem b9s:∀ {x:Str} {t:String},btys.lookup x=some t->bootBuiltins x=some (.type t)/\x∈bnames/\(t∈tys\/t = "ValueError"):=by
 intro x t e
 have:∀ y∈btys,bootBuiltins y.1=some (.type y.2)/\y.1∈bnames/\(y.2∈tys\/y.2 = "ValueError"):=by
  intro y hy
  simp only [btys,List.mem_cons,List.not_mem_nil,or_false] at hy
  rcases hy with rfl | rfl | rfl | rfl | rfl | rfl | rfl <;> exact ⟨rfl,by decide,by decide⟩
 exact this _ (L2.mem_of_lookup e)
noncomputable def c80:RuE where
 is Γ lc e:=match e with
  | .Call (.Name x _) [a,.Name y _] [] _=>U2 Γ lc x a&&u5 y&&glB lc.sc y&&(Γ.gl.lookup y).isNone
  | _=>false
 run r Γ C lc e ρ:=match e with
  | .Call (.Name _ _) [a,.Name y _] [] _=>(match btys.lookup y with
   | some T=>bind (r.e lc a ρ) λd=>if T∈tys then z0 T (λ_=>false) d else B9 (λ_=>true) d
   | none=>bad)
  | _=>bad
 ok {T k r Γ C lc X} e R TX h hi:=by
  split at hi
  ·rename_i x p a y q pos
   simp only [Bool.and_eq_true,Option.isNone_iff_eq_none] at hi
   obtain ⟨⟨⟨c0,c1⟩,c2⟩,c3⟩:=hi
   obtain ⟨rfl,i1,i2,i3⟩:=R1 c0
   obtain ⟨n1,n2,n3⟩:=u9 c1
   have hm:=TX.none h (x:="isinstance") (by decide) i1
   show PE X _ (tD X.K T.cl (xOf X) λρ=>(match btys.lookup y with
    | some T=>bind (r.e lc a ρ) λd=>if T∈tys then z0 T (λ_=>false) d else B9 (λ_=>true) d
    | none=>bad))
   cases e2:btys.lookup y with
   | none=>exact f9
   | some t=>
    obtain ⟨b1,b2,b3⟩:=b9s e2
    by_cases ht:t∈tys
    ·have:=a97 (pos:=pos) (p:=p) (q:=q) (sx:=λ_=>false) (.inl ht) (λc xc=>by rw [h.K] at xc ⊢;exact TX.subT c xc t ht) (R.ex h a) (h.gl i2) hm (h.gl c2) (TX.none h b2 c3) b1 n3 n1 i3
     simp only [if_pos ht] at this ⊢
     exact this
    ·rcases b3 with b3 | b3
     ·exact absurd b3 ht
     ·subst b3
      have:=a97 (pos:=pos) (p:=p) (q:=q) (sx:=λ_=>true) (.inr rfl) (λc xc=>by rw [h.K] at xc ⊢;exact TX.subV c xc) (R.ex h a) (h.gl i2) hm (h.gl c2) (TX.none h b2 c3) b1 n3 n1 i3
      simp only [if_neg ht] at this ⊢
      exact this
  ·cases hi
 runK q Γ C lc e ρ _ k:=match e with
  | .Call (.Name _ _) [a,.Name y _] [] _=>(match btys.lookup y with
   | some T=>q.e lc a ρ λd=>if T∈tys then bind (z0 T (λ_=>false) d) k else bind (B9 (λ_=>true) d) k
   | none=>bad)
  | _=>bad
 eq {r q Γ C lc} e ρ _ k h:=by
  split
  ·rename_i x p a y q pos
   cases btys.lookup y with
   | none=>rfl
   | some T=>simp only [h.e,a7,t8]
  ·first
   | rfl
   | (rename_i hn;split;exact (hn _ _ _ _ _ _ rfl).elim;rfl)
noncomputable def a00 (Γ:Gm) (lc:Lc):List Expr->Option (List Nat)
 | []=>some []
 | .Name y _ :: ys=>if u5 y=true/\glB lc.sc y=true then (match Γ.gl.lookup y,a00 Γ lc ys with
  | some (.err c0 _),some cs=>some (c0 :: cs)
  | _,_=>none) else none
 | _=>none
theorem a8i {T:Tx} {k:Nat} {Γ:Gm} {C:Cf} {lc:Lc} {X:Cx} (TX:TxOk T Γ k C) (h:CxOk T k lc X):∀ {ys:List Expr} {cs:List Nat},a00 Γ lc ys=some cs->a31 X T.cl ys cs/\∀ c0∈cs,∀ c,XC X.K (T.cl c)->PySem.W.kitOne X.K (.ref (T.cl c)) (.ref (T.cl c0))=some (Γ.sub c c0)
 | [],cs,e=>by cases e;exact ⟨True.intro,λc hc=>(by cases hc)⟩
 | y :: ys,cs,e=>by
  cases y with
  | Name y p=>
   simp only [a00] at e
   by_cases hc:u5 y=true/\glB lc.sc y=true
   ·simp only [if_pos hc] at e
    obtain ⟨n1,n2,n3⟩:=u9 hc.1
    cases e1:Γ.gl.lookup y with
    | none=>rw [e1] at e;cases e
    | some g=>
     cases g with
     | val d=>rw [e1] at e;cases e
     | fn i n=>rw [e1] at e;cases e
     | dct kvs=>rw [e1] at e;cases e
     | err c0 fs=>
      cases e2:a00 Γ lc ys with
      | none=>rw [e1,e2] at e;cases e
      | some cs'=>
       rw [e1,e2] at e;cases e
       obtain ⟨i1,i2⟩:=a8i TX h e2
       refine ⟨⟨h.gl hc.2,by rw [h.mg];exact (TX.err y c0 fs e1).1.mg_,n1,i1⟩,λc1 hc1 c xc=>?_⟩
       rcases List.mem_cons.mp hc1 with rfl | hc1
       ·rw [h.K] at xc ⊢;exact TX.sub y c _ fs e1 xc
       ·exact i2 c1 hc1 c xc
   ·simp only [if_neg hc] at e;cases e
  | _=>simp only [a00] at e;cases e
noncomputable def c9a:RuE where
 is Γ lc e:=match e with
  | .Call (.Name x _) [a,.Tuple ys _ _] [] _=>U2 Γ lc x a&&(a00 Γ lc ys).isSome&&decide (ys.length<=1000)
  | _=>false
 run r Γ C lc e ρ:=match e with
  | .Call (.Name _ _) [a,.Tuple ys _ _] [] _=>(match a00 Γ lc ys with
   | some cs=>if cs.length<=1000 then bind (r.e lc a ρ) (B9 λc=>cs.any λc0=>Γ.sub c c0) else bad
   | none=>bad)
  | _=>bad
 ok {T k r Γ C lc X} e R TX h hi:=by
  split at hi
  ·rename_i x p a ys n q pos
   simp only [Bool.and_eq_true] at hi
   obtain ⟨⟨c0,c1⟩,c2⟩:=hi
   obtain ⟨rfl,i1,i2,i3⟩:=R1 c0
   show PE X _ (tD X.K T.cl (xOf X) λρ=>(match a00 Γ lc ys with
    | some cs=>if cs.length<=1000 then bind (r.e lc a ρ) (B9 λc=>cs.any λc0=>Γ.sub c c0) else bad
    | none=>bad))
   cases e:a00 Γ lc ys with
   | none=>exact f9
   | some cs=>
    by_cases hl:cs.length<=1000
    ·simp only [if_pos hl]
     obtain ⟨j1,j2⟩:=a8i TX h e
     exact b1x j2 hl (R.ex h a) (h.gl i2) (TX.none h (by decide) i1) j1 i3
    ·simp only [if_neg hl];exact f9
  ·cases hi
 runK q Γ C lc e ρ _ k:=match e with
  | .Call (.Name _ _) [a,.Tuple ys _ _] [] _=>(match a00 Γ lc ys with
   | some cs=>if cs.length<=1000 then q.e lc a ρ λd=>bind (B9 (λc=>cs.any λc0=>Γ.sub c c0) d) k else bad
   | none=>bad)
  | _=>bad
 eq {r q Γ C lc} e ρ _ k h:=by
  split
  ·rename_i x p a ys n q pos
   cases a00 Γ lc ys with
   | none=>rfl
   | some cs=>simp only [h.e,a7,t8,a0u]
  ·first
   | rfl
   | (rename_i hn;split;exact (hn _ _ _ _ _ _ _ rfl).elim;rfl)
noncomputable def a9q (x:Str) (ld:Bool) (Γ:Gm) (lc:Lc) (e:Expr):Bool:=match e with
 | .Call (.Name f _) (a :: es) [] _=>decide (f=x)&&(a :: es).all noStar&&(Γ.gl.lookup x).isNone&&glB lc.sc x&&!(ld&&quiet lc)
 | _=>false
noncomputable def b7y (g:List D->M D) (r:Ev) (lc:Lc) (e:Expr) (ρ:Env):M D:=match e with
 | .Call (.Name _ _) (a :: es) [] _=>bind (A3 r lc (a :: es) ρ) g
 | _=>bad
noncomputable def b8s (g:List D->M D) (q:EvK) (lc:Lc) (e:Expr) (ρ:Env) {α:Type} (k:D->M α):M α:=match e with
 | .Call (.Name _ _) (a :: es) [] _=>D7 q lc (a :: es) ρ λds=>bind (g ds) k
 | _=>bad
theorem b5c (g:List D->M D) {r:Ev} {q:EvK} {lc:Lc} (e:Expr) (ρ:Env) {α:Type} (k:D->M α) (h:EqK r q):b8s g q lc e ρ k=bind (b7y g r lc e ρ) k:=by
 unfold b8s b7y
 split
 ·simp only [u6 h,a7]
 ·first
  | rfl
  | (rename_i hn;split;exact (hn _ _ _ _ _ rfl).elim;rfl)
theorem a5b {x:Str} {ld:Bool} {Γ:Gm} {lc:Lc} {e:Expr} (h:a9q x ld Γ lc e=true):∃ p a es pos,e=.Call (.Name x p) (a :: es) [] pos/\(a :: es).all noStar=true/\Γ.gl.lookup x=none/\glB lc.sc x=true/\(ld=true->quiet lc=false):=by
 unfold a9q at h
 split at h
 ·simp only [Bool.and_eq_true,decide_eq_true_eq,Option.isNone_iff_eq_none,Bool.not_eq_true'] at h
  obtain ⟨⟨⟨⟨rfl,h2⟩,h3⟩,h4⟩,h5⟩:=h
  refine ⟨_,_,_,_,rfl,h2,h3,h4,λz=>?_⟩
  rw [z] at h5
  simpa using h5
 ·cases h
noncomputable def rBf (x:Str) (id:String) (ld:Bool) (g:List D->M D) (hx:x∈bnames/\x ≠ "__name__"/\(x==("__debug__" : Str))=false) (hv:bootBuiltins x=some (.builtin id))
  (hc:∀ {T:Tx} {k:Nat} {lc:Lc} {X:Cx} {cl:Nat->Addr} {xe:Addr->Hp->Prop},CxOk T k lc X->(ld=true->X.calm=true)->j3 X (.builtin id) (rPs X.K cl xe g)):RuE where
 is:=a9q x ld
 run r _ _ lc e ρ:=b7y g r lc e ρ
 ok {T k r Γ C lc X} e R TX h hi:=by
  obtain ⟨p,a,es,pos,rfl,h1,h2,h3,h4⟩:=a5b hi
  exact b6z (hc h λz=>h.calm (h4 z)) (h.gl h3) (TX.none h hx.1 h2) hv (v8 R h h1) hx.2.1 hx.2.2 h1
 runK q _ _ lc e ρ _ k:=b8s g q lc e ρ k
 eq e ρ _ k h:=b5c g e ρ k h
noncomputable def rBt (x:Str) (id:String) (ld:Bool) (g:List D->M D) (hx:x∈bnames/\x ≠ "__name__"/\(x==("__debug__" : Str))=false) (hv:bootBuiltins x=some (.type id))
  (hc:∀ {T:Tx} {k:Nat} {lc:Lc} {X:Cx} {cl:Nat->Addr} {xe:Addr->Hp->Prop},CxOk T k lc X->(ld=true->X.calm=true)->j3 X (.type id) (rPs X.K cl xe g)):RuE where
 is:=a9q x ld
 run r _ _ lc e ρ:=b7y g r lc e ρ
 ok {T k r Γ C lc X} e R TX h hi:=by
  obtain ⟨p,a,es,pos,rfl,h1,h2,h3,h4⟩:=a5b hi
  exact b36 (hc h λz=>h.calm (h4 z)) (h.gl h3) (TX.none h hx.1 h2) hv (v8 R h h1) hx.2.1 hx.2.2 h1
 runK q _ _ lc e ρ _ k:=b8s g q lc e ρ k
 eq e ρ _ k h:=b5c g e ρ k h
noncomputable def d21:RuE:=rBf "len" "len" false (one m7) (by decide) PySem.boot_len λ_ _=>c8p
noncomputable def c2r:RuE:=rBt "tuple" "tuple" false (one M5) (by decide) rfl λ_ _=>b95
noncomputable def c85:RuE:=rBt "list" "list" false (one c1k) (by decide) rfl λ_ _=>c59
noncomputable def d0n:RuE:=rBf "repr" "repr" false (one U5) (by decide) rfl λh _=>c2w h.room.gd h.u64
noncomputable def d1y:RuE:=rBf "any" "any" true (one b7x) (by decide) rfl λ_ hc=>d0r (hc rfl)
noncomputable def d2w:RuE:=rBf "all" "all" true (one b1m) (by decide) rfl λ_ hc=>c8t (hc rfl)
noncomputable def d2r:RuE:=rBt "int" "int" false (one a6e) (by decide) rfl λ_ _=>c6l
noncomputable def d3m:RuE:=rBt "str" "str" false (one b9y) (by decide) rfl λ_ _=>c7x
noncomputable def b87:RuE where
 is Γ lc e:=match e with
  | .Call (.Name x _) [.Call (.Name y _) [a] [] _] [] _=>decide (x = "list")&&decide (y = "range")&&(Γ.gl.lookup ("list" : Str)).isNone&&(Γ.gl.lookup ("range" : Str)).isNone&&glB lc.sc "list" && glB lc.sc "range" && !quiet lc&&noStar a
  | _=>false
 run r _ _ lc e ρ:=match e with
  | .Call (.Name _ _) [.Call (.Name _ _) [a] [] _] [] _=>bind (r.e lc a ρ) U3
  | _=>bad
 ok {T k r Γ C lc X} e R TX h hi:=by
  split at hi
  ·simp only [Bool.and_eq_true,decide_eq_true_eq,Option.isNone_iff_eq_none,Bool.not_eq_true'] at hi
   obtain ⟨⟨⟨⟨⟨⟨⟨rfl,rfl⟩,h1⟩,h2⟩,h3⟩,h4⟩,h5⟩,h6⟩:=hi
   exact b0d (h.calm h5) (h.gl h3) (TX.none h (by decide) h1) (h.gl h4) (TX.none h (by decide) h2) (R.ex h _) h6
  ·cases hi
 runK q _ _ lc e ρ _ k:=match e with
  | .Call (.Name _ _) [.Call (.Name _ _) [a] [] _] [] _=>q.e lc a ρ λd=>bind (U3 d) k
  | _=>bad
 eq e ρ _ k h:=by
  split
  ·simp only [h.e,a7]
  ·first
   | rfl
   | (rename_i hn;split;exact (hn _ _ _ _ _ _ _ rfl).elim;rfl)
noncomputable def c6q (n:Nat) (Γ:Gm) (lc:Lc) (e:Expr):Bool:=match e with
 | .Call (.Name f _) es [] _=>decide (f = "range")&&decide (es.length=n)&&es.all noStar&&(Γ.gl.lookup ("range" : Str)).isNone&&glB lc.sc "range"
 | _=>false
noncomputable def rgE (n:Nat) (r:Ev) (lc:Lc) (e:Expr) (ρ:Env):M (Src×Nat):=match e with
 | .Call (.Name _ _) es [] _=>bind (A3 r lc es ρ) λds=>if ds.length=n then y8 ds else bad
 | _=>bad
noncomputable def rgK (n:Nat) (q:EvK) (lc:Lc) (e:Expr) (ρ:Env) {α:Type} (k:Src×Nat->M α):M α:=match e with
 | .Call (.Name _ _) es [] _=>D7 q lc es ρ λds=>if ds.length=n then bind (y8 ds) k else bad
 | _=>bad
theorem c9g (n:Nat) {r:Ev} {q:EvK} {lc:Lc} (e:Expr) (ρ:Env) {α:Type} (k:Src×Nat->M α) (h:EqK r q):rgK n q lc e ρ k=bind (rgE n r lc e ρ) k:=by
 unfold rgK rgE
 split
 ·simp only [u6 h,a7,t8,a0u]
 ·first
  | rfl
  | (rename_i hn;split;exact (hn _ _ _ _ rfl).elim;rfl)
noncomputable def c0w:RuI where
 is Γ lc _ e:=c6q 1 Γ lc e
 run r _ _ lc e ρ:=rgE 1 r lc e ρ
 ok {T k r Γ C lc X} g e R TX h hi:=by
  unfold c6q at hi
  split at hi
  ·rename_i f p es pos
   simp only [Bool.and_eq_true,decide_eq_true_eq,Option.isNone_iff_eq_none] at hi
   obtain ⟨⟨⟨⟨rfl,h1⟩,h2⟩,h3⟩,h4⟩:=hi
   match es,h1,h2 with
   | [a],_,h2=>exact a72 (h.gl h4) (TX.none h (by decide) h3) (v8 R h h2) (by simpa using h2)
  ·cases hi
 runK q _ _ lc e ρ _ k:=rgK 1 q lc e ρ k
 eq e ρ _ k h:=c9g 1 e ρ k h
noncomputable def c61:RuI where
 is Γ lc g e:=match g,e with
  | .Tuple _ _ _,.Call (.Name f _) [a] [] _=>decide (f = "enumerate")&&noStar a&&(Γ.gl.lookup ("enumerate" : Str)).isNone&&glB lc.sc "enumerate"
  | _,_=>false
 run r _ _ lc e ρ:=match e with
  | .Call (.Name _ _) [a] [] _=>bind (A3 r lc [a] ρ) λds=>(match ds with
   | [d]=>a8e d
   | _=>bad)
  | _=>bad
 ok {T k r Γ C lc X} g e R TX h hi:=by
  split at hi
  ·simp only [Bool.and_eq_true,decide_eq_true_eq,Option.isNone_iff_eq_none] at hi
   obtain ⟨⟨⟨rfl,h1⟩,h2⟩,h3⟩:=hi
   exact b3y (h.gl h3) (TX.none h (by decide) h2) (v8 R h (by simpa using h1)) h1
  ·cases hi
 runK q _ _ lc e ρ _ k:=match e with
  | .Call (.Name _ _) [a] [] _=>D7 q lc [a] ρ λds=>(match ds with
   | [d]=>bind (a8e d) k
   | _=>bad)
  | _=>bad
 eq e ρ _ k h:=by
  split
  ·simp only [u6 h,a7]
   congr;funext ds
   match ds with
   | []=>rfl
   | [_]=>rfl
   | _ :: _ :: _=>rfl
  ·first
   | rfl
   | (rename_i hn;split;exact (hn _ _ _ _ rfl).elim;rfl)
noncomputable def d20:RuI where
 is _ _ _ _:=true
 run r _ _ lc e ρ:=bind (r.e lc e ρ) A4
 ok g e R TX h hi:=b93 (R.ex h e)
 runK q _ _ lc e ρ _ k:=q.e lc e ρ λd=>bind (A4 d) k
 eq e ρ _ k h:=by simp only [h.e,a7]
noncomputable def a76 (scope sc:Scope):Scope:={ scope with names:=scope.names.map λ(n,k)=>if (k==.free&&sc.kind==.function&&sc.names.lookup n==some .cell) then (n,NameKind.cell) else (n,k) }
theorem b1s (scope:Scope) (env:PySem.Env):relabel scope env=a76 scope env.scope:=rfl
noncomputable def E7 (scope:Scope):List Str:=(scope.names.filter λy=>y.2==.free).map (·.1)
noncomputable def U0 (lc:Lc) (scope:Scope) (xs:List Str):Bool:=
 decide (scope.kind=.function)&&scope.names.all (λy=>decide (y.2≠.cell))&&scope.names.all (λy=>decide (y.2=.local->scope.names.lookup y.1=some .local))
  && scope.names.all (λy=>decide (y.2=.free->scope.names.lookup y.1=some .free/\(lc.sc.names.lookup y.1=some .cell\/lc.sc.names.lookup y.1=some .free)))
  && (E7 scope).all (λz=>decide (scope.names.lookup z=some .free))&&decide ((xs++E7 scope).Nodup)&&xs.all (λx=>decide (scope.names.lookup x=some .local))&&!quiet lc
theorem a6v {α β:Type} {f:α->Option β}:∀ {xs:List α} {ys:List β},k7 f xs=some ys->ys.length=xs.length
 | [],_,e=>by cases e;rfl
 | x :: xs,ys,e=>by
  simp only [k7] at e
  cases e1:f x with
  | none=>rw [e1] at e;cases e
  | some y=>
   cases e2:k7 f xs with
   | none=>rw [e1,e2] at e;cases e
   | some ys'=>rw [e1,e2] at e;cases e;simp [a6v e2]
theorem a6r {α β:Type} {f:α->Option β}:∀ {xs:List α} {ys:List β} {j:Nat} {y:β},k7 f xs=some ys->ys[j]?=some y->∃ x,xs[j]?=some x/\f x=some y
 | [],_,_,_,e,h=>by cases e;simp at h
 | x :: xs,ys,j,y,e,h=>by
  simp only [k7] at e
  cases e1:f x with
  | none=>rw [e1] at e;cases e
  | some z=>
   cases e2:k7 f xs with
   | none=>rw [e1,e2] at e;cases e
   | some ys'=>
    rw [e1,e2] at e;cases e
    cases j with
    | zero=>simp at h;subst h;exact ⟨x,rfl,e1⟩
    | succ j=>simpa using a6r (j:=j) (y:=y) e2 (by simpa using h)
noncomputable def U4 (lc:Lc) (scope:Scope) (xs:List Str):Lc:=⟨xs++E7 scope,a76 scope lc.sc,false,[]⟩
noncomputable def testsE (r:Ev) (lc:Lc) (ifs:List Expr) (ρ:Env):M Bool:=match ifs with
 | []=>ret true
 | [c]=>r.t lc c ρ
 | _=>bad
noncomputable def testsK (q:EvK) (lc:Lc) (ifs:List Expr) (ρ:Env):M Bool:=match ifs with
 | []=>ret true
 | [c]=>q.t lc c ρ ret
 | _=>bad
theorem tests_eq {r:Ev} {q:EvK} {lc:Lc} (h:EqK r q) (ifs:List Expr) (ρ:Env):testsK q lc ifs ρ=testsE r lc ifs ρ:=by
 match ifs with
 | []=>rfl
 | [c]=>simp only [testsK,testsE,h.t,W1]
 | _ :: _ :: _=>rfl
section
variable {T:Tx} {k:Nat} {r:Ev} {q:EvK} {Γ:Gm} {C:Cf} {lc:Lc} {X:Cx}
theorem tests_ok (R:EvOk T k r) (h:CxOk T k lc X) {ifs:List Expr}:PTL X ifs (tBo X.K T.cl (xOf X) (testsE r lc ifs)):=by
 match ifs with
 | []=>exact b1r
 | [c]=>exact b68 (R.tx h c)
 | _ :: _ :: _=>exact λ_ _ _ _ _ _ ⟨_,_,_,_,_,p⟩=>p.elim
theorem a2x (h:CxOk T k lc X) {scope:Scope} {xs:List Str} {caps:List Nat} (hc:U0 lc scope xs=true) (hm:k7 (m9 lc.N) (E7 scope)=some caps):CompText X.N X.env (xs++E7 scope) xs.length caps scope/\(xs++E7 scope).Nodup/\(∀ x∈xs,scope.names.lookup x=some .local)/\quiet lc=false/\scope.kind=.function:=by
 simp only [U0,Bool.and_eq_true,decide_eq_true_eq,List.all_eq_true,Bool.not_eq_true'] at hc
 obtain ⟨⟨⟨⟨⟨⟨⟨h1,h2⟩,h3⟩,h4⟩,h5⟩,h6⟩,h7⟩,h8⟩:=hc
 refine ⟨⟨h1,h2,h3,λy hy hk=>?_,λj i e=>?_,?_⟩,h6,h7,h8,h1⟩
 ·rw [h.sc];exact h4 y hy hk
 ·obtain ⟨z,e1,e2⟩:=a6r hm e
  refine ⟨z,by rw [h.N];exact v4 e2,?_,h5 z (List.mem_of_getElem? e1)⟩
  rw [List.getElem?_append_right (by omega)]
  simpa using e1
 ·simp [a6v hm,Nat.add_comm]
theorem a0l (h:CxOk T k lc X) (hq:quiet lc=false) {scope:Scope} {xs:List Str} (hk:scope.kind=.function) (hn:(xs++E7 scope).Nodup) (pins:List (Addr×Obj)) (C:Addr) (fp:List Addr) (s:Shared) (H:Hp):CxOk T k (U4 lc scope xs) (i4 X pins (xs++E7 scope) scope C fp s H):=
 ⟨h.prog,h.w,h.K,h.mg,h.base,rfl,hn,by show relabel scope X.env=a76 scope lc.sc;rw [b1s,h.sc],λ_=>h.calm hq,(by have:=h.room;rw [hq] at this;exact this),PassesOwn.never,rfl,hk,λz=>Bool.noConfusion z⟩
end
noncomputable def j6 (src:Src) (t:D->M Bool) (f:D->M D):Nat->Nat->List D->M (List D)
 | 0,_,_=>bad
 | m+1,i,es=>λS=>match src i S with
  | none=>.bad
  | some none=>.ok es S
  | some (some d)=>bind (t d) (λb=>if b=true then bind (f d) (λy=>if es.length<sizeLine then j6 src t f m (i+1) (es++[y]) else bad) else j6 src t f m (i+1) es) S
theorem a6i (src:Src) (t:Env->M Bool) (f:Env->M D) (mk:D->Env):∀ m i es,a08 src t f mk m i es=j6 src (λd=>t (mk d)) (λd=>f (mk d)) m i es
 | 0,_,_=>rfl
 | m+1,i,es=>by
  funext S
  simp only [a08,j6,a6i src t f mk m]
  all_goals (cases src i S with
  | none=>rfl
  | some o=>cases o <;> rfl)
noncomputable def L9 (r:Ev) (lc:Lc) (elt:Expr) (x:Str) (px:Pos) (iter:Expr) (ifs:List Expr) (scope:Scope) (ρ:Env):M (List D):=match k7 (m9 lc.N) (E7 scope) with
 | some caps=>nx (a93 caps (r.i lc (.Name x px) iter) (testsE r (U4 lc scope [x]) ifs) (r.e (U4 lc scope [x]) elt) ρ)
 | none=>bad
noncomputable def a3z (q:EvK) (lc:Lc) (elt:Expr) (x:Str) (px:Pos) (iter:Expr) (ifs:List Expr) (scope:Scope) (ρ:Env) {α:Type} (k:List D->M α):M α:=match k7 (m9 lc.N) (E7 scope) with
 | some caps=>bind (nx (q.i lc (.Name x px) iter ρ λsm=>j6 sm.1 (λd=>testsK q (U4 lc scope [x]) ifs (some d :: a5y caps ρ)) (λd=>q.e (U4 lc scope [x]) elt (some d :: a5y caps ρ) ret) sm.2 0 [])) k
 | none=>bad
theorem a6a {r:Ev} {q:EvK} {lc:Lc} (h:EqK r q) (elt:Expr) (x:Str) (px:Pos) (iter:Expr) (ifs:List Expr) (scope:Scope) (ρ:Env) {α:Type} (k:List D->M α):a3z q lc elt x px iter ifs scope ρ k=bind (L9 r lc elt x px iter ifs scope ρ) k:=by
 unfold a3z L9
 cases k7 (m9 lc.N) (E7 scope) with
 | none=>rfl
 | some caps=>simp only [h.i,h.e,W1,tests_eq h,a93,a6i]
theorem b3z {T:Tx} {k:Nat} {r:Ev} {lc:Lc} {X:Cx} (R:EvOk T k r) (h:CxOk T k lc X) {elt:Expr} {x:Str} {px pos:Pos} {iter:Expr} {ifs:List Expr} {scope:Scope} (hc:U0 lc scope [x]=true) (hn:G2 iter=true) :
  PE X (.ListComp elt [⟨.Name x px,iter,ifs,0⟩] scope pos) (tD X.K T.cl (xOf X) λρ=>bind (L9 r lc elt x px iter ifs scope ρ) λds=>ret (.lst ds)):=by
 unfold L9
 cases hm:k7 (m9 lc.N) (E7 scope) with
 | none=>exact f9
 | some caps=>
  obtain ⟨t1,t2,t3,t4,t5⟩:=a2x h hc hm
  refine b91 (a5w t1 (h.calm t4) t2 rfl (t3 x (by simp)) (PI.x0 (R.ix h _ _)) (λpins C fp s H=>?_) (λpins C fp s H=>?_) hn)
  ·exact PTL.x0 (tests_ok R (a0l h t4 t5 t2 pins C fp s H))
  ·exact PE.x0 (R.ex (a0l h t4 t5 t2 pins C fp s H) elt)
noncomputable def c3x:RuE where
 is _ lc e:=match e with
  | .ListComp _ [⟨.Name x _,iter,_,0⟩] scope _=>U0 lc scope [x]&&G2 iter
  | _=>false
 run r _ _ lc e ρ:=match e with
  | .ListComp elt [⟨.Name x px,iter,ifs,0⟩] scope _=>bind (L9 r lc elt x px iter ifs scope ρ) λds=>ret (.lst ds)
  | _=>bad
 ok e R TX h hi:=by
  split at hi
  ·rw [Bool.and_eq_true] at hi
   exact b3z R h hi.1 hi.2
  ·cases hi
 runK q _ _ lc e ρ _ k:=match e with
  | .ListComp elt [⟨.Name x px,iter,ifs,0⟩] scope _=>a3z q lc elt x px iter ifs scope ρ λds=>k (.lst ds)
  | _=>bad
 eq e ρ _ k h:=by
  split
  ·simp only [a6a h,a7,j9]
  ·first
   | rfl
   | (rename_i hn;split;exact (hn _ _ _ _ _ _ _ rfl).elim;rfl)
noncomputable def c57 (m:Str) (e:Expr):Bool:=match e with
 | .Call (.Attribute o n apos) (a :: es) [] cpos=>decide (n=m)&&y3 o&&(a :: es).all noStar&&O3 (a :: es)&&(apos.endLine==cpos.line)
 | _=>false
theorem c05 {m:Str} {e:Expr} (h:c57 m e=true):∃ o apos a es cpos,e=.Call (.Attribute o m apos) (a :: es) [] cpos/\y3 o=true/\(a :: es).all noStar=true/\O3 (a :: es)=true/\(apos.endLine==cpos.line)=true:=by
 unfold c57 at h
 split at h
 ·simp only [Bool.and_eq_true,decide_eq_true_eq] at h
  obtain ⟨⟨⟨⟨rfl,h1⟩,h2⟩,h3⟩,h4⟩:=h
  exact ⟨_,_,_,_,_,rfl,h1,h2,h3,h4⟩
 ·cases h
noncomputable def mtE {α:Type} (g:D->M α) (op:D->List D->M D) (r:Ev) (lc:Lc) (e:Expr) (ρ:Env):M D:=match e with
 | .Call (.Attribute o _ _) (a :: es) [] _=>bind (r.e lc o ρ) λx=>bind (g x) λ_=>bind (A3 r lc (a :: es) ρ) λds=>op x ds
 | _=>bad
noncomputable def mtK {α:Type} (g:D->M α) (op:D->List D->M D) (q:EvK) (lc:Lc) (e:Expr) (ρ:Env) {β:Type} (k:D->M β):M β:=match e with
 | .Call (.Attribute o _ _) (a :: es) [] _=>q.e lc o ρ λx=>bind (g x) λ_=>D7 q lc (a :: es) ρ λds=>bind (op x ds) k
 | _=>bad
theorem c8d {α:Type} (g:D->M α) (op:D->List D->M D) {r:Ev} {q:EvK} {lc:Lc} (e:Expr) (ρ:Env) {β:Type} (k:D->M β) (h:EqK r q):mtK g op q lc e ρ k=bind (mtE g op r lc e ρ) k:=by
 unfold mtK mtE
 split
 ·simp only [h.e,u6 h,a7]
 ·first
  | rfl
  | (rename_i hn;split;exact (hn _ _ _ _ _ _ rfl).elim;rfl)
noncomputable def rMt {α:Type} (m:Str) (g:D->M α) (op:D->List D->M D)
  (ok:∀ {T:Tx} {k:Nat} {lc:Lc} {X:Cx} {xe:Addr->Hp->Prop} {o a:Expr} {es:List Expr} {apos cpos:Pos} {f:Env->M D} {fs:Env->M (List D)},CxOk T k lc X->PE X o (tD X.K T.cl xe f)->PA X (a :: es) (tDs X.K T.cl xe fs)->y3 o=true->(a :: es).all noStar=true->O3 (a :: es)=true->(apos.endLine==cpos.line)=true->PE X (.Call (.Attribute o m apos) (a :: es) [] cpos) (tD X.K T.cl xe λρ=>bind (f ρ) λx=>bind (g x) λ_=>bind (fs ρ) λds=>op x ds)):RuE where
 is _ _ e:=c57 m e
 run r _ _ lc e ρ:=mtE g op r lc e ρ
 ok {T k r Γ C lc X} e R TX h hi:=by
  obtain ⟨o,apos,a,es,cpos,rfl,c1,c2,c3,c4⟩:=c05 hi
  exact ok h (R.ex h o) (v8 R h c2) c1 c2 c3 c4
 runK q _ _ lc e ρ _ k:=mtK g op q lc e ρ k
 eq e ρ _ k h:=c8d g op e ρ k h
noncomputable def d3g:RuE:=rMt "get" dctOf getDD λh ho ha c1 c2 c3 c4=>a33 PySem.F.plainAttrs_dict PySem.F.slot_dict_get PySem.F.type_dict_get (b4j h.u1) a13 b4c ho ha c1 c2 c3 c4
noncomputable def c5y:RuE where
 is _ _ e:=match e with
  | .Call (.Attribute o n apos) [] [] cpos=>decide (n = "upper")&&y3 o&&(apos.endLine==cpos.line)
  | _=>false
 run r _ _ lc e ρ:=match e with
  | .Call (.Attribute o _ _) [] [] _=>bind (r.e lc o ρ) a1b
  | _=>bad
 ok {T k r Γ C lc X} e R TX h hi:=by
  split at hi
  ·simp only [Bool.and_eq_true,decide_eq_true_eq] at hi
   obtain ⟨⟨rfl,h1⟩,h2⟩:=hi
   exact b38 (R.ex h _) h1 h2
  ·cases hi
 runK q _ _ lc e ρ _ k:=match e with
  | .Call (.Attribute o _ _) [] [] _=>q.e lc o ρ λx=>bind (a1b x) k
  | _=>bad
 eq e ρ _ k h:=by
  split
  ·simp only [h.e,a7]
  ·first
   | rfl
   | (rename_i hn;split;exact (hn _ _ _ _ rfl).elim;rfl)
noncomputable def d0j:RuS where
 is _ _ e:=match e with
  | .Expr e _=>t7 e
  | _=>false
 run r _ _ lc e ρ:=match e with
  | .Expr e _=>bind (r.e lc e ρ) λ_=>ret (.nx ρ)
  | _=>bad
 ok e R TX h hf hi:=by
  cases e with
  | Expr e p=>exact b3a (R.ex h _) hi
  | _=>exact M3
 runK q _ _ lc e ρ _ k:=match e with
  | .Expr e _=>q.e lc e ρ λ_=>k (.nx ρ)
  | _=>bad
 eq e ρ _ k h:=by
  cases e with
  | Expr e p=>simp only [h.e,a7,j9]
  | _=>rfl
noncomputable def d2m:RuS where
 is _ _ e:=match e with
  | .Return (some _) _=>true
  | _=>false
 run r _ _ lc e ρ:=match e with
  | .Return (some e) _=>bind (r.e lc e ρ) λd=>ret (.rt d)
  | _=>bad
 ok e R TX h hf hi:=by
  split at hi
  ·exact c0y (R.ex h _)
  ·cases hi
 runK q _ _ lc e ρ _ k:=match e with
  | .Return (some e) _=>q.e lc e ρ λd=>k (.rt d)
  | _=>bad
 eq e ρ _ k h:=by
  split
  ·simp only [h.e,a7,j9]
  ·first
   | rfl
   | (rename_i hn;split;exact (hn _ _ rfl).elim;rfl)
noncomputable def sIf:RuS where
 is _ _ e:=match e with
  | .If _ _ _ _=>true
  | _=>false
 run r _ _ lc e ρ:=match e with
  | .If c a b _=>bind (r.t lc c ρ) λq=>if q=true then X8 r lc a ρ else X8 r lc b ρ
  | _=>bad
 ok e R TX h hf hi:=by
  cases e with
  | If c a b p=>exact c3n (R.tx h _) (Q7 R h hf) (Q7 R h hf)
  | _=>exact M3
 runK q _ _ lc e ρ _ k:=match e with
  | .If c a b _=>q.t lc c ρ λz=>if z=true then j0 q lc a ρ k else j0 q lc b ρ k
  | _=>bad
 eq e ρ _ k h:=by
  cases e with
  | If c a b p=>simp only [h.t,a19 h,a7,t8]
  | _=>rfl
noncomputable def b25 (lc:Lc) (x:Str):Bool:=(m9 lc.N x).isSome&&a2p lc.sc x
noncomputable def a2k (lc:Lc) (x:Str) (ρ:Env) (d:D):M Fl:=match m9 lc.N x with
 | some i=>ret (.nx (ρ.set i (some d)))
 | none=>bad
noncomputable def C7 (lc:Lc) (x:Str) (ρ:Env) (d:D) {α:Type} (k:Fl->M α):M α:=match m9 lc.N x with
 | some i=>k (.nx (ρ.set i (some d)))
 | none=>bad
theorem b2y (lc:Lc) (x:Str) (ρ:Env) (d:D) {α:Type} (k:Fl->M α):bind (a2k lc x ρ d) k=C7 lc x ρ d k:=by
 unfold a2k C7
 cases m9 lc.N x <;> rfl
theorem c24 {T:Tx} {k:Nat} {lc:Lc} {X:Cx} {xe:Addr->Hp->Prop} {x:Str} {p pos:Pos} {e:Expr} {f:Env->M D} (h:CxOk T k lc X) (hf:lc.fr=true) (hn:b25 lc x=true) (he:PE X e (tD X.K T.cl xe f)) (hc:t7 e=true):PS X (.Assign [.Name x p] e pos) (sD X.K T.cl xe λρ=>bind (f ρ) (a2k lc x ρ)):=by
 rw [b25,Bool.and_eq_true,Option.isSome_iff_exists] at hn
 obtain ⟨⟨i,hi⟩,hl⟩:=hn
 have:=b9w (pos:=pos) (pos':=p) h.nd' (by rw [h.N];exact v4 hi) (by rw [h.sc];exact O6 hl) he hc (.inl (h.fn1 hf))
 have e:a2k lc x=λρ d=>ret (.nx (ρ.set i (some d))):=by funext ρ d;simp only [a2k,hi]
 rw [e];exact this
noncomputable def d1q:RuS where
 is _ lc e:=match e with
  | .Assign [.Name x _] e _=>b25 lc x&&t7 e
  | _=>false
 run r _ _ lc e ρ:=match e with
  | .Assign [.Name x _] e _=>bind (r.e lc e ρ) (a2k lc x ρ)
  | _=>bad
 ok e R TX h hf hi:=by
  split at hi
  ·rw [Bool.and_eq_true] at hi
   exact c24 h hf hi.1 (R.ex h _) hi.2
  ·cases hi
 runK q _ _ lc e ρ _ k:=match e with
  | .Assign [.Name x _] e _=>q.e lc e ρ λd=>C7 lc x ρ d k
  | _=>bad
 eq e ρ _ k h:=by
  split
  ·simp only [h.e,a7,b2y]
  ·first
   | rfl
   | (rename_i hn;split;exact (hn _ _ _ _ rfl).elim;rfl)
noncomputable def swB (lc:Lc) (value:Expr) (scope:Scope) (t:Str) (pos:Pos):Bool:=lc.sc.names.lookup t==some .local&&pos.line==value.pos.line&&!(scope.names.any λ(n,k)=>n==t&&(k==.local||k==.cell))
theorem d1h {T:Tx} {k:Nat} {lc:Lc} {X:Cx} (h:CxOk T k lc X) (elt:Expr) (gens:List Comprehension) (scope:Scope) (x:Str) (pos' pos pos2:Pos):swapsWith (.ListComp elt gens scope pos2) (some (.Name x pos')) pos.line X.env=pure (swB lc (.ListComp elt gens scope pos2) scope x pos'):=by
 show pure (X.env.blockKind==.function&&X.env.kindOf x==some .local&&pos'.line==(Expr.ListComp elt gens scope pos2).pos.line&&!(scope.names.any λ(n,k)=>n==x&&(k==.local||k==.cell)))=_
 have hb:X.env.blockKind=.function:=by unfold PySem.Env.blockKind;rw [h.sc,h.kd];rfl
 have hk:X.env.kindOf x=lc.sc.names.lookup x:=by unfold PySem.Env.kindOf;rw [h.sc]
 rw [hb,hk]
 rfl
theorem b23 {T:Tx} {k i:Nat} {lc:Lc} {X:Cx} {x:Str} {p pos:Pos} {e:Expr} {fs:Env->M (List D)} {xe:Addr->Hp->Prop} (hi:m9 lc.N x=some i) (h:PS X (.Assign [.Name x p] e pos) (b7z (c1r X.K T.cl x0 fs) (a8a i))):PS X (.Assign [.Name x p] e pos) (sD X.K T.cl xe λρ=>bind (bind (nx (fs ρ)) λds=>ret (.lst ds)) (a2k lc x ρ)):=PS.imp h λD σ H ⟨μ,S,ρ,eo,rp,p⟩=>
 ⟨μ,S,ρ,eo,rp,p.bind.bind.nx.imp λds S1 μ1 H1 l1 r1 p1 acc ys hl rds=>by
  have p2:=p1.ret μ1 H1 (Lat.refl _ _) r1
  simp only [a2k,hi] at p2
  exact p2.ret μ1 H1 (Lat.refl _ _) r1 _ ((eo.later l1).set (.lst hl rds) i)⟩
noncomputable def b2z:RuS where
 is _ lc e:=match e with
  | .Assign [.Name x _] (.ListComp _ [⟨.Name y _,iter,_,0⟩] scope _) _=>b25 lc x&&U0 lc scope [y]&&G2 iter
  | _=>false
 run r _ _ lc e ρ:=match e with
  | .Assign [.Name x _] (.ListComp elt [⟨.Name y py,iter,ifs,0⟩] scope _) _=>bind (bind (L9 r lc elt y py iter ifs scope ρ) λds=>ret (.lst ds)) (a2k lc x ρ)
  | _=>bad
 ok {T k r Γ C lc X} e R TX h hf hi:=by
  split at hi
  ·rename_i x p elt y py iter ifs scope pos2 pos
   rw [Bool.and_eq_true,Bool.and_eq_true] at hi
   obtain ⟨⟨h1,hc⟩,hn⟩:=hi
   have h1':=h1
   rw [b25,Bool.and_eq_true,Option.isSome_iff_exists] at h1'
   obtain ⟨⟨i,hi⟩,hl⟩:=h1'
   have hi':X.N[i]?=some x:=by rw [h.N];exact v4 hi
   have hl':L2.Loc X.env.scope x:=by rw [h.sc];exact O6 hl
   have hff:X.fn x=true\/X.env.scope.names.lookup x=some .local:=.inl (h.fn1 hf)
   have sw:=d1h h elt [⟨.Name y py,iter,ifs,0⟩] scope x p pos pos2
   show PS X _ (sD X.K T.cl (xOf X) λρ=>bind (bind (L9 r lc elt y py iter ifs scope ρ) λds=>ret (.lst ds)) (a2k lc x ρ))
   unfold L9
   cases hm:k7 (m9 lc.N) (E7 scope) with
   | none=>exact PS.imp b3p λD σ H ⟨μ,S,ρ,eo,rp,p⟩=>p.bind.elim
   | some caps=>
    obtain ⟨t1,t2,t3,t4,t5⟩:=a2x h hc hm
    have e1:=λpins C fp s H=>PTL.x0 (tests_ok (ifs:=ifs) R (a0l h t4 t5 t2 pins C fp s H))
    have e2:=λpins C fp s H=>PE.x0 (R.ex (a0l h t4 t5 t2 pins C fp s H) elt)
    refine b23 (k:=k) hi ?_
    cases hb:swB lc (.ListComp elt [⟨.Name y py,iter,ifs,0⟩] scope pos2) scope x p with
    | false=>
     rw [hb] at sw
     exact b3g h.nd' hi' hl' (a5w t1 (h.calm t4) t2 rfl (t3 y (by simp)) (PI.x0 (R.ix h _ _)) e1 e2 hn) sw hff
    | true=>
     rw [hb] at sw
     exact PS.imp (a66 sw h.nd' hi' hl' hff t1 (h.calm t4) t2 rfl (t3 y (by simp)) (PI.x0 (R.ix h _ _)) e1 e2 (Y0 hn)) λD σ H ⟨μ,S,ρ,eo,rp,p⟩=>a0z eo rp p
  ·cases hi
 runK q _ _ lc e ρ _ k:=match e with
  | .Assign [.Name x _] (.ListComp elt [⟨.Name y py,iter,ifs,0⟩] scope _) _=>a3z q lc elt y py iter ifs scope ρ λds=>C7 lc x ρ (.lst ds) k
  | _=>bad
 eq e ρ _ k h:=by
  split
  ·simp only [a6a h,a7,j9,b2y]
  ·first
   | rfl
   | (rename_i hn;split;exact (hn _ _ _ _ _ _ _ _ _ _ rfl).elim;rfl)
noncomputable def n9 (lc:Lc):List Expr->Option (List Nat)
 | []=>some []
 | .Name x _ :: ts=>if a2p lc.sc x=true then (match m9 lc.N x,n9 lc ts with
   | some i,some is=>some (i :: is)
   | _,_=>none) else none
 | _=>none
theorem R6 {T:Tx} {k:Nat} {lc:Lc} {X:Cx} (h:CxOk T k lc X) (hf:lc.fr=true):∀ {ts:List Expr} {is:List Nat},n9 lc ts=some is->N9 X ts is
 | [],is,e=>by cases e;exact True.intro
 | t :: ts,is,e=>by
  cases t with
  | Name x p=>
   simp only [n9] at e
   by_cases hl:a2p lc.sc x=true
   ·simp only [if_pos hl] at e
    cases e1:m9 lc.N x with
    | none=>rw [e1] at e;cases e
    | some i=>
     cases e2:n9 lc ts with
     | none=>rw [e1,e2] at e;cases e
     | some is'=>
      rw [e1,e2] at e;cases e
      exact ⟨by rw [h.N];exact v4 e1,by rw [h.sc];exact O6 hl,.inl (h.fn1 hf),R6 h hf e2⟩
   ·simp only [if_neg hl] at e;cases e
  | _=>simp only [n9] at e;cases e
noncomputable def d2b:RuS where
 is _ lc e:=match e with
  | .Assign [.Tuple ts _ _] e _=>(n9 lc ts).isSome&&t7 e&&b6r e&&!quiet lc
  | _=>false
 run r _ _ lc e ρ:=match e with
  | .Assign [.Tuple ts _ _] e _=>(match n9 lc ts with
   | some is=>bind (r.e lc e ρ) λd=>C8 (k5 is) d ρ
   | none=>bad)
  | _=>bad
 ok {T k r Γ C lc X} e R TX h hf hi:=by
  split at hi
  ·rename_i ts n p e pos
   simp only [Bool.and_eq_true,Bool.not_eq_true'] at hi
   obtain ⟨⟨⟨h1,h2⟩,h3⟩,h4⟩:=hi
   show PS X _ (sD X.K T.cl (xOf X) λρ=>(match n9 lc ts with
    | some is=>bind (r.e lc e ρ) λd=>C8 (k5 is) d ρ
    | none=>bad))
   cases e1:n9 lc ts with
   | none=>exact M3
   | some is=>exact b82 (h.calm h4) h.nd' (R6 h hf e1) (R.ex h _) h2 h3
  ·cases hi
 runK q _ _ lc e ρ _ k:=match e with
  | .Assign [.Tuple ts _ _] e _=>(match n9 lc ts with
   | some is=>q.e lc e ρ λd=>bind (C8 (k5 is) d ρ) k
   | none=>bad)
  | _=>bad
 eq {r q Γ C lc} e ρ _ k h:=by
  split
  ·rename_i ts n p e pos
   cases n9 lc ts with
   | none=>rfl
   | some is=>simp only [h.e,a7]
  ·first
   | rfl
   | (rename_i hn;split;exact (hn _ _ _ _ _ rfl).elim;rfl)
noncomputable def c8a:RuS where
 is _ _ e:=match e with
  | .Assign [.Subscript _ b _] e _=>t7 e&&J2 b
  | _=>false
 run r _ _ lc e ρ:=match e with
  | .Assign [.Subscript a b _] e _=>bind (r.e lc e ρ) λv=>bind (r.e lc a ρ) λx=>bind (r.e lc b ρ) λy=>bind (T8 x y v) λ_=>ret (.nx ρ)
  | _=>bad
 ok e R TX h hf hi:=by
  split at hi
  ·rw [Bool.and_eq_true] at hi
   exact b6x h.u1 (R.ex h _) (R.ex h _) (R.ex h _) hi.1 hi.2
  ·cases hi
 runK q _ _ lc e ρ _ k:=match e with
  | .Assign [.Subscript a b _] e _=>q.e lc e ρ λv=>q.e lc a ρ λx=>q.e lc b ρ λy=>bind (T8 x y v) λ_=>k (.nx ρ)
  | _=>bad
 eq e ρ _ k h:=by
  split
  ·simp only [h.e,a7,j9]
  ·first
   | rfl
   | (rename_i hn;split;exact (hn _ _ _ _ _ rfl).elim;rfl)
noncomputable def tgE (lc:Lc) (tgt:Expr):Option (D->Env->Option Env):=match tgt with
 | .Name x _=>if a2p lc.sc x=true then (m9 lc.N x).map λi=>λd ρ=>some (ρ.set i (some d)) else none
 | .Tuple ts _ _=>(n9 lc ts).map k5
 | _=>none
theorem c7e {T:Tx} {k:Nat} {lc:Lc} {X:Cx} (h:CxOk T k lc X) (hf:lc.fr=true) (hq:quiet lc=false) {tgt:Expr} {tg:D->Env->Option Env} (e:tgE lc tgt=some tg):PG X tgt (b86 X.K T.cl tg):=by
 unfold tgE at e
 split at e
 ·rename_i x p
  by_cases hl:a2p lc.sc x=true
  ·simp only [if_pos hl] at e
   cases e1:m9 lc.N x with
   | none=>rw [e1] at e;cases e
   | some i=>rw [e1] at e;cases e;exact b5v h.nd' (by rw [h.N];exact v4 e1) (by rw [h.sc];exact O6 hl) (.inl (h.fn1 hf))
  ·simp only [if_neg hl] at e;cases e
 ·rename_i ts n p
  cases e1:n9 lc ts with
  | none=>rw [e1] at e;cases e
  | some is=>rw [e1] at e;cases e;exact a4l (h.calm hq) h.nd' (R6 h hf e1)
 ·cases e
noncomputable def d2j:RuS where
 is _ lc e:=match e with
  | .For _ iter _ [] _=>G2 iter&&!quiet lc
  | _=>false
 run r _ _ lc e ρ:=match e with
  | .For tgt iter body [] _=>(match tgE lc tgt with
   | some tg=>bind (r.i lc tgt iter ρ) λp=>p9 p.1 tg (X8 r lc body) p.2 0 ρ
   | none=>bad)
  | _=>bad
 ok {T k r Γ C lc X} e R TX h hf hi:=by
  split at hi
  ·rename_i tgt iter body pos
   simp only [Bool.and_eq_true,Bool.not_eq_true'] at hi
   show PS X _ (sD X.K T.cl (xOf X) λρ=>(match tgE lc tgt with
    | some tg=>bind (r.i lc tgt iter ρ) λp=>p9 p.1 tg (X8 r lc body) p.2 0 ρ
    | none=>bad))
   cases e:tgE lc tgt with
   | none=>exact M3
   | some tg=>exact b81 h.po (h.calm hi.2) (R.ix h _ _) (c7e h hf hi.2 e) (Q7 R h hf) hi.1
  ·cases hi
 runK q _ _ lc e ρ _ k:=match e with
  | .For tgt iter body [] _=>(match tgE lc tgt with
   | some tg=>q.i lc tgt iter ρ λp=>bind (p9 p.1 tg (λρ'=>j0 q lc body ρ' ret) p.2 0 ρ) k
   | none=>bad)
  | _=>bad
 eq {r q Γ C lc} e ρ _ k h:=by
  split
  ·rename_i tgt iter body pos
   cases tgE lc tgt with
   | none=>rfl
   | some tg=>
    have:(λρ'=>j0 q lc body ρ' ret)=X8 r lc body:=funext λρ'=>by rw [a19 h,W1]
    simp only [h.i,a7,this]
  ·first
   | rfl
   | (rename_i hn;split;exact (hn _ _ _ _ rfl).elim;rfl)
theorem b5j {env:PySem.Env} {ts es:List Expr} {k k2:Nat} {p p2:Pos} (h:es.all (foldedForSure 8)=true):swappedStores [.Tuple ts k p] (.Tuple es k2 p2) env=pure none:=by
 unfold swappedStores
 simp only
 repeat' (first | rfl | split)
 all_goals (rename_i h2;first | exact absurd h h2 | rfl)
noncomputable def d0s:RuS where
 is _ lc e:=match e with
  | .Assign [.Tuple ts _ _] (.Tuple es _ _) _=>(n9 lc ts).isSome&&es.all (foldedForSure 8)&&!quiet lc
  | _=>false
 run r _ _ lc e ρ:=match e with
  | .Assign [.Tuple ts _ _] (.Tuple es k p) _=>(match n9 lc ts with
   | some is=>bind (r.e lc (.Tuple es k p) ρ) λd=>C8 (k5 is) d ρ
   | none=>bad)
  | _=>bad
 ok {T k r Γ C lc X} e R TX h hf hi:=by
  split at hi
  ·rename_i ts n p es k2 p2 pos
   simp only [Bool.and_eq_true,Bool.not_eq_true'] at hi
   obtain ⟨⟨h1,h2⟩,h4⟩:=hi
   show PS X _ (sD X.K T.cl (xOf X) λρ=>(match n9 lc ts with
    | some is=>bind (r.e lc (.Tuple es k2 p2) ρ) λd=>C8 (k5 is) d ρ
    | none=>bad))
   cases e1:n9 lc ts with
   | none=>exact M3
   | some is=>
    exact PS.imp (a6y (R.ex h _) (a4l (cl:=T.cl) (h.calm h4) h.nd' (R6 h hf e1)) (by unfold swapsWithSole;exact B5 rfl) (b5j h2) rfl) λD σ H ⟨μ,S,ρ,eo,rp,p⟩=>
     ⟨μ,S,ρ,eo,rp,p.bind.imp λd S1 μ1 H1 l1 r1 p1 v rv=>by
      cases e1:k5 is d ρ with
      | none=>simp only [C8,e1] at p1;exact p1.elim
      | some ρ'=>simp only [C8,e1] at p1;exact ⟨μ1,S1,ρ,d,ρ',eo.later l1,r1,rv,e1,p1.ret μ1 H1 (Lat.refl _ _) r1⟩⟩
  ·cases hi
 runK q _ _ lc e ρ _ k:=match e with
  | .Assign [.Tuple ts _ _] (.Tuple es k2 p) _=>(match n9 lc ts with
   | some is=>q.e lc (.Tuple es k2 p) ρ λd=>bind (C8 (k5 is) d ρ) k
   | none=>bad)
  | _=>bad
 eq {r q Γ C lc} e ρ _ k h:=by
  split
  ·rename_i ts n p es k2 p2 pos
   cases n9 lc ts with
   | none=>rfl
   | some is=>simp only [h.e,a7]
  ·first
   | rfl
   | (rename_i hn;split;exact (hn _ _ _ _ _ _ _ rfl).elim;rfl)
def PB (X:Cx) (cl:Nat->Addr) (st:Stmt) (g:Env->M Fl):Prop:=∀ (pins:List (Addr×Obj)) (s:Shared) (σ:L2.St) (H:Hp) (D:Ends) (F:Addr->Hp->Prop),L2.Inv X pins σ H s->sD X.K cl F g D σ H ->
 wpAny (model X.prog X.w) X.A (exec st X.env) (SP X pins D) (c1y X pins σ F) s
noncomputable def a9y (ie:Option Nat) (fl:Fl):Fl:=match ie with
 | none=>fl
 | some i=>match fl with
  | .nx ρ=>.nx (ρ.set i none)
  | .bk ρ=>.bk (ρ.set i none)
  | .ct ρ=>.ct (ρ.set i none)
  | .rt d=>.rt d
noncomputable def b27 (ie:Option Nat) (n:Nat) (ρ:Env):Env:=match ie with
 | none=>ρ
 | some i=>ρ.set i (some (.ref n))
noncomputable def a0y (g:Env->M Fl) (sub:Nat->Bool) (ie:Option Nat) (h:Env->M Fl) (ρ:Env):M Fl:=λS=>match g ρ S with
 | .exn n S1=>(match S1[n]? with
  | some (.exc c _)=>if sub c=true then bind (nx (h (b27 ie n ρ))) (λfl=>ret (a9y ie fl)) S1 else .bad
  | _=>.bad)
 | r=>r
section
variable {X:Cx} {cl:Nat->Addr} {e:Expr} {f:Env->M D} {pos:Pos} {st:Stmt} {g:Env->M Fl}
theorem c0k (h:PX X cl e f) (hn:t7 e=true):PB X cl (.Expr e pos) λρ=>bind (f ρ) λ_=>ret (.nx ρ):=by
 intro pins s σ H D F I ⟨μ,S,ρ,eo,rp,p⟩
 exact wpAny_Expr_any (thn (h pins s σ H (λ_ H1=>D.nx σ H1) F I ⟨μ,S,ρ,eo,rp,p.bind.imp λd S1 μ1 H1 l1 r1 p1 v rv=>p1.ret μ1 H1 (Lat.refl _ _) r1 σ (eo.later l1)⟩) λv s1 ⟨x,H1,I1,r1,q1⟩=>⟨σ,H1,I1,q1⟩) I.quiet (B5 hn)
theorem c29 (h:PX X cl e f):PB X cl (.Return (some e) pos) λρ=>bind (f ρ) λd=>ret (.rt d):=by
 intro pins s σ H D F I ⟨μ,S,ρ,eo,rp,p⟩
 exact wpAny_Return_some (thn (h pins s σ H D.rt F I ⟨μ,S,ρ,eo,rp,p.bind.imp λd S1 μ1 H1 l1 r1 p1 v rv=>p1.ret μ1 H1 (Lat.refl _ _) r1 v rv⟩) λv s1 ⟨x,H1,I1,r1,q1⟩=>⟨x,σ,H1,I1,r1,q1⟩)
theorem c3d {i:Nat} {x:Str} {pos':Pos} (hN:X.N.Nodup) (hi:X.N[i]?=some x) (hx:Loc X.env.scope x) (h:PX X cl e f) (hn:t7 e=true) (hf:X.fn x=true\/X.env.scope.names.lookup x=some .local) :
  PB X cl (.Assign [.Name x pos'] e pos) λρ=>bind (f ρ) λd=>ret (.nx (ρ.set i (some d))):=by
 intro pins s σ H D F I ⟨μ,S,ρ,eo,rp,p⟩
 exact wpAny_Assign_Name (thn (h pins s σ H (λv H1=>D.nx (σ.set i (some v)) H1) F I ⟨μ,S,ρ,eo,rp,p.bind.imp λd S1 μ1 H1 l1 r1 p1 v rv=>p1.ret μ1 H1 (Lat.refl _ _) r1 _ ((eo.later l1).set rv i)⟩) λv s1 ⟨y,H1,I1,r1,q1⟩=>U7 I1 hN hi hx r1 (λs2 I2=>⟨_,H1,I2,q1⟩) hf) (B5 hn)
theorem EnvOk.setN {K:PySem.W.Frag} {μ:Mp} {H:Hp} {ρ:Env} {σ:L2.St} (h:EnvOk K μ H ρ σ) (i:Nat):EnvOk K μ H (ρ.set i none) (σ.set i none):=by
 refine ⟨by simp [h.1],λj d e=>?_⟩
 by_cases hij:i=j
 ·subst hij
  have hi:i<ρ.length:=by simpa using (List.getElem?_eq_some_iff.mp e).1
  rw [List.getElem?_set_self hi] at e;cases e
 ·rw [List.getElem?_set_ne hij] at e
  obtain ⟨v,q,r⟩:=h.2 j d e
  exact ⟨v,by rw [List.getElem?_set_ne hij];exact q,r⟩
noncomputable def a8j (ie:Option Nat) (D:Ends):Ends:=match ie with
 | none=>D
 | some i=>{ nx:=λσ H=>D.nx (σ.set i none) H,rt:=D.rt,bk:=λσ H=>D.bk (σ.set i none) H,ct:=λσ H=>D.ct (σ.set i none) H }
theorem FlOk.goes {K:PySem.W.Frag} {D:Ends} {ie:Option Nat} {fl:Fl} {μ:Mp} {H:Hp} (h:FlOk K D (a9y ie fl) μ H):FlOk K (a8j ie D) fl μ H:=by
 cases ie with
 | none=>exact h
 | some i=>
  cases fl with
  | nx ρ=>exact λσ eo=>h _ (eo.setN i)
  | bk ρ=>exact λσ eo=>h _ (eo.setN i)
  | ct ρ=>exact λσ eo=>h _ (eo.setN i)
  | rt d=>exact h
structure TryAt (X:Cx) (nm:Option Str) (ie:Option Nat):Prop where
 nd:X.N.Nodup
 ex:(nm=none/\ie=none)\/∃ x i,nm=some x/\ie=some i/\X.N[i]?=some x/\X.env.scope.names.lookup x=some .local
theorem c2f {nm:Option Str} {ie:Option Nat} {Tn:Str} {c0:Nat} {b0:Stmt} {suite:List Stmt} {hp tp:Pos} {sub:Nat->Bool} {h:Env->M Fl} (hst:X.stack=X.env :: X.outer) (hfr:X.env.frame=some X.env.locals) (hb:PB X cl st g)
  (hg:Gl X Tn) (hm:X.mg Tn=some (.ref (cl c0))) (hdb:(Tn==("__debug__" : Str))=false) (MT:XC X.K (cl c0)) (hk:∀ c,XC X.K (cl c)->PySem.W.kitOne X.K (.ref (cl c)) (.ref (cl c0))=some (sub c))
  (ta:TryAt X nm ie) (hs:∀ v,PSs (a2c X v) (b0 :: suite) (sD X.K cl x0 h)) :
  PS X (.Try [st] [.ExceptHandler (some (.Name Tn tp)) nm (b0 :: suite) hp] [] [] pos) (sD X.K cl (xOf X) (a0y g sub ie h)):=by
 intro pins s σ H D I ⟨μ,S,ρ,eo,rp,p⟩
 rw [arm_exec_Try]
 have hpost:sD X.K cl (λa H1=>∃ n S1 μ1,g ρ S=.exn n S1/\Lat μ H μ1 H1/\Rep X.K cl μ1 S1 H1/\μ1.pl[n]?=some a) g D σ H:=⟨μ,S,ρ,eo,rp,by
  unfold a0y at p
  cases e:g ρ S with
  | ok fl S1=>rw [e] at p;exact p
  | exn n S1=>exact λμ' H' a l r q=>⟨n,S1,μ',rfl,l,r,q⟩
  | bad=>rw [e] at p;exact p⟩
 refine wpAny_bind (wpAny_standAt (wpAny_tryStmt_except (wpAny_execs_cons (wpAny_mono (hb pins s σ H D _ I hpost) (λf s1 q=>?_) λev s1 fl=>?_))))
 ·cases f with
  | next=>exact wpAny_execs_nil (wpAny_execs_nil q)
  | ret v=>exact q
  | brk=>exact q
  | cont=>exact q
 ·obtain ⟨a,H1,C,d,tb,he,I1,fx,n,S1,μ1,eg,l1,r1,e1⟩:=fl
  subst he
  refine a8o I1 I1.ok.frames hst hfr fx λH2 s2 T I2 fx2 m2=>N4 I2 fx2 λs3 I3=>?_
  obtain ⟨l2,r2⟩:=r1.mv I1.hok e1 fx.at_ m2
  unfold a0y at p
  rw [eg] at p
  simp only at p
  cases eo1:S1[n]? with
  | none=>rw [eo1] at p;exact p.elim
  | some o=>
   rw [eo1] at p
   cases o with
   | lst _=>exact p.elim
   | dct _=>exact p.elim
   | exc c fs=>
    simp only at p
    by_cases hsub:sub c=true
    case neg=>rw [if_neg hsub] at p;exact p.elim
    rw [if_pos hsub] at p
    have ec:=(b3q I1.hok (r1.ats n _ a eo1 e1) fx.at_ fx.tb_).1
    have hkc:=hk c (ec▸fx.xc)
    rw [<- ec,hsub] at hkc
    have J3:=I3.hushed (.ref a)
    have p':=(Post.later p (l1.trans l2)).bind.nx (xe':=x0)
    have post:∀ σ',EnvOk X.K μ1 H2 (b27 ie n ρ) σ'->sD X.K cl x0 h (a8j ie D) σ' H2:=λσ' eo'=>⟨μ1,S1,_,eo',r2,p'.imp λfl S2 μ2 H3 l3 r3 p3=>FlOk.goes (p3.ret μ2 H3 (Lat.refl _ _) r3)⟩
    refine wpAny_handleBy_cons (codeAny_handlers_test (G5 (X:=a2c X (.ref a)) J3 hg hm ?_ hdb)) (by intro z;cases z)
    refine a7p J3.kIn fx2.xc MT (fx2.isX (X:=a2c X (.ref a)) J3) hkc ?_
    rcases ta.ex with ⟨rfl,rfl⟩ | ⟨x,i,rfl,rfl,hi,hl⟩
    ·refine codeAny_handlers_suite (N4 (X:=a2c X (.ref a)) J3 fx2 λs4 J4=>?_)
     refine wpAny_mono (hs (.ref a) pins s4 σ H2 (a8j none D) J4 (post σ (eo.later (l1.trans l2)))) (λf s5 q=>?_) λ_ _ z=>False.elim z
     cases f with
     | next=>obtain ⟨σ',H',J,q⟩:=q;exact ⟨σ',H',J.unhush I.ok,q⟩
     | brk=>obtain ⟨σ',H',J,q⟩:=q;exact ⟨σ',H',J.unhush I.ok,q⟩
     | cont=>obtain ⟨σ',H',J,q⟩:=q;exact ⟨σ',H',J.unhush I.ok,q⟩
     | ret u=>obtain ⟨v,σ',H',J,r,q⟩:=q;exact ⟨v,σ',H',J.unhush I.ok,r,q⟩
    ·refine codeAny_handlers_suite_as (N4 (X:=a2c X (.ref a)) J3 fx2 λs4 J4=>?_)
     refine U7 (X:=a2c X (.ref a)) (v:=.ref a) J4 ta.nd hi (.inl hl) rfl (λs5 J5=>?_) (.inr hl)
     refine wpAny_mono (hs (.ref a) pins s5 _ H2 (a8j (some i) D) J5 (post _ ((eo.later (l1.trans l2)).set (.ref e1) i))) (λf s6 q=>?_) λ_ _ z=>False.elim z
     cases f with
     | next=>obtain ⟨σ',H',J,q⟩:=q;exact a0g (J.unhush I.ok) ta.nd hi hl λs7 I7=>⟨_,H',I7,q⟩
     | brk=>obtain ⟨σ',H',J,q⟩:=q;exact a0g (J.unhush I.ok) ta.nd hi hl λs7 I7=>⟨_,H',I7,q⟩
     | cont=>obtain ⟨σ',H',J,q⟩:=q;exact a0g (J.unhush I.ok) ta.nd hi hl λs7 I7=>⟨_,H',I7,q⟩
     | ret u=>obtain ⟨v,σ',H',J,r,q⟩:=q;exact a0g (J.unhush I.ok) ta.nd hi hl λs7 I7=>⟨v,_,H',I7,r,q⟩
end
noncomputable def c58:RuS where
 is Γ lc e:=match e with
  | .Raise (some (.Call (.Name x _) (a :: es) [] _)) none _=>u5 x&&glB lc.sc x&&(a :: es).all noStar&&!quiet lc
  | _=>false
 run r Γ _ lc e ρ:=match e with
  | .Raise (some (.Call (.Name x _) (a :: es) [] _)) none _=>bind (b1q r Γ lc x (a :: es) ρ) w5
  | _=>bad
 ok {T k r Γ C lc X} e R TX h hf hi:=by
  split at hi
  ·simp only [Bool.and_eq_true,Bool.not_eq_true'] at hi
   exact b6o (h.calm hi.2) (a78 R TX h hi.1.1.1 hi.1.1.2 hi.1.2 hi.2)
  ·cases hi
 runK q Γ _ lc e ρ _ k:=match e with
  | .Raise (some (.Call (.Name x _) (a :: es) [] _)) none _=>b92 q Γ lc x (a :: es) ρ λd=>bind (w5 d) k
  | _=>bad
 eq {r q Γ C lc} e ρ _ k h:=by
  split
  ·simp only [b2v h,a7]
  ·first
   | rfl
   | (rename_i hn;split;exact (hn _ _ _ _ _ _ rfl).elim;rfl)
noncomputable def isR (Γ:Gm):Expr->Bool
 | .Call (.Name x _) (_ :: _) [] _=>c0d Γ x λi _=>decide (i∉Γ.qs)
 | _=>false
noncomputable def b40 (r:Ev) (Γ:Gm) (C:Cf) (lc:Lc) (x:Str) (es:List Expr) (ρ:Env):M D:=if u5 x=true/\glB lc.sc x=true/\es.all noStar=true then (match Γ.gl.lookup x with
 | some (.fn i n)=>bind (nx (A3 r lc es ρ)) λds=>if ds.length=n then C i ds else bad
 | _=>bad) else bad
noncomputable def eB (r:Ev) (Γ:Gm) (C:Cf) (lc:Lc) (e:Expr) (ρ:Env):M D:=if isR Γ e=true then (match e with
 | .Call (.Name x _) es [] _=>b40 r Γ C lc x es ρ
 | _=>bad) else nx (r.e lc e ρ)
noncomputable def b2e (q:EvK) (Γ:Gm) (C:Cf) (lc:Lc) (x:Str) (es:List Expr) (ρ:Env):M D:=if u5 x=true/\glB lc.sc x=true/\es.all noStar=true then (match Γ.gl.lookup x with
 | some (.fn i n)=>bind (nx (D7 q lc es ρ ret)) λds=>if ds.length=n then C i ds else bad
 | _=>bad) else bad
noncomputable def eBK (q:EvK) (Γ:Gm) (C:Cf) (lc:Lc) (e:Expr) (ρ:Env):M D:=if isR Γ e=true then (match e with
 | .Call (.Name x _) es [] _=>b2e q Γ C lc x es ρ
 | _=>bad) else nx (q.e lc e ρ ret)
theorem c95 {r:Ev} {q:EvK} {Γ:Gm} {C:Cf} {lc:Lc} (h:EqK r q) (e:Expr) (ρ:Env):eBK q Γ C lc e ρ=eB r Γ C lc e ρ:=by
 unfold eBK eB b2e b40
 simp only [u6 h,h.e,W1]
theorem c9z {T:Tx} {k:Nat} {r:Ev} {Γ:Gm} {C:Cf} {lc:Lc} {X:Cx} (R:EvOk T k r) (TX:TxOk T Γ k C) (h:CxOk T k lc X) (hq:quiet lc=false) (e:Expr):PX X T.cl e (eB r Γ C lc e):=by
 have pbad:PX X T.cl e λ_=>bad:=λ_ _ _ _ _ _ _ ⟨_,_,_,_,_,z⟩=>z.elim
 unfold eB
 by_cases hr:isR Γ e=true
 ·simp only [if_pos hr]
  unfold isR at hr
  split at hr
  ·rename_i x p e0 es pos
   obtain ⟨i,n,e1,hi⟩:=a9h hr
   simp only
   unfold b40
   by_cases hc:u5 x=true/\glB lc.sc x=true/\(e0 :: es).all noStar=true
   ·simp only [if_pos hc,e1]
    obtain ⟨c1,c2,c3⟩:=hc
    obtain ⟨n1,n2,n3⟩:=u9 c1
    obtain ⟨a,fd,ps,f1,f2,f3,f4,f5⟩:=(TX.fn x i n e1 (of_decide_eq_true hi)).ex
    exact b7h f1 (by rw [h.prog,h.w,h.K,h.mg,h.base];exact f2) (h.room0 hq) (h.gl c2) (by rw [h.mg];exact f3) (by rw [h.K];exact f4) (by rw [h.K];exact f5) (PA.x0 (v8 R h.nox c3)) n1 c3
   ·simp only [if_neg hc];exact pbad
  ·cases hr
 ·simp only [if_neg hr]
  exact PX.of (PE.x0 (R.ex h.nox e))
noncomputable def bX (g:Expr->Env->M D) (lc:Lc) (st:Stmt) (ρ:Env):M Fl:=match st with
 | .Expr e _=>if t7 e=true then bind (g e ρ) λ_=>ret (.nx ρ) else bad
 | .Return (some e) _=>bind (g e ρ) λd=>ret (.rt d)
 | .Assign [.Name x _] e _=>(match m9 lc.N x with
  | some i=>if a2p lc.sc x=true/\t7 e=true then bind (g e ρ) λd=>ret (.nx (ρ.set i (some d))) else bad
  | none=>bad)
 | _=>bad
theorem c8o {T:Tx} {k:Nat} {lc:Lc} {X:Cx} {g:Expr->Env->M D} (h:CxOk T k lc X) (hf:lc.fr=true) (hg:∀ e,PX X T.cl e (g e)) (st:Stmt):PB X T.cl st (bX g lc st):=by
 have pbad:PB X T.cl st λ_=>bad:=λ_ _ _ _ _ _ _ ⟨_,_,_,_,_,z⟩=>z.elim
 unfold bX
 split
 ·rename_i e p
  by_cases hn:t7 e=true
  ·simp only [if_pos hn];exact c0k (hg e) hn
  ·simp only [if_neg hn];exact pbad
 ·exact c29 (hg _)
 ·rename_i x p' e p
  cases hi:m9 lc.N x with
  | none=>exact pbad
  | some i=>
   by_cases hl:a2p lc.sc x=true/\t7 e=true
   ·simp only [if_pos hl]
    exact c3d h.nd' (by rw [h.N];exact v4 hi) (by rw [h.sc];exact O6 hl.1) (hg e) hl.2 (.inl (h.fn1 hf))
   ·simp only [if_neg hl];exact pbad
 ·exact pbad
noncomputable def nmI (lc:Lc) (nm:Option Str):Option (Option Nat):=match nm with
 | none=>some none
 | some x=>match m9 lc.N x with
  | some i=>if lc.sc.names.lookup x=some .local then some (some i) else none
  | none=>none
noncomputable def K5 (lc:Lc):Lc:=⟨lc.N,lc.sc,lc.fr,"~" :: lc.mu⟩
theorem CxOk.hushed {T:Tx} {k:Nat} {lc:Lc} {X:Cx} (h:CxOk T k lc X) (v:Value):CxOk T k (K5 lc) (a2c X v):=by
 have hq:quiet (K5 lc)=true:=by simp [quiet,K5]
 exact ⟨h.prog,h.w,h.K,h.mg,h.base,h.N,h.nd,h.sc,λz=>(by rw [hq] at z;exact absurd z (by decide)),⟨λz=>(by rw [hq] at z;exact absurd z (by decide)),h.room.dp,h.room.un,h.room.gd⟩,PassesOwn.never,h.fn,h.kd,λ_ z=>(by rw [hq] at z;exact absurd z (by decide))⟩
noncomputable def c1n (Γ:Gm) (lc:Lc) (e:Stmt):Bool:=match e with
 | .Try [_] [.ExceptHandler (some (.Name Tn _)) nm (_ :: _) _] [] [] _=>u5 Tn&&glB lc.sc Tn&&!quiet lc&&b37 Γ Tn&&(nmI lc nm).isSome
 | _=>false
noncomputable def d0l (g:Ev->Gm->Cf->Lc->Expr->Env->M D) (r:Ev) (Γ:Gm) (C:Cf) (lc:Lc) (e:Stmt) (ρ:Env):M Fl:=match e with
 | .Try [st] [.ExceptHandler (some (.Name Tn _)) nm (b0 :: suite) _] [] [] _=>(match Γ.gl.lookup Tn,nmI lc nm with
  | some (.err c0 _),some ie=>a0y (bX (g r Γ C lc) lc st) (λc=>Γ.sub c c0) ie (X8 r (K5 lc) (b0 :: suite)) ρ
  | _,_=>bad)
 | _=>bad
noncomputable def d0x (g:EvK->Gm->Cf->Lc->Expr->Env->M D) (q:EvK) (Γ:Gm) (C:Cf) (lc:Lc) (e:Stmt) (ρ:Env) {α:Type} (k:Fl->M α):M α:=match e with
 | .Try [st] [.ExceptHandler (some (.Name Tn _)) nm (b0 :: suite) _] [] [] _=>(match Γ.gl.lookup Tn,nmI lc nm with
  | some (.err c0 _),some ie=>bind (a0y (bX (g q Γ C lc) lc st) (λc=>Γ.sub c c0) ie (λρ'=>j0 q (K5 lc) (b0 :: suite) ρ' ret) ρ) k
  | _,_=>bad)
 | _=>bad
noncomputable def d0o (g:Ev->Gm->Cf->Lc->Expr->Env->M D) (gK:EvK->Gm->Cf->Lc->Expr->Env->M D) (hg:∀ {T:Tx} {k:Nat} {r:Ev} {Γ:Gm} {C:Cf} {lc:Lc} {X:Cx},EvOk T k r->TxOk T Γ k C->CxOk T k lc X->quiet lc=false->∀ e,PX X T.cl e (g r Γ C lc e))
  (hk:∀ {r:Ev} {q:EvK} {Γ:Gm} {C:Cf} {lc:Lc},EqK r q->∀ e ρ,gK q Γ C lc e ρ=g r Γ C lc e ρ):RuS where
 is:=c1n
 run r Γ C lc e ρ:=d0l g r Γ C lc e ρ
 ok {T k r Γ C lc X} e R TX h hf hi:=by
  unfold c1n at hi
  split at hi
  ·rename_i st Tn tp nm b0 suite hp pos
   simp only [Bool.and_eq_true,Bool.not_eq_true'] at hi
   obtain ⟨⟨⟨⟨c1,c2⟩,c3⟩,c4⟩,c5⟩:=hi
   obtain ⟨n1,n2,n3⟩:=u9 c1
   obtain ⟨hst,hfr⟩:=h.own hf c3
   show PS X _ (sD X.K T.cl (xOf X) λρ=>(match Γ.gl.lookup Tn,nmI lc nm with
    | some (.err c0 _),some ie=>a0y (bX (g r Γ C lc) lc st) (λc=>Γ.sub c c0) ie (X8 r (K5 lc) (b0 :: suite)) ρ
    | _,_=>bad))
   unfold b37 at c4
   split at c4
   ·rename_i c0 fs e
    rw [e]
    obtain ⟨ea,na⟩:=TX.err Tn c0 fs e
    cases hi:nmI lc nm with
    | none=>exact M3
    | some ie=>
     have ta:TryAt X nm ie:=by
      refine ⟨h.nd',?_⟩
      unfold nmI at hi
      split at hi
      ·cases hi;exact .inl ⟨rfl,rfl⟩
      ·rename_i x
       split at hi
       ·rename_i i e1
        split at hi
        ·rename_i hl
         cases hi
         exact .inr ⟨x,i,rfl,rfl,by rw [h.N];exact v4 e1,by rw [h.sc];exact hl⟩
        ·cases hi
       ·cases hi
     exact c2f (c0:=c0) hst hfr (c8o h hf (hg R TX h c3) st) (h.gl c2) (by rw [h.mg];exact ea.mg_) n1 (by rw [h.K];exact ea.xc) (λc xc=>by rw [h.K] at xc ⊢;exact TX.sub Tn c c0 fs e xc) ta λv=>PSs.x0 (Q7 (X:=a2c X v) R (h.hushed v) hf)
   ·cases c4
  ·cases hi
 runK q Γ C lc e ρ _ k:=d0x gK q Γ C lc e ρ k
 eq {r q Γ C lc} e ρ _ k h:=by
  unfold d0x d0l
  split
  ·rename_i st Tn tp nm b0 suite hp pos
   have e1:(λρ'=>j0 q (K5 lc) (b0 :: suite) ρ' ret)=X8 r (K5 lc) (b0 :: suite):=funext λρ'=>by rw [a19 h,W1]
   have e2:gK q Γ C lc=g r Γ C lc:=funext λe=>funext λρ=>hk h e ρ
   rw [e1,e2]
   cases Γ.gl.lookup Tn with
   | none=>rfl
   | some z=>
    cases z with
    | err c fs=>cases nmI lc nm <;> rfl
    | _=>rfl
  ·first
   | rfl
   | (rename_i hn;split;exact (hn _ _ _ _ _ _ _ _ rfl).elim;rfl)
noncomputable def d17:RuS:=d0o (λr Γ C lc e ρ=>eB r Γ C lc e ρ) (λq Γ C lc e ρ=>eBK q Γ C lc e ρ) (λR TX h hq e=>c9z R TX h hq e) (λh e ρ=>c95 h e ρ)
structure Fd where
 ps:List Str
 N:List Str
 sc:Scope
 body:List Stmt
 mu:List Str
noncomputable def X4 (N:List Str) (ds:List D):Env:=ds.map some++List.replicate (N.length-ds.length) none
noncomputable def endD (fl:Fl):M D:=match fl with
 | .rt d=>ret d
 | .nx _=>ret .non
 | _=>bad
noncomputable abbrev w8 (fd:Fd):Lc:=⟨fd.N,fd.sc,true,fd.mu⟩
noncomputable def P7 (Rs:Rules) (Γ:Gm) (Tb:List Fd):Nat->Nat->List D->M D
 | 0,_,_=>bad
 | k+1,i,ds=>match Tb[i]? with
  | none=>bad
  | some fd=>if ds.length=fd.ps.length then bind (X8 (ev Rs Γ (P7 Rs Γ Tb k) 40) (w8 fd) fd.body (X4 fd.N ds)) endD else bad
structure FnTx (T:Tx) (x:Str) (fd:Fd):Prop where
 ex:∃ (f:Addr) (da:FuncData) (qual:Str) (st:Stmt),Fun T.K x qual st f da/\i8 st=fd.body/\b9 st=fd.sc/\FnScope fd.N fd.ps fd.sc/\Binds T.K da fd.ps []/\T.mg x=some (.ref f)
theorem a5i {K:PySem.W.Frag} {μ:Mp} {H:Hp} {N:List Str} {ds:List D} {vs:List V} (r:RDs K μ H ds vs):EnvOk K μ H (X4 N ds) (L2.start N vs):=by
 unfold X4 L2.start
 refine ⟨by simp [r.length],λi d e=>?_⟩
 by_cases hi:i<ds.length
 ·rw [List.getElem?_append_left (by simpa using hi),List.getElem?_map] at e
  cases q:ds[i]? with
  | none=>rw [q] at e;cases e
  | some d'=>
   rw [q] at e;cases e
   obtain ⟨v,e1,r1⟩:=r.get q
   refine ⟨v,?_,r1⟩
   rw [List.getElem?_append_left (by rw [List.length_map,<- r.length];exact hi),List.getElem?_map,e1];rfl
 ·rw [List.getElem?_append_right (by simpa using Nat.le_of_not_lt hi),List.getElem?_replicate] at e
  split at e <;> cases e
section
variable {P:Program} {w:World} {K:PySem.W.Frag} {mg:Str->Option Value} {base:Heap}
theorem b4g {CX:CXT} {x qual:Str} {st:Stmt} {f:Addr} {fd:FuncData} {N ps:List Str} {k:Nat} {sp:Sp} (F:Fun K x qual st f fd) (S:FnScope N ps (b9 st)) (len:∀ vs H Q E,sp vs H Q E->vs.length=ps.length)
  (hbody:∀ (cdv:Value) (A:Around) (outer:List PySem.Env) (s:Shared) (H:Hp) (vs:List V) (Q:VK) (E:XK),Room CX.q k (A.deeper (envOfC qual (b9 st) s.heap.objs.size f cdv))->sp vs H Q E ->
   ∃ t,PSs (a1k CX P w K mg base N qual (b9 st) f cdv A outer s H E) (i8 st) t/\t { nx:=λ_ H'=>Q .non H',rt:=Q } (start N vs) H):FnOk P w K mg base CX (k+1) f fd ps sp:=by
 obtain ⟨oc,od,kV,doc,pm,an,cdv,ct,osl,rfl,lk,hcd⟩:=F.ex
 exact c1t lk hcd S len λA outer s H vs Q E hr hsp=>hbody cdv A outer s H vs Q E hr hsp
theorem Post.fly {α:Type} {cl:Nat->Addr} {N:List Str} {qual:Str} {scope:Scope} {f:Addr} {cd:Value} {A:Around} {outer:List PySem.Env} {s:Shared} {H0 H:Hp} {E:XK} {μ:Mp} {r:R α} {G:α->Sto->Mp->Hp->Prop} (p:Post K cl (b4q E) μ H r G) :
  Post K cl (xOf (a1k (CXd P w K) P w K mg base N qual scope f cd A outer s H0 E)) μ H r G:=by
 cases r with
 | ok a S=>exact p
 | bad=>exact p
 | exn n S=>
  intro μ' H' a l rp e pins σ s' C d tb I fx
  refine a7d (X:=a1k (CXd P w K) P w K mg base N qual scope f cd A outer s H0 E) I I.ok.frames rfl rfl fx λH2 s2 T I2 fx2 m2=>?_
  obtain ⟨l2,r2⟩:=rp.mv I.hok e fx.at_ m2
  exact ⟨a,C,d,some T,H2,rfl,I2.os,I2.bare,I2.base,I2.hok,fx2,p μ' H2 a (l.trans l2) r2 e⟩
end
theorem FnOk.unX {P:Program} {w:World} {K:PySem.W.Frag} {mg:Str->Option Value} {base:Heap} {k n:Nat} {f:Addr} {fd:FuncData} {ps:List Str} {cl:Nat->Addr} {run:List D->M D} (F:FnOk P w K mg base (CXd P w K) k f fd ps (spX K cl n run)):FnOk P w K mg base (CXq false) k f fd ps (spD K cl n run):=
 ⟨λvs H Q E h=>F.len vs H Q E0 h,λA outer s H args us vs Q E hr e0 hb r h=>codeAny_mono (F.run A outer s H args us vs Q E0 hr e0 hb r h) λres s' hq=>by
  cases res with
  | ok fl=>cases fl <;> exact hq
  | error e=>obtain ⟨_,_,_,_,_,_,_,_,_,_,_,z⟩:=hq;exact z⟩
section
variable {Rs:Rules} {T:Tx} {Γ:Gm} {Tb:List Fd} {k i:Nat} {x qual:Str} {st:Stmt} {f:Addr} {da:FuncData} {fd:Fd}
theorem a48 (TX:TxOk T Γ (k+3) (P7 Rs Γ Tb k)) (hi:Tb[i]?=some fd) (F:Fun T.K x qual st f da) (h1:i8 st=fd.body) (h2:b9 st=fd.sc) (S:FnScope fd.N fd.ps fd.sc) (hq:quiet (w8 fd)=false) :
  FnOk T.P T.w T.K T.mg T.base (CXd T.P T.w T.K) (k+4) f da fd.ps (spX T.K T.cl fd.ps.length (P7 Rs Γ Tb (k+1) i)):=by
 have S':FnScope fd.N fd.ps (b9 st):=by rw [h2];exact S
 refine b4g (k:=k+3) F S' (λvs H Q E h=>h.1) λcdv A outer s H vs Q E hr hsp=>?_
 obtain ⟨hl,μ,S0,ds,rds,rp,p⟩:=hsp
 have cx:CxOk T (k+3) (w8 fd) (a1k (CXd T.P T.w T.K) T.P T.w T.K T.mg T.base fd.N qual (b9 st) f cdv A outer s H E):=⟨rfl,rfl,rfl,rfl,rfl,rfl,S.nd,h2,λ_=>rfl,by rw [hq];exact hr,λe s' z=>wpAny_leaving_again (SameStack.refl _) z,rfl,S.kind,λ_ _=>⟨rfl,rfl⟩⟩
 have R:=b52 (Rs:=Rs) TX 40
 refine ⟨_,by rw [h1];exact Q7 R cx rfl,?_⟩
 refine ⟨μ,S0,X4 fd.N ds,a5i rds,rp,?_⟩
 have hd:ds.length=fd.ps.length:=by rw [rds.length];exact hl
 simp only [P7,hi,if_pos hd] at p
 refine Post.fly (p.bind.imp λfl S1 μ1 H1 l1 r1 p1=>?_)
 cases fl with
 | nx ρ=>exact λσ _=>p1 μ1 H1 (Lat.refl _ _) r1 _ .non
 | rt d=>exact λv rv=>p1 μ1 H1 (Lat.refl _ _) r1 v rv
 | bk ρ=>exact False.elim p1
 | ct ρ=>exact False.elim p1
theorem b6y (TX:TxOk T Γ (k+3) (P7 Rs Γ Tb k)) (hi:Tb[i]?=some fd) (F:Fun T.K x qual st f da) (h1:i8 st=fd.body) (h2:b9 st=fd.sc) (S:FnScope fd.N fd.ps fd.sc) (hq:quiet (w8 fd)=true) :
  FnOk T.P T.w T.K T.mg T.base (CXq true) (k+4) f da fd.ps (spD T.K T.cl fd.ps.length (P7 Rs Γ Tb (k+1) i)):=by
 have S':FnScope fd.N fd.ps (b9 st):=by rw [h2];exact S
 refine b4g (k:=k+3) F S' (λvs H Q E h=>h.1) λcdv A outer s H vs Q E hr hsp=>?_
 obtain ⟨hl,μ,S0,ds,rds,rp,p⟩:=hsp
 have cx:CxOk T (k+3) (w8 fd) (a1k (CXq true) T.P T.w T.K T.mg T.base fd.N qual (b9 st) f cdv A outer s H E).nox:=⟨rfl,rfl,rfl,rfl,rfl,rfl,S.nd,h2,λz=>(by rw [hq] at z;exact absurd z (by decide)),by rw [hq];exact hr,PassesOwn.never,rfl,S.kind,λ_ z=>(by rw [hq] at z;exact absurd z (by decide))⟩
 have R:=b52 (Rs:=Rs) TX 40
 refine ⟨_,by rw [h1];exact PSs.nox (PSs.x0 (Q7 R cx rfl)),?_⟩
 refine ⟨μ,S0,X4 fd.N ds,a5i rds,rp,?_⟩
 have hd:ds.length=fd.ps.length:=by rw [rds.length];exact hl
 simp only [P7,hi,if_pos hd] at p
 refine p.bind.imp λfl S1 μ1 H1 l1 r1 p1=>?_
 cases fl with
 | nx ρ=>exact λσ _=>p1 μ1 H1 (Lat.refl _ _) r1 _ .non
 | rt d=>exact λv rv=>p1 μ1 H1 (Lat.refl _ _) r1 v rv
 | bk ρ=>exact False.elim p1
 | ct ρ=>exact False.elim p1
theorem b7j (TX:TxOk T Γ (k+3) (P7 Rs Γ Tb k)) (hi:Tb[i]?=some fd) (F:Fun T.K x qual st f da) (h1:i8 st=fd.body) (h2:b9 st=fd.sc) (S:FnScope fd.N fd.ps fd.sc) (hq:quiet (w8 fd)=false:=by rfl) :
  FnOk T.P T.w T.K T.mg T.base (CXq false) (k+4) f da fd.ps (spD T.K T.cl fd.ps.length (P7 Rs Γ Tb (k+1) i)):=FnOk.unX (a48 TX hi F h1 h2 S hq)
noncomputable def c3w (Γ:Gm) (Tb:List Fd):Bool:=(List.range Tb.length).all λi=>match Tb[i]? with
 | some fd=>quiet (w8 fd)==Γ.qs.contains i
 | none=>false
theorem a8z (h:c3w Γ Tb=true) (hi:Tb[i]?=some fd):quiet (w8 fd)=Γ.qs.contains i:=by
 unfold c3w at h
 have:=(List.all_eq_true.mp h) i (List.mem_range.mpr (List.getElem?_eq_some_iff.mp hi).1)
 rw [hi] at this
 simpa using this
end
structure TxSt (T:Tx) (Γ:Gm):Prop where
 blt:∀ x∈bnames,Γ.gl.lookup x=none->T.mg x=none
 val:∀ x d,Γ.gl.lookup x=some (.val d)->∃ u v,T.mg x=some u/\RelV v u/\∀ μ H,RD T.K μ H d v
 err:∀ x c fs,Γ.gl.lookup x=some (.err c fs)->ErrAt T x c fs/\(∀ g∈fs,v7 T.K (T.cl c) g)
 sub:∀ x c c0 fs,Γ.gl.lookup x=some (.err c0 fs)->XC T.K (T.cl c)->PySem.W.kitOne T.K (.ref (T.cl c)) (.ref (T.cl c0))=some (Γ.sub c c0)
 subV:∀ c,XC T.K (T.cl c)->PySem.W.kitOne T.K (.ref (T.cl c)) (.type "ValueError")=some true
 subT:∀ c,XC T.K (T.cl c)->∀ t∈tys,PySem.W.kitOne T.K (.ref (T.cl c)) (.type t)=some false
 fld:∀ g∈Γ.flds,∀ c,XC T.K (T.cl c)->v7 T.K (T.cl c) g
 dct:∀ x kvs,Γ.gl.lookup x=some (.dct kvs)->b5l T x kvs
def b4p (T:Tx) (Γ:Gm) (Tb:List Fd):Prop:=∀ x i n,Γ.gl.lookup x=some (.fn i n)->∃ fd,Tb[i]?=some fd/\fd.ps.length=n/\FnTx T x fd
theorem TxSt.ok {T:Tx} {Γ:Gm} (h:TxSt T Γ) {k:Nat} {C:Cf} (f:∀ x i n,Γ.gl.lookup x=some (.fn i n)->i∉Γ.qs->FnX T (k+3) i n x (C i)) (fq:∀ x i n,Γ.gl.lookup x=some (.fn i n)->i∈Γ.qs->FnAt T (k+3) i n x (C i)):TxOk T Γ (k+3) C:=⟨h.blt,h.val,f,fq,h.err,h.sub,h.subV,h.subT,h.fld,h.dct,by omega⟩
theorem c02 {Rs:Rules} {T:Tx} {Γ:Gm} {Tb:List Fd} (h:TxSt T Γ) (fs:b4p T Γ Tb) (k:Nat) (hq:c3w Γ Tb=true:=by rfl):TxOk T Γ (k+3) (P7 Rs Γ Tb k):=by
 induction k with
 | zero=>
  have bad:∀ x i n,Γ.gl.lookup x=some (.fn i n)->∃ (a:Addr) (fd:FuncData) (ps:List Str),ps.length=n/\(∀ CX,FnOk T.P T.w T.K T.mg T.base CX 3 a fd ps (spX T.K T.cl n (P7 Rs Γ Tb 0 i)))/\T.mg x=some (.ref a)/\PySem.W.keepIn T.K (.ref a)=true/\Binds T.K fd ps []:=λx i n e=>by
   obtain ⟨fd,h1,h2,h3⟩:=fs x i n e
   obtain ⟨f,da,qual,st,F,_,_,_,b,m⟩:=h3.ex
   refine ⟨f,da,fd.ps,h2,λCX=>⟨λvs H Q E h=>by rw [h2];exact h.1,λA outer s H args us vs Q E _ _ _ _ hsp=>?_⟩,m,F.kp,b⟩
   obtain ⟨_,μ,S,ds,_,_,p⟩:=hsp
   exact p.elim
  refine h.ok (λx i n e _=>?_) λx i n e _=>?_
  ·obtain ⟨a,fd,ps,h1,h2,h3⟩:=bad x i n e
   exact ⟨a,fd,ps,h1,h2 _,h3⟩
  ·obtain ⟨a,fd,ps,h1,h2,h3⟩:=bad x i n e
   exact ⟨a,fd,ps,h1,FnOk.imp (h2 _) (sp':=spD T.K T.cl n (P7 Rs Γ Tb 0 i)) λvs H Q E ⟨_,μ,S,ds,_,_,p⟩=>p.elim,h3⟩
 | succ k TX=>
  refine h.ok (k:=k+1) (λx i n e hn=>?_) λx i n e m=>?_
  ·obtain ⟨fd,h1,h2,h3⟩:=fs x i n e
   subst h2
   obtain ⟨f,da,qual,st,F,g1,g2,S,b,m2⟩:=h3.ex
   exact ⟨f,da,fd.ps,rfl,a48 TX h1 F g1 g2 S (by rw [a8z hq h1];simpa using hn),m2,F.kp,b⟩
  ·obtain ⟨fd,h1,h2,h3⟩:=fs x i n e
   subst h2
   obtain ⟨f,da,qual,st,F,g1,g2,S,b,m2⟩:=h3.ex
   exact ⟨f,da,fd.ps,rfl,b6y TX h1 F g1 g2 S (by rw [a8z hq h1];simpa using m),m2,F.kp,b⟩
noncomputable def runK (Rs:Rules) (Γ:Gm) (C:Cf) (fd:Fd) (ds:List D):M D:=if ds.length=fd.ps.length then j0 (evK Rs Γ C 40) ⟨fd.N,fd.sc,true,fd.mu⟩ fd.body (X4 fd.N ds) endD else bad
theorem b7 {Rs:Rules} {Γ:Gm} {Tb:List Fd} {k i:Nat} {fd:Fd} (h:Tb[i]?=some fd) (ds:List D):P7 Rs Γ Tb (k+1) i ds=runK Rs Γ (P7 Rs Γ Tb k) fd ds:=by
 simp only [P7,h,runK]
 split
 ·rw [a19 (c1x 40)]
 ·rfl
noncomputable def b3i (a:Arguments):List Str:=a.args.map (·.arg)
noncomputable def b72 (ps:List Str) (sc:Scope):List Str:=ps++(sc.names.filter λy=>(y.2==.local||y.2==.cell)&&!ps.contains y.1).map (·.1)
noncomputable def j8 (st:Stmt) (mu:List Str):Fd:=⟨b3i (o0 st),b72 (b3i (o0 st)) (b9 st),b9 st,i8 st,mu⟩
noncomputable def a4c (fd:Fd):Bool:=decide (fd.sc.kind=.function)&&!fd.sc.isCoroutine&&!fd.sc.isGenerator&&decide fd.N.Nodup&&decide (fd.N.take fd.ps.length=fd.ps)&&fd.ps.all (λx=>a2p fd.sc x)&&fd.sc.names.all (λy=>decide (y.2≠.free))
theorem a1j {fd:Fd} (h:a4c fd=true):FnScope fd.N fd.ps fd.sc:=by
 simp only [a4c,Bool.and_eq_true,decide_eq_true_eq,List.all_eq_true,Bool.not_eq_true'] at h
 obtain ⟨⟨⟨⟨⟨⟨h1,h2⟩,h3⟩,h4⟩,h5⟩,h6⟩,h7⟩:=h
 exact ⟨h1,h2,h3,h4,h5,λx hx=>O6 (h6 x hx),h7⟩
noncomputable def d23:RuE:=rBf "sum" "sum" true (one b8e) (by decide) rfl λ_ hc=>d03 (hc rfl)
noncomputable def b8b:RuE:=rMt "count" tupOf countT λ_ ho ha c1 c2 c3 c4=>a33 PySem.F.plainAttrs_tuple PySem.F.slot_tuple_count PySem.F.type_tuple_count b1t b0s a6m ho ha c1 c2 c3 c4
section
variable {X:Cx} {cl:Nat->Addr} {xe:Addr->Hp->Prop}
def rUpdD:V->List V->Hp->(V->Hp->Prop)->Prop:=λx vs H Q=>∃ a b kvs more,x=.ref a/\vs=[.ref b]/\a≠b/\H a=some (.dK kvs)/\H b=some (.dK more)/\kvs.length+more.length<=sizeLine/\Q .non (upd H a (.dK (I0 kvs more)))
theorem b84:MtR X "dict.update" rUpdD:=by
 intro pins s σ H x vs v us Q I rx rv h
 obtain ⟨a,b,kvs,more,rfl,rfl,hab,ha,hb,hz,q⟩:=h
 cases rx
 obtain ⟨u,rfl,ru⟩:=rv.one
 cases ru
 obtain ⟨z1,hd1,vs1,rel1,dd1⟩:=a8m I.hok ha
 obtain ⟨z2,hd2,vs2,rel2,dd2⟩:=a8m I.hok hb
 refine call_meetsIn PySem.F.slot_dict_update dd1.typeIs PySem.F.entry_dict_update (PySem.F.args_dict_update_2 _ _) (meets_dict_update (i5 X.prog X.w) a b hab hd2) ⟨vs1,vs2,dd1,dd2,by rw [<- rel1.length,<- rel2.length];exact hz,λh' dd' _ hs=>?_⟩
 have he:∃ q,h'.get? a=some q:=let ⟨q,_,_,hq,_⟩:=dd';⟨q,hq⟩
 exact ⟨.non,_,a0h (t':=s.toks) I (by rw [ha];exact True.intro) hs he (a7u (Nat.le_trans (E2 more kvs) hz) hd1 (rel2.merge rel1) dd'),rfl,q⟩
noncomputable def updD (x:D) (ds:List D):M D:=match x,ds with
 | .ref n,[.ref m]=>λS=>match S[n]? with
  | some (.dct kvs)=>(match S[m]? with
   | some (.dct more)=>if n≠m/\kvs.length+more.length<=sizeLine then .ok .non (S.set n (.dct (Q8 kvs more))) else .bad
   | _=>.bad)
  | _=>.bad
 | _,_=>bad
theorem b4d:b9h X.K cl xe rUpdD updD:=λμ S H x v ds vs Q rx rvs rp p=>by
 unfold updD at p
 split at p
 ·rename_i n m
  cases rvs with
  | cons h t=>
   cases t
   cases rx with
   | ref e=>
    rename_i a
    cases h with
    | ref e2=>
     rename_i b
     cases q1:S[n]? with
     | none=>rw [q1] at p;exact p.elim
     | some o=>
      rw [q1] at p
      cases o with
      | dct kvs=>
       dsimp only at p
       cases q2:S[m]? with
       | none=>rw [q2] at p;exact p.elim
       | some o2=>
        rw [q2] at p
        cases o2 with
        | dct more=>
         dsimp only at p
         obtain ⟨ks,h1,h2⟩:=rp.ats n _ a q1 e
         obtain ⟨ms,g1,g2⟩:=rp.ats m _ b q2 e2
         by_cases hz:n≠m/\kvs.length+more.length<=sizeLine
         ·rw [if_pos hz] at p
          have ne:a≠b:=λz=>by
           subst z
           obtain ⟨l1,e1'⟩:=List.getElem?_eq_some_iff.mp e
           obtain ⟨l2,e2'⟩:=List.getElem?_eq_some_iff.mp e2
           exact hz.1 ((List.getElem_inj rp.nd).mp (e1'.trans e2'.symm))
          have la:Lat μ H μ (upd H a (.dK (I0 ks ms))):=Lat.wrote (List.mem_of_getElem? e)
          refine ⟨a,b,ks,ms,rfl,rfl,ne,h1,g1,by rw [<- Paired.length h2,<- Paired.length g2];exact hz.2,?_⟩
          exact p μ _ la (rp.wrote e ⟨_,c8,Paired.mono (λ_ _ ⟨z,w⟩=>⟨z,w.later la⟩) (X2 g2 h2)⟩) _ .non
         ·rw [if_neg hz] at p;exact p.elim
        | lst _=>exact p.elim
        | exc _ _=>exact p.elim
      | lst _=>exact p.elim
      | exc _ _=>exact p.elim
 ·exact p.elim
end
noncomputable def d14:RuE:=rMt "update" dctOf updD λ_ ho ha c1 c2 c3 c4=>a33 PySem.F.plainAttrs_dict PySem.F.slot_dict_update PySem.F.type_dict_update b84 a13 b4d ho ha c1 c2 c3 c4
noncomputable def a3t (m turn cell:D):M D:=
 bind (a16 cell (.int 1000003)) λa1=>bind (C9 (.int 31) turn) λb1=>bind (C9 b1 turn) λb2=>bind (d8 a1 b2) λc1=>bind (C9 (.int 7) turn) λd1=>bind (d8 c1 d1) λc2=>bind (d8 c2 (.int 11)) λc3=>bind (C9 c3 (.int 48271)) λc4=>bind (a16 c4 (.int 2147483647)) λmixed=>
 bind (K2 mixed (.int 64)) λe1=>bind (C9 e1 (.int 69621)) λe2=>bind (C9 (.int 7919) turn) λe3=>bind (d8 e2 e3) λe4=>bind (a16 e4 (.int 2147483587)) λmixed2=>
 bind (K2 mixed2 (.int 64)) λf1=>bind (a16 f1 m) λf2=>ret f2
noncomputable def a3x (p m turn cells cell:D) (z:Bool):M D:=
 if z=true then bind (K2 cell m) λv=>bind (T8 p (.str "left") v) λ_=>bind (a16 cell m) λd=>ret d
 else a3t m turn cell
noncomputable def M6 (p m turn cells cell:D):M D:=
 bind (ixD p (.str "at")) λx=>bind (d8 x (.int 1)) λv=>bind (T8 p (.str "at") v) λ_=>
 bind (b7l (.int 10) (.int 18)) λy=>bind (b8 .GtE cell y) λd=>bind (asB d) λc=>
 if c=true then bind (ixD p (.str "at")) λx=>bind (m7 cells) λy=>bind (b8 .LtE x y) λd=>bind (asB d) λz=>a3x p m turn cells cell z
 else a3x p m turn cells cell false
noncomputable def a9z (p m:D):M D:=
 bind (ixD p (.str "turn")) λx=>bind (d8 x (.int 1)) λturn=>bind (T8 p (.str "turn") turn) λ_=>
 bind (ixD p (.str "left")) λx=>bind (b8 .Gt x (.int 0)) λd=>bind (asB d) λz=>
 if z=true then bind (ixD p (.str "left")) λx=>bind (a16 x m) λdigit=>bind (ixD p (.str "left")) λx=>bind (K2 x m) λv=>bind (T8 p (.str "left") v) λ_=>ret digit
 else bind (ixD p (.str "cells")) λcells=>bind (m7 cells) λx=>bind (b8 .Gt x (.int 0)) λd=>bind (asB d) λz=>
  if z=true then bind (ixD p (.str "at")) λx=>bind (m7 cells) λy=>bind (a16 x y) λi=>bind (ixD cells i) λcell=>M6 p m turn cells cell
  else M6 p m turn cells (.int 0)
theorem a8 {α β:Type} {m:M α} {k:α->M β} {S S':Sto} {a:α} (e:m S=.ok a S'):bind m k S=k a S':=by unfold bind;rw [e]
theorem a0s {S:Sto} {p:Nat} {kvs:List (Key×D)} {x:Str} {d:D} (h:S[p]?=some (.dct kvs)) (e:M8 kvs (.inr x)=some d):ixD (.ref p) (.str x) S=.ok d S:=by
 simp only [ixD,h,B1,Option.bind_some,e,a03,ret]
theorem a0x {S:Sto} {p:Nat} {kvs kvs':List (Key×D)} {x:Str} {v:D} (h:S[p]?=some (.dct kvs)) (hl:kvs.length<sizeLine) (e:b1f kvs (.inr x) v=kvs'):T8 (.ref p) (.str x) v S=.ok .non (S.set p (.dct kvs')):=by
 simp only [T8,h,B1,if_pos hl,e]
theorem b2p {S:Sto} {p:Nat} {o o':O} (h:S[p]?=some o):(S.set p o')[p]?=some o':=List.getElem?_set_self (List.getElem?_eq_some_iff.mp h).1
noncomputable def j5 (ns:List Int) (a l t:Int):O:=.dct [(.inr "cells",.lst (ns.map D.int)),(.inr "at",.int a),(.inr "left",.int l),(.inr "turn",.int t)]
section
variable {S:Sto} {p:Nat} {ns:List Int} {a l t:Int} (h:S[p]?=some (j5 ns a l t))
include h
theorem b9a:ixD (.ref p) (.str "cells") S=.ok (.lst (ns.map D.int)) S:=a0s h rfl
theorem c2x:ixD (.ref p) (.str "at") S=.ok (.int a) S:=a0s h rfl
theorem a70:ixD (.ref p) (.str "left") S=.ok (.int l) S:=a0s h rfl
theorem c5n:ixD (.ref p) (.str "turn") S=.ok (.int t) S:=a0s h rfl
theorem c8k (v:Int):T8 (.ref p) (.str "at") (.int v) S=.ok .non (S.set p (j5 ns v l t)):=a0x h (by show 4<sizeLine;decide) rfl
theorem a8r (v:Int):T8 (.ref p) (.str "left") (.int v) S=.ok .non (S.set p (j5 ns a v t)):=a0x h (by show 4<sizeLine;decide) rfl
theorem b8j (v:Int):T8 (.ref p) (.str "turn") (.int v) S=.ok .non (S.set p (j5 ns a l v)):=a0x h (by show 4<sizeLine;decide) rfl
end
theorem a1y (i j:Int) (S:Sto):d8 (.int i) (.int j) S=.ok (.int (i+j)) S:=rfl
theorem a01 {i j:Int} (h:0<j) (S:Sto):a16 (.int i) (.int j) S=.ok (.int (i % j)) S:=by simp only [a16,if_pos h,ret]
theorem Y1 {i j:Int} (h:0<j) (h2:j<1073741824) (S:Sto):K2 (.int i) (.int j) S=.ok (.int (i / j)) S:=by
 have hc:b4e i j:=⟨h,h2⟩
 simp only [K2,if_pos hc,ret]
theorem T9 {i j:Int} (h:CMul i j) (S:Sto):C9 (.int i) (.int j) S=.ok (.int (i * j)) S:=by simp only [C9,if_pos h,ret]
theorem a1r (ns:List Int) (S:Sto):m7 (.lst (ns.map D.int)) S=.ok (.int ns.length) S:=by
 show R.ok (D.int ((ns.map D.int).length:Nat)) S=_
 rw [List.length_map]
theorem b9c {ns:List Int} {a:Int} (ha:0<=a) (hn:0<ns.length) (S:Sto):∃ z:Int,ixD (.lst (ns.map D.int)) (.int (a % (ns.length:Int))) S=.ok (.int z) S:=by
 have hb:(0:Int)<(ns.length:Int):=by omega
 have h0:=Int.emod_nonneg a (Int.ne_of_gt hb)
 have h1:=Int.emod_lt_of_pos a hb
 obtain ⟨j,hj⟩:=Int.eq_ofNat_of_zero_le h0
 have hj':j<ns.length:=by omega
 refine ⟨ns[j],?_⟩
 rw [hj]
 show a03 (atI (ns.map D.int) (j:Int)) S=_
 rw [a3u (v:=D.int ns[j]) (by rw [List.getElem?_map,List.getElem?_eq_getElem hj'];rfl)]
 rfl
theorem a68 {m t c:Int} (hm:0<m) (ht:0<=t) (htb:t<2000000) (S:Sto):∃ r:Int,a3t (.int m) (.int t) (.int c) S=.ok (.int r) S/\0<=r/\r<m:=by
 unfold a3t
 rw [a8 (a01 (by decide) S),a8 (T9 (.inl ⟨by decide,by decide⟩) S),a8 (T9 (.inr ⟨by omega,by omega⟩) S),a8 (a1y _ _ S),a8 (T9 (.inl ⟨by decide,by decide⟩) S),a8 (a1y _ _ S),a8 (a1y _ _ S),a8 (T9 (.inr ⟨by decide,by decide⟩) S),a8 (a01 (by decide) S),
  a8 (Y1 (by decide) (by decide) S),a8 (T9 (.inr ⟨by decide,by decide⟩) S),a8 (T9 (.inl ⟨by decide,by decide⟩) S),a8 (a1y _ _ S),a8 (a01 (by decide) S),a8 (Y1 (by decide) (by decide) S),a8 (a01 hm S)]
 exact ⟨_,rfl,Int.emod_nonneg _ (Int.ne_of_gt hm),Int.emod_lt_of_pos _ hm⟩
theorem set_set {S:Sto} {p:Nat} {o o':O}:(S.set p o).set p o'=S.set p o':=List.set_set ..
theorem a6n {S:Sto} {p:Nat} {ns:List Int} {a l t m c:Int} (h:S[p]?=some (j5 ns a l t)) (ha:0<=a) (hl:0<=l) (ht:0<=t) (htb:t<2000000) (hm:0<m) (hm2:m<1073741824) :
  ∃ r a' l',M6 (.ref p) (.int m) (.int t) (.lst (ns.map D.int)) (.int c) S=.ok (.int r) (S.set p (j5 ns a' l' t))/\0<=r/\r<m/\0<=a'/\0<=l':=by
 unfold M6
 rw [a8 (c2x h),a8 (a1y _ _ S),a8 (c8k h _)]
 have h1:=b2p (o':=j5 ns (a+1) l t) h
 have hp:b7l (.int 10) (.int 18) (S.set p (j5 ns (a+1) l t))=.ok (.int 1000000000000000000) (S.set p (j5 ns (a+1) l t)):=rfl
 rw [a8 hp]
 have hc:b8 .GtE (.int c) (.int 1000000000000000000) (S.set p (j5 ns (a+1) l t))=.ok (.bl (decide (1000000000000000000<=c))) (S.set p (j5 ns (a+1) l t)):=rfl
 rw [a8 hc,a8 (show asB _ _=_ from rfl)]
 have fin:∀ z:Bool,(z=true->1000000000000000000<=c)->∃ r a' l',a3x (.ref p) (.int m) (.int t) (.lst (ns.map D.int)) (.int c) z (S.set p (j5 ns (a+1) l t))=.ok (.int r) (S.set p (j5 ns a' l' t))/\0<=r/\r<m/\0<=a'/\0<=l':=λz hz=>by
  unfold a3x
  cases z with
  | true=>
   rw [if_pos rfl,a8 (Y1 hm hm2 _),a8 (a8r h1 _),set_set,a8 (a01 hm _)]
   exact ⟨_,a+1,c / m,rfl,Int.emod_nonneg _ (Int.ne_of_gt hm),Int.emod_lt_of_pos _ hm,by omega,Int.ediv_nonneg (Int.le_trans (by decide) (hz rfl)) (Int.le_of_lt hm)⟩
  | false=>
   rw [if_neg Bool.false_ne_true]
   obtain ⟨r,e,r1,r2⟩:=a68 (c:=c) hm ht htb (S.set p (j5 ns (a+1) l t))
   exact ⟨r,a+1,l,e,r1,r2,by omega,hl⟩
 by_cases hz:(1000000000000000000:Int)<=c
 ·rw [decide_eq_true hz,if_pos rfl,a8 (c2x h1),a8 (a1r ns _)]
  have hc2:b8 .LtE (.int (a+1)) (.int (ns.length:Int)) (S.set p (j5 ns (a+1) l t))=.ok (.bl (decide (a+1<=(ns.length:Int)))) (S.set p (j5 ns (a+1) l t)):=rfl
  rw [a8 hc2,a8 (show asB _ _=_ from rfl)]
  exact fin _ λ_=>hz
 ·rw [decide_eq_false hz,if_neg Bool.false_ne_true]
  exact fin _ λz=>by cases z
theorem b4z {S:Sto} {p:Nat} {ns:List Int} {a l t m:Int} (h:S[p]?=some (j5 ns a l t)) (ha:0<=a) (hl:0<=l) (ht:0<=t) (htb:t<1000000) (hm:0<m) (hm2:m<1073741824) :
  ∃ r a' l',a9z (.ref p) (.int m) S=.ok (.int r) (S.set p (j5 ns a' l' (t+1)))/\0<=r/\r<m/\0<=a'/\0<=l':=by
 unfold a9z
 rw [a8 (c5n h),a8 (a1y _ _ S),a8 (b8j h _)]
 have h1:=b2p (o':=j5 ns a l (t+1)) h
 have hc:b8 .Gt (.int l) (.int 0) (S.set p (j5 ns a l (t+1)))=.ok (.bl (decide (0<l))) (S.set p (j5 ns a l (t+1))):=rfl
 rw [a8 (a70 h1),a8 hc,a8 (show asB _ _=_ from rfl)]
 by_cases hz:0<l
 ·rw [decide_eq_true hz,if_pos rfl,a8 (a70 h1),a8 (a01 hm _),a8 (a70 h1),a8 (Y1 hm hm2 _),a8 (a8r h1 _),set_set]
  exact ⟨_,a,l / m,rfl,Int.emod_nonneg _ (Int.ne_of_gt hm),Int.emod_lt_of_pos _ hm,ha,Int.ediv_nonneg hl (Int.le_of_lt hm)⟩
 ·rw [decide_eq_false hz,if_neg Bool.false_ne_true,a8 (b9a h1),a8 (a1r ns _)]
  have hc2:b8 .Gt (.int (ns.length:Int)) (.int 0) (S.set p (j5 ns a l (t+1)))=.ok (.bl (decide (0<(ns.length:Int)))) (S.set p (j5 ns a l (t+1))):=rfl
  rw [a8 hc2,a8 (show asB _ _=_ from rfl)]
  have fin:∀ c:Int,∃ r a' l',M6 (.ref p) (.int m) (.int (t+1)) (.lst (ns.map D.int)) (.int c) (S.set p (j5 ns a l (t+1)))=.ok (.int r) (S.set p (j5 ns a' l' (t+1)))/\0<=r/\r<m/\0<=a'/\0<=l':=λc=>by
   obtain ⟨r,a',l',e,q⟩:=a6n (c:=c) h1 ha hl (by omega) (by omega) hm hm2
   rw [set_set] at e
   exact ⟨r,a',l',e,q⟩
  by_cases hn:0<(ns.length:Int)
  ·rw [decide_eq_true hn,if_pos rfl,a8 (c2x h1),a8 (a1r ns _),a8 (a01 hn _)]
   obtain ⟨z,e⟩:=b9c (ns:=ns) ha (by omega) (S.set p (j5 ns a l (t+1)))
   rw [a8 e]
   exact fin z
  ·rw [decide_eq_false hn,if_neg Bool.false_ne_true]
   exact fin 0
mutual
noncomputable def szP:PyData->Nat
 | .none=>4
 | .bool _=>5
 | .int _=>13
 | .str x=>(PyData.shown (.str x)).length
 | .list xs=>b0v xs+3
 | .tuple xs=>b0v xs+3
 | .dict _=>0
noncomputable def b0v:List PyData->Nat
 | []=>0
 | x :: xs=>szP x+2+b0v xs
end
def SmI (i:Int):Prop:=-999999999999<=i/\i<=999999999999
mutual
def Sm:PyData->Prop
 | .none=>True
 | .bool _=>True
 | .int i=>SmI i
 | .str _=>True
 | .list xs=>Sms xs
 | .tuple xs=>Sms xs
 | .dict _=>False
def Sms:List PyData->Prop
 | []=>True
 | x :: xs=>Sm x/\Sms xs
end
mutual
theorem c10:∀ p:PyData,Sm p->p.shown.length<=szP p
 | .none,_=>by decide
 | .bool b,_=>by cases b <;> decide
 | .int i,h=>PyData.shown_int_le2 h.1 h.2
 | .str x,_=>Nat.le_refl _
 | .list xs,h=>by
  have h1:=a7s xs h
  have h2:=listText_len_le (PyData.shownAll xs)
  have h3:=PyData.shownAll_length xs
  simp only [PyData.shown,szP]
  omega
 | .tuple xs,h=>by
  have h1:=a7s xs h
  have h2:=tupleText_len_le (PyData.shownAll xs)
  have h3:=PyData.shownAll_length xs
  simp only [PyData.shown,szP]
  omega
 | .dict _,h=>h.elim
theorem a7s:∀ xs:List PyData,Sms xs->((PyData.shownAll xs).map (·.length)).sum+2 * xs.length<=b0v xs
 | [],_=>by simp [PyData.shownAll,b0v]
 | x :: xs,h=>by
  have h1:=c10 x h.1
  have h2:=a7s xs h.2
  simp only [PyData.shownAll,b0v,List.map_cons,List.sum_cons,List.length_cons]
  omega
end
theorem a7e {i:Int} (h:i.natAbs<2 ^ 40):decide (i.natAbs.log2<1920)=true:=by
 refine decide_eq_true ?_
 by_cases z:i.natAbs=0
 ·rw [z];decide
 ·have:=(Nat.log2_lt z).mpr h
  omega
theorem c22 {i:Int} (h:SmI i):PyData.showable (.int i)=true:=a7e (by have:=h.1;have:=h.2;omega)
mutual
theorem a8l:∀ p:PyData,Sm p->p.showable=true
 | .none,_=>rfl
 | .bool b,_=>rfl
 | .int i,h=>c22 h
 | .str x,_=>rfl
 | .list xs,h=>by simp only [PyData.showable];exact a1a xs h
 | .tuple xs,h=>by simp only [PyData.showable];exact a1a xs h
 | .dict _,h=>h.elim
theorem a1a:∀ xs:List PyData,Sms xs->PyData.showableAll xs=true
 | [],_=>rfl
 | x :: xs,h=>by simp only [PyData.showableAll,a8l x h.1,a1a xs h.2,Bool.and_self]
end
mutual
theorem a9i:∀ p:PyData,Sm p->p.hasDict=false
 | .none,_=>rfl
 | .bool b,_=>rfl
 | .int i,h=>rfl
 | .str x,_=>rfl
 | .list xs,h=>by simp only [PyData.hasDict];exact a07 xs h
 | .tuple xs,h=>by simp only [PyData.hasDict];exact a07 xs h
 | .dict _,h=>h.elim
theorem a07:∀ xs:List PyData,Sms xs->PyData.hasDictAll xs=false
 | [],_=>rfl
 | x :: xs,h=>by simp only [PyData.hasDictAll,a9i x h.1,a07 xs h.2,Bool.or_self]
end
structure Nice (p:PyData):Prop where
 sm:Sm p
 dp:p.depth<=60
 sz:szP p<=4000
theorem Nice.len {p:PyData} (h:Nice p):p.shown.length<=4000:=Nat.le_trans (c10 p h.sm) h.sz
theorem Nice.shows {p:PyData} (h:Nice p):Shows p:=⟨a8l p h.sm,a9i p h.sm,h.dp,by have:=h.len;rw [sizeLine_eq];omega⟩
theorem d0k {S:Sto} {d:D} {p:PyData} (e:i9 64 S d=some p) (h:Nice p) (hd:∀ x,d=.str x->x.length<=4000):D3 S d=true:=by
 unfold D3
 rw [e]
 simp only [Bool.and_eq_true,decide_eq_true_eq]
 refine ⟨⟨h.shows,h.len⟩,?_⟩
 cases d <;> first | rfl | exact decide_eq_true (hd _ rfl)
theorem b50 {i:Int} (h:SmI i):Nice (.int i):=⟨h,by show PyData.depth (.int i)<=60;simp [PyData.depth],by show (13:Nat)<=4000;decide⟩
theorem c5u {S:Sto} {i:Int} (h:SmI i):D3 S (.int i)=true:=d0k (p:=.int i) rfl (b50 h) (λx e=>by cases e)
theorem c3v {c:Nat} {fs:List Str} {ds:List D} {S:Sto} (h1:ds.length=fs.length) (h2:ds.all (D3 S)=true):K6 c fs ds S=.ok (.ref S.length) (S++[.exc c (fs.zip ds)]):=by
 unfold K6
 rw [if_pos ⟨h1,h2⟩]
theorem a9g (x:Str) (S:Sto):b8 .Eq (.str x) (.str x) S=.ok (.bl true) S:=by
 show R.ok (D.bl (decide (x=x))) S=_
 rw [decide_eq_true rfl]
theorem d4 (b:Bool) (S:Sto):asB (.bl b) S=.ok b S:=rfl
noncomputable def a2w (o:Option (Option Value)) (x:String):Bool:=match o with
 | some (some (.builtin y))=>decide (y=x)
 | _=>false
theorem W0 {o:Option (Option Value)} {x:String} (h:a2w o x=true):o=some (some (.builtin x)):=by
 unfold a2w at h
 split at h
 ·rw [of_decide_eq_true h]
 ·cases h
noncomputable def isNo (o:Option (Option Value)):Bool:=match o with
 | some none=>true
 | _=>false
theorem a0m {o:Option (Option Value)} (h:isNo o=true):o=some none:=by
 unfold isNo at h
 split at h
 ·rfl
 ·cases h
noncomputable def isB (o:Option Bool) (b:Bool):Bool:=match o with
 | some c=>c==b
 | none=>false
theorem W8 {o:Option Bool} {b:Bool} (h:isB o b=true):o=some b:=by
 unfold isB at h
 split at h
 ·rw [eq_of_beq h]
 ·cases h
noncomputable def xcB (K:PySem.W.Frag) (C:Addr):Bool:=
 a2w (PySem.W.findIn K (.ref C) "__getattribute__") "BaseException.__getattribute__" && (isNo (PySem.W.findIn K (.ref C) "__getattr__")&&(isB (PySem.W.mroIn K C (.type "BaseException")) true&&(isB (PySem.W.mroIn K C (.type "object")) true &&
 (PySem.W.hasDictIn K C&&(a2w (PySem.W.findIn K (.ref C) "__class__") "object.__class__" && (a2w (PySem.W.specialIn K (.builtin "object.__class__") "__get__") "getset_descriptor.__get__" && (isB (PySem.W.takesIn K (.builtin "object.__class__")) true &&
 (Z3 K C&&((PySem.W.clsIn K C).any (λcd=>B3 cd.mro)&&(a2w (PySem.W.findIn K (.ref C) "__setattr__") "object.__setattr__" && PySem.W.keepIn K (.ref C)))))))))))
theorem Q5 {K:PySem.W.Frag} {C:Addr} (h:xcB K C=true):XC K C:=by
 simp only [xcB,Bool.and_eq_true] at h
 obtain ⟨h1,h2,h3,h4,h5,h6,h7,h8,h9,h10,h11,h12⟩:=h
 exact ⟨⟨W0 h1,a0m h2,W8 h3,W8 h4,h5,W0 h6,W0 h7,W8 h8⟩,h9,h10,W0 h11,h12⟩
noncomputable def a0w (cs:List Addr) (junk:Addr) (c:Nat):Addr:=cs.getD c junk
structure RowB (K:PySem.W.Frag) (Γ:Gm) (cs:List Addr) (junk:Addr):Prop where
 xc:cs.all (xcB K)=true
 jk:Z3 K junk=false
 sub:((List.range cs.length).all λc=>(List.range cs.length).all λc0=>isB (PySem.W.kitOne K (.ref (a0w cs junk c)) (.ref (a0w cs junk c0))) (Γ.sub c c0))=true
 sV:(cs.all λC=>isB (PySem.W.kitOne K (.ref C) (.type "ValueError")) true)=true
 sT:(cs.all λC=>tys.all λt=>isB (PySem.W.kitOne K (.ref C) (.type t)) false)=true
 fl:(Γ.flds.all λg=>cs.all λC=>isNo (PySem.W.findIn K (.ref C) g))=true
 bl:(bnames.all λx=>(Γ.gl.lookup x).isSome||isNo (PySem.W.nsIn K mainGlobals x))=true
theorem c6n {K:PySem.W.Frag} {cs:List Addr} {junk:Addr} (jk:Z3 K junk=false) {c:Nat} (h:XC K (a0w cs junk c)):c<cs.length/\a0w cs junk c∈cs:=by
 by_cases hc:c<cs.length
 ·refine ⟨hc,?_⟩
  unfold a0w
  rw [List.getD_eq_getElem?_getD,List.getElem?_eq_getElem hc]
  exact List.getElem_mem hc
 ·have e:a0w cs junk c=junk:=by
   unfold a0w
   rw [List.getD_eq_getElem?_getD,List.getElem?_eq_none (Nat.le_of_not_lt hc)];rfl
  rw [e] at h
  have:=h.ex
  rw [jk] at this
  cases this
theorem RowB.st {T:Tx} {Γ:Gm} {cs:List Addr} {junk:Addr} {h:Heap} (B:RowB T.K Γ cs junk) (X:T.K.In h) (G:h.Ns mainGlobals T.mg) (hc:T.cl=a0w cs junk) (hv:∀ x d,Γ.gl.lookup x=some (.val d)->∃ u v,T.mg x=some u/\RelV v u/\∀ μ H,RD T.K μ H d v)
  (he:∀ x c fs,Γ.gl.lookup x=some (.err c fs)->c<cs.length/\ErrAt T x c fs/\∀ g∈fs,g∈Γ.flds) (hd:∀ x kvs,Γ.gl.lookup x=some (.dct kvs)->b5l T x kvs):TxSt T Γ:=by
 have mem:∀ c,XC T.K (T.cl c)->c<cs.length/\T.cl c∈cs:=λc xc=>by rw [hc] at xc ⊢;exact c6n B.jk xc
 have nf:∀ g∈Γ.flds,∀ c,XC T.K (T.cl c)->v7 T.K (T.cl c) g:=λg hg c xc=>by
  have:=(List.all_eq_true.mp B.fl) g hg
  exact a0m ((List.all_eq_true.mp this) _ (mem c xc).2)
 refine ⟨λx hx hn=>?_,hv,λx c fs e=>?_,λx c c0 fs e xc=>?_,λc xc=>?_,λc xc t ht=>?_,nf,hd⟩
 ·have:=(List.all_eq_true.mp B.bl) x hx
  rw [hn] at this
  exact PySem.W.mg_none_of X G (a0m this)
 ·obtain ⟨h1,h2,h3⟩:=he x c fs e
  exact ⟨h2,λg hg=>nf g (h3 g hg) c h2.xc⟩
 ·obtain ⟨h1,h2,h3⟩:=he x c0 fs e
  have a:=(List.all_eq_true.mp B.sub) c (List.mem_range.mpr (mem c xc).1)
  have b:=(List.all_eq_true.mp a) c0 (List.mem_range.mpr h1)
  rw [hc]
  exact W8 b
 ·exact W8 ((List.all_eq_true.mp B.sV) _ (mem c xc).2)
 ·have a:=(List.all_eq_true.mp B.sT) _ (mem c xc).2
  exact W8 ((List.all_eq_true.mp a) t ht)
def a4y (K:PySem.W.Frag):Sp:=λvs H Q _=>∃ (a:Addr) (ns:List Int),vs=[.ref a]/\SqL K H a (ns.map V.int)/\∀ H',Q (.bl true) H'
theorem b0q {K:PySem.W.Frag} {cl:Nat->Addr} {run:List D->M D} (hr:∀ ns:List Int,∃ S',run [.scr (ns.map D.int)] []=.ok (.bl true) S'):∀ vs H Q E,a4y K vs H Q E->spD K cl 1 run vs H Q E:=by
 rintro vs H Q E ⟨a,ns,rfl,hS,q⟩
 obtain ⟨S',e⟩:=hr ns
 refine ⟨rfl,⟨[],[]⟩,[],[.scr (ns.map D.int)],.cons (.scr ?_ (RDs.ints ns)) .nil,⟨rfl,by simp,λn o a e=>by simp at e,λa m=>by simp at m⟩,?_⟩
 ·rcases hS with h | h
  ·exact .inl ⟨h,by simp,by simp⟩
  ·exact .inr h
 ·rw [e]
  intro μ' H' l r v rv
  cases rv;exact q H'
structure GF (K:PySem.W.Frag) (x:Str) (st:Stmt) (g:Addr):Prop where
 a:PySem.W.nsIn K mainGlobals x=some (some (.ref g))
 f:∃ fd,Fun K x x st g fd
theorem gf_mk {K:PySem.W.Frag} {x:Str} {st:Stmt} {g:Addr} {oc:Value} {od an:Option Addr} {osl:Array (Option Value)} {kV doc pm cdv ct:Value} (a:PySem.W.nsIn K mainGlobals x=some (some (.ref g))) (l:K.lookup g=some ⟨oc,od,.func (PySem.W.fnOf x x (o0 st) (i8 st) (b9 st) .none kV doc pm an cdv ct),osl⟩) (c:PySem.W.codeIn K cdv x=true) (k:PySem.W.keepIn K (.ref g)=true):GF K x st g:=⟨a,_,M2 l c k⟩
theorem fe {T:Tx} {h:Heap} (X:T.K.In h) (G:h.Ns mainGlobals T.mg) {x:Str} {st:Stmt} {g:Addr} {m:List Str} {Tb:List Fd} {i n:Nat} (d:GF T.K x st g) (sc:a4c (j8 st m)=true) (hb:∀ (kV doc pm:Value) (an:Option Addr) (cdv ct:Value) (us:List Value),us.length=(j8 st m).ps.length->bindArgs (PySem.W.fnOf x x (o0 st) (i8 st) (b9 st) .none kV doc pm an cdv ct) ⟨us,[]⟩=pure ((j8 st m).ps.zip us)) (hT:Tb[i]?=some (j8 st m)) (hn:(j8 st m).ps.length=n):∃ fd,Tb[i]?=some fd/\fd.ps.length=n/\FnTx T x fd:=by
 obtain ⟨fd,F⟩:=d.f
 exact ⟨_,hT,hn,⟨g,_,_,st,F,rfl,rfl,a1j sc,F.binds hb,PySem.W.mg_of X G d.a⟩⟩
def c4q (T:Tx) (Tb:List Fd):List (Str×G)->Prop
 | []=>True
 | (x,.fn i n) :: l=>(∃ fd,Tb[i]?=some fd/\fd.ps.length=n/\FnTx T x fd)/\c4q T Tb l
 | _ :: l=>c4q T Tb l
theorem c9u {T:Tx} {Γ:Gm} {Tb:List Fd} (h:c4q T Tb Γ.gl):b4p T Γ Tb:=λx i n e=>by
 have m:=L2.mem_of_lookup e
 generalize Γ.gl=l at h m
 induction l with
 | nil=>cases m
 | cons y l ih=>
  obtain ⟨z,g⟩:=y
  rcases List.mem_cons.mp m with q | q
  ·cases q;exact h.1
  ·refine ih ?_ q
   cases g with
   | fn j k=>exact h.2
   | _=>exact h
theorem R7 {src:Src} {t:D->M Bool} {f:D->M D} {n:Nat} (I:Nat->Sto->List D->Prop) (hend:∀ S es,I n S es->src n S=some none)
  (step:∀ i S es,i<n->I i S es->∃ d b S1,src i S=some (some d)/\t d S=.ok b S1/\(if b=true then ∃ y S2,f d S1=.ok y S2/\es.length<sizeLine/\I (i+1) S2 (es++[y]) else I (i+1) S1 es)) :
  ∀ (k i:Nat) (S:Sto) (es:List D),k+i=n->I i S es->∃ es' S',j6 src t f (k+1) i es S=.ok es' S'/\I n S' es'
 | 0,i,S,es,hk,h=>by
  have:i=n:=by omega
  subst this
  refine ⟨es,S,?_,h⟩
  simp only [j6,hend S es h]
 | k+1,i,S,es,hk,h=>by
  obtain ⟨d,b,S1,e1,e2,h2⟩:=step i S es (by omega) h
  have un:j6 src t f (k+1+1) i es S=bind (t d) (λb=>if b=true then bind (f d) (λy=>if es.length<sizeLine then j6 src t f (k+1) (i+1) (es++[y]) else bad) else j6 src t f (k+1) (i+1) es) S:=by
   conv=>lhs;unfold j6
   simp only [e1]
  rw [un,a8 e2]
  cases b with
  | true=>
   rw [if_pos rfl] at h2 ⊢
   obtain ⟨y,S2,e3,hl,h3⟩:=h2
   rw [a8 e3,if_pos hl]
   exact R7 I hend step k (i+1) S2 _ (by omega) h3
  | false=>
   rw [if_neg Bool.false_ne_true] at h2 ⊢
   exact R7 I hend step k (i+1) S1 _ (by omega) h2
theorem a61 {n:Nat} {lo:Int} {f:D->M D} {g:Nat->D} {S:Sto} (hl:n<sizeLine) (h:∀ i,i<n->f (.int (lo+i)) S=.ok (g i) S):j6 (a39 lo n) (λ_=>ret true) f (n+1) 0 [] S=.ok ((List.range n).map g) S:=by
 obtain ⟨es,S',e,e1,e2⟩:=R7 (src:=a39 lo n) (t:=λ_=>ret true) (f:=f) (n:=n) (λi S' es=>S'=S/\es=(List.range i).map g) (λS es _=>by show some (if n<n then some (D.int (lo+n)) else none)=some none;rw [if_neg (Nat.lt_irrefl _)])
  (λi S' es hi ⟨h1,h2⟩=>by
   subst h1 h2
   refine ⟨.int (lo+i),true,S',?_,rfl,?_⟩
   ·show some (if i<n then some (D.int (lo+i)) else none)=_
    rw [if_pos hi]
   ·rw [if_pos rfl]
    refine ⟨g i,S',h _ hi,?_,rfl,?_⟩
    ·rw [List.length_map,List.length_range];omega
    ·rw [List.range_succ,List.map_append];rfl) n 0 S [] (by omega) ⟨rfl,rfl⟩
 rw [e]
 subst e1 e2
 rfl
def Ok {α:Type} (m:M α) (S:Sto) (Q:α->Sto->Prop):Prop:=∃ a S',m S=.ok a S'/\Q a S'
section
variable {α β:Type} {S S1:Sto} {m m':M α} {k:α->M β} {a:α} {Q Q':α->Sto->Prop} {P:β->Sto->Prop}
theorem Ok.ret (h:Q a S):Ok (ret a) S Q:=⟨a,S,rfl,h⟩
theorem Ok.of (e:m S=.ok a S1) (h:Q a S1):Ok m S Q:=⟨a,S1,e,h⟩
theorem Ok.bind (h:Ok m S λa S1=>Ok (k a) S1 P):Ok (L3.bind m k) S P:=by
 obtain ⟨a,S1,e,b,S2,e2,q⟩:=h
 exact ⟨b,S2,by rw [a8 e];exact e2,q⟩
theorem Ok.eq (e:m S=.ok a S1) (h:Ok (k a) S1 P):Ok (L3.bind m k) S P:=Ok.bind ⟨a,S1,e,h⟩
theorem Ok.mono (h:Ok m S Q) (i:∀ a S1,Q a S1->Q' a S1):Ok m S Q':=by
 obtain ⟨a,S1,e,q⟩:=h
 exact ⟨a,S1,e,i _ _ q⟩
theorem Ok.cg (e:m=m') (h:Ok m' S Q):Ok m S Q:=e▸h
theorem Ok.cgS (e:m S=m' S) (h:Ok m' S Q):Ok m S Q:=by
 obtain ⟨a,S1,e1,q⟩:=h
 exact ⟨a,S1,by rw [e];exact e1,q⟩
theorem Ok.ite {c:Prop} [Decidable c] {m1 m2:M α} (h1:c->Ok m1 S Q) (h2:¬ c->Ok m2 S Q):Ok (if c then m1 else m2) S Q:=by
 by_cases h:c
 ·rw [if_pos h];exact h1 h
 ·rw [if_neg h];exact h2 h
end
theorem Ok.comp {src:Src} {t:D->M Bool} {f:D->M D} {n:Nat} (I:Nat->Sto->List D->Prop) (hend:∀ S es,I n S es->src n S=some none)
  (step:∀ i S es,i<n->I i S es->∃ d,src i S=some (some d)/\Ok (t d) S λb S1=>if b=true then Ok (f d) S1 λy S2=>es.length<sizeLine/\I (i+1) S2 (es++[y]) else I (i+1) S1 es) {S:Sto} (h:I 0 S []) :
  Ok (j6 src t f (n+1) 0 []) S λes S'=>I n S' es:=by
 obtain ⟨es,S',e,q⟩:=R7 (src:=src) (t:=t) (f:=f) (n:=n) I hend (λi S es hi h=>by
  obtain ⟨d,e1,b,S1,e2,q⟩:=step i S es hi h
  refine ⟨d,b,S1,e1,e2,?_⟩
  cases b with
  | true=>
   rw [if_pos rfl] at q ⊢
   obtain ⟨y,S2,e3,q1,q2⟩:=q
   exact ⟨y,S2,e3,q1,q2⟩
  | false=>
   rw [if_neg Bool.false_ne_true] at q ⊢
   exact q) n 0 S [] (by omega) h
 exact ⟨es,S',e,q⟩
def FlI (I:L3.Env->Sto->Prop) (J:L3.Env->Sto->Prop) (R:D->Sto->Prop) (fl:Fl) (S:Sto):Prop:=match fl with
 | .nx ρ=>I ρ S
 | .ct ρ=>I ρ S
 | .bk ρ=>J ρ S
 | .rt d=>R d S
theorem Ok.for_ {src:Src} {tg:D->L3.Env->Option L3.Env} {body:L3.Env->M Fl} {n:Nat} (I:Nat->L3.Env->Sto->Prop) (J:L3.Env->Sto->Prop) (R:D->Sto->Prop) (hend:∀ ρ S,I n ρ S->src n S=some none)
  (step:∀ i ρ S,i<n->I i ρ S->∃ d ρ1,src i S=some (some d)/\tg d ρ=some ρ1/\Ok (body ρ1) S (FlI (I (i+1)) J R)) :
  ∀ (k i:Nat) (ρ:L3.Env) (S:Sto),k+i=n->I i ρ S->Ok (p9 src tg body (k+1) i ρ) S λfl S'=>match fl with
   | .nx ρ'=>I n ρ' S'\/J ρ' S'
   | .rt d=>R d S'
   | _=>False
 | 0,i,ρ,S,hk,h=>by
  have:i=n:=by omega
  subst this
  exact ⟨.nx ρ,S,by simp only [p9,hend ρ S h],.inl h⟩
 | k+1,i,ρ,S,hk,h=>by
  obtain ⟨d,ρ1,e1,e2,h2⟩:=step i ρ S (by omega) h
  have un:p9 src tg body (k+1+1) i ρ S=L3.bind (body ρ1) (λfl=>match fl with
    | .nx ρ2=>p9 src tg body (k+1) (i+1) ρ2
    | .ct ρ2=>p9 src tg body (k+1) (i+1) ρ2
    | .bk ρ2=>L3.ret (.nx ρ2)
    | .rt d=>L3.ret (.rt d)) S:=by
   conv=>lhs;unfold p9
   simp only [e1,e2]
   all_goals rfl
  refine Ok.cgS un (Ok.bind (h2.mono λfl S1 q=>?_))
  cases fl with
  | nx ρ2=>exact Ok.for_ I J R hend step k (i+1) ρ2 S1 (by omega) q
  | ct ρ2=>exact Ok.for_ I J R hend step k (i+1) ρ2 S1 (by omega) q
  | bk ρ2=>exact Ok.ret (.inr q)
  | rt d=>exact Ok.ret q
theorem u0 {α:Type} {l:List α} {h g:α->D} {p:α->Bool} {t:D->M Bool} {f:D->M D} {S:Sto} (hl:l.length<sizeLine) (ht:∀ a∈l,t (h a) S=.ok (p a) S) (hf:∀ a∈l,p a=true->f (h a) S=.ok (g a) S):j6 (M9 (l.map h)) t f (l.length+1) 0 [] S=.ok ((l.filter p).map g) S:=by
 obtain ⟨es,S',e,e1,e2⟩:=Ok.comp (src:=M9 (l.map h)) (t:=t) (f:=f) (n:=l.length) (λi S' es=>S'=S/\es=((l.take i).filter p).map g) (λS es _=>by show some (l.map h)[l.length]?=some none;rw [List.getElem?_eq_none (by simp)])
  (λi S' es hi ⟨h1,h2⟩=>by
   subst h1 h2
   refine ⟨h l[i],?_,p l[i],S',ht _ (List.getElem_mem hi),?_⟩
   ·show some (l.map h)[i]?=some (some (h l[i]))
    rw [List.getElem?_map,List.getElem?_eq_getElem hi];rfl
   ·have ta:l.take (i+1)=l.take i++[l[i]]:=List.take_succ_eq_append_getElem hi
    cases hp:p l[i] with
    | true=>
     dsimp only
     rw [if_pos rfl]
     refine ⟨g l[i],S',hf _ (List.getElem_mem hi) hp,?_,rfl,?_⟩
     ·rw [List.length_map]
      have:=List.length_filter_le p (l.take i)
      have:=List.length_take_le i l
      omega
     ·rw [ta,List.filter_append,List.map_append,List.filter_cons_of_pos hp];rfl
    | false=>
     dsimp only
     rw [if_neg Bool.false_ne_true]
     refine ⟨rfl,?_⟩
     rw [ta,List.filter_append,List.filter_cons_of_neg (by rw [hp];exact Bool.false_ne_true),List.filter_nil,List.append_nil]) (S:=S) ⟨rfl,rfl⟩
 rw [e]
 subst e1 e2
 rw [List.take_length]
def Asc (x:Str):Prop:=∀ c∈x.cps.toList,c<128
noncomputable def G4 (j:Nat):Nat:=1000000000000000000000000000000000000000+j
mutual
def Pln (j:Nat):D->Prop
 | .non=>True
 | .bl _=>True
 | .int i=>i.natAbs<=G4 j
 | .str x=>x.length<=45+j/\Asc x
 | .tup ds=>Plns j ds
 | .lst ds=>Plns j ds
 | .scr _=>False
 | .ref _=>False
def Plns (j:Nat):List D->Prop
 | []=>True
 | d :: ds=>Pln j d/\Plns j ds
end
mutual
noncomputable def py:D->PyData
 | .non=>.none
 | .bl b=>.bool b
 | .int i=>.int i
 | .str x=>.str x
 | .tup ds=>.tuple (pys ds)
 | .lst ds=>.list (pys ds)
 | .scr _=>.none
 | .ref _=>.none
noncomputable def pys:List D->List PyData
 | []=>[]
 | d :: ds=>py d :: pys ds
end
mutual
noncomputable def dp:D->Nat
 | .tup ds=>dps ds+1
 | .lst ds=>dps ds+1
 | _=>0
noncomputable def dps:List D->Nat
 | []=>0
 | d :: ds=>max (dp d) (dps ds)
end
mutual
noncomputable def sz:D->Nat
 | .int _=>60
 | .str x=>10 * x.length+2
 | .tup ds=>szs ds+3
 | .lst ds=>szs ds+3
 | _=>5
noncomputable def szs:List D->Nat
 | []=>0
 | d :: ds=>sz d+2+szs ds
end
theorem Plns.mem {j:Nat}:∀ {ds:List D},Plns j ds->∀ d∈ds,Pln j d
 | _ :: _,h,d,hd=>by
  rcases List.mem_cons.mp hd with rfl | hd
  ·exact h.1
  ·exact Plns.mem h.2 d hd
theorem Plns.of {j:Nat}:∀ {ds:List D},(∀ d∈ds,Pln j d)->Plns j ds
 | [],_=>trivial
 | d :: ds,h=>⟨h d (List.mem_cons_self ..),Plns.of λe he=>h e (List.mem_cons_of_mem _ he)⟩
mutual
theorem Pln.up {j:Nat}:∀ (d:D),Pln j d->Pln (j+1) d
 | .non,_=>trivial
 | .bl _,_=>trivial
 | .int i,h=>by have h:i.natAbs<=G4 j:=h;show i.natAbs<=G4 (j+1);unfold G4 at *;omega
 | .str x,h=>⟨by have:=h.1;omega,h.2⟩
 | .tup ds,h=>Plns.up ds h
 | .lst ds,h=>Plns.up ds h
 | .scr _,h=>h.elim
 | .ref _,h=>h.elim
theorem Plns.up {j:Nat}:∀ (ds:List D),Plns j ds->Plns (j+1) ds
 | [],_=>trivial
 | d :: ds,h=>⟨Pln.up d h.1,Plns.up ds h.2⟩
end
theorem N2:∀ {ds:List D} {d:D},d∈ds->dp d<=dps ds
 | e :: ds,d,h=>by
  rcases List.mem_cons.mp h with rfl | h
  ·show dp d<=max (dp d) (dps ds);omega
  ·have:=N2 h
   show dp d<=max (dp e) (dps ds);omega
theorem a17 {n:Nat}:∀ {ds:List D},(∀ d∈ds,dp d<=n)->dps ds<=n
 | [],_=>Nat.zero_le _
 | d :: ds,h=>by
  have:=h d (List.mem_cons_self ..)
  have:=a17 (ds:=ds) λe he=>h e (List.mem_cons_of_mem _ he)
  show max (dp d) (dps ds)<=n;omega
theorem G6:∀ (xs ys:List D),szs (xs++ys)=szs xs+szs ys
 | [],_=>by simp [szs]
 | d :: xs,ys=>by
  show sz d+2+szs (xs++ys)=sz d+2+szs xs+szs ys
  rw [G6 xs ys];omega
theorem a83:∀ (xs:List D),szs xs.reverse=szs xs
 | []=>rfl
 | d :: xs=>by
  rw [List.reverse_cons,G6,a83 xs]
  show szs xs+(sz d+2+0)=sz d+2+szs xs;omega
theorem a0p:∀ (xs:List D),2 * xs.length<=szs xs
 | []=>Nat.le_refl _
 | d :: xs=>by
  have:=a0p xs
  show 2 * (xs.length+1)<=sz d+2+szs xs;omega
theorem a99 {xs ys:List D} (h:xs.Sublist ys):szs xs<=szs ys:=by
 induction h with
 | slnil=>exact Nat.le_refl _
 | cons d _ ih=>show szs _<=sz d+2+szs _;omega
 | cons_cons d _ ih=>show sz d+2+szs _<=sz d+2+szs _;omega
theorem b3l {xs:List D} {i:Nat} {d:D} (h:xs[i]?=some d):szs xs=szs (xs.take i)+(sz d+2)+szs (xs.drop (i+1)):=by
 have hi:=(List.getElem?_eq_some_iff.mp h).1
 have e:xs=xs.take i++(d :: xs.drop (i+1)):=by
  have:=List.getElem?_eq_some_iff.mp h
  conv=>lhs;rw [<- List.take_append_drop i xs,List.drop_eq_getElem_cons hi]
  rw [this.2]
 conv=>lhs;rw [e,G6]
 show szs _+(sz d+2+szs _)=_;omega
mutual
theorem V6 {j:Nat} (S:Sto):∀ (d:D) (n:Nat),Pln j d->dp d<n->i9 n S d=some (py d)
 | .non,n+1,_,_=>rfl
 | .bl _,n+1,_,_=>rfl
 | .int _,n+1,_,_=>rfl
 | .str _,n+1,_,_=>rfl
 | .tup ds,n+1,h,hn=>by
  show (k7 (i9 n S) ds).map PyData.tuple=_
  rw [a1d S ds n h (by have:dps ds+1<n+1:=hn;omega)];rfl
 | .lst ds,n+1,h,hn=>by
  show (k7 (i9 n S) ds).map PyData.list=_
  rw [a1d S ds n h (by have:dps ds+1<n+1:=hn;omega)];rfl
 | .scr _,_,h,_=>h.elim
 | .ref _,_,h,_=>h.elim
 | .non,0,_,h=>by omega
 | .bl _,0,_,h=>by omega
 | .int _,0,_,h=>by omega
 | .str _,0,_,h=>by omega
 | .tup _,0,_,h=>by omega
 | .lst _,0,_,h=>by omega
theorem a1d {j:Nat} (S:Sto):∀ (ds:List D) (n:Nat),Plns j ds->dps ds<n->k7 (i9 n S) ds=some (pys ds)
 | [],n,_,_=>rfl
 | d :: ds,n,h,hn=>by
  have hn:max (dp d) (dps ds)<n:=hn
  simp only [k7,V6 S d n h.1 (by omega),a1d S ds n h.2 (by omega)]
  rfl
end
theorem b3e {x:Str} (h:Asc x):PyData.strOk x=true:=by
 unfold PyData.strOk
 rw [Array.all_eq_true']
 intro c hc
 have:=h c (by simpa using hc)
 exact decide_eq_true (by omega)
mutual
theorem a37 {j:Nat}:∀ d:D,Pln j d->(py d).canLay0=true
 | .non,_=>rfl
 | .bl _,_=>rfl
 | .int _,_=>rfl
 | .str x,h=>by show PyData.canLay0 (.str x)=true;simp only [PyData.canLay0];exact b3e h.2
 | .tup ds,h=>by show PyData.canLay0 (.tuple (pys ds))=true;simp only [PyData.canLay0];exact a4q ds h
 | .lst ds,h=>by show PyData.canLay0 (.list (pys ds))=true;simp only [PyData.canLay0];exact a4q ds h
 | .scr _,h=>h.elim
 | .ref _,h=>h.elim
theorem a4q {j:Nat}:∀ ds:List D,Plns j ds->PyData.canLayAll0 (pys ds)=true
 | [],_=>rfl
 | d :: ds,h=>by show PyData.canLayAll0 (py d :: pys ds)=true;simp only [PyData.canLayAll0,a37 d h.1,a4q ds h.2,Bool.and_self]
end
mutual
theorem T6:∀ d:D,(py d).depth<=dp d
 | .non=>by show PyData.depth .none<=_;simp [PyData.depth]
 | .bl b=>by show PyData.depth (.bool b)<=_;simp [PyData.depth]
 | .int i=>by show PyData.depth (.int i)<=_;simp [PyData.depth]
 | .str x=>by show PyData.depth (.str x)<=_;simp [PyData.depth]
 | .tup ds=>by show PyData.depth (.tuple (pys ds))<=dps ds+1;simp only [PyData.depth];have:=Y5 ds;omega
 | .lst ds=>by show PyData.depth (.list (pys ds))<=dps ds+1;simp only [PyData.depth];have:=Y5 ds;omega
 | .scr _=>by show PyData.depth .none<=_;simp [PyData.depth]
 | .ref _=>by show PyData.depth .none<=_;simp [PyData.depth]
theorem Y5:∀ ds:List D,PyData.depthAll (pys ds)<=dps ds
 | []=>by show PyData.depthAll []<=0;simp [PyData.depthAll]
 | d :: ds=>by
  have:=T6 d
  have:=Y5 ds
  show PyData.depthAll (py d :: pys ds)<=max (dp d) (dps ds)
  simp only [PyData.depthAll]
  omega
end
theorem a8y {j:Nat} {i:Int} (h:i.natAbs<=G4 j) (hj:j<=1000):decide (i.natAbs.log2<1920)=true:=by
 refine decide_eq_true ?_
 by_cases z:i.natAbs=0
 ·rw [z];decide
 ·have:i.natAbs<2 ^ 140:=by unfold G4 at h;omega
  have:=(Nat.log2_lt z).mpr this
  omega
mutual
theorem a9j {j:Nat} (hj:j<=1000):∀ d:D,Pln j d->(py d).showable=true/\(py d).hasDict=false/\(py d).shown.length<=sz d
 | .non,_=>⟨rfl,rfl,by show (PyData.shown .none).length<=5;decide⟩
 | .bl b,_=>⟨rfl,rfl,by show (PyData.shown (.bool b)).length<=5;cases b <;> decide⟩
 | .int i,h=>⟨a8y h hj,rfl,by
   have h:i.natAbs<=G4 j:=h
   have e:=int_text_length_le10 (k:=40) (a:=i) (by decide) (by unfold G4 at h;omega)
   show (Str.ofString (toString i)).length<=60
   rw [PySem.ofString_length];omega⟩
 | .str x,h=>⟨rfl,rfl,by
   show (PyData.shown (.str x)).length<=10 * x.length+2
   rw [PyData.shown_str]
   exact StrLaws.reprText_len x λc hc=>by have:=h.2 c hc;omega⟩
 | .tup ds,h=>by
  obtain ⟨a,b,c⟩:=a1q hj ds h
  refine ⟨by show PyData.showable (.tuple (pys ds))=true;simp only [PyData.showable];exact a,by show PyData.hasDict (.tuple (pys ds))=false;simp only [PyData.hasDict];exact b,?_⟩
  have h2:=tupleText_len_le (PyData.shownAll (pys ds))
  have h3:=PyData.shownAll_length (pys ds)
  show (PyData.shown (.tuple (pys ds))).length<=szs ds+3
  simp only [PyData.shown]
  omega
 | .lst ds,h=>by
  obtain ⟨a,b,c⟩:=a1q hj ds h
  refine ⟨by show PyData.showable (.list (pys ds))=true;simp only [PyData.showable];exact a,by show PyData.hasDict (.list (pys ds))=false;simp only [PyData.hasDict];exact b,?_⟩
  have h2:=listText_len_le (PyData.shownAll (pys ds))
  have h3:=PyData.shownAll_length (pys ds)
  show (PyData.shown (.list (pys ds))).length<=szs ds+3
  simp only [PyData.shown]
  omega
 | .scr _,h=>h.elim
 | .ref _,h=>h.elim
theorem a1q {j:Nat} (hj:j<=1000):∀ ds:List D,Plns j ds->PyData.showableAll (pys ds)=true/\PyData.hasDictAll (pys ds)=false/\((PyData.shownAll (pys ds)).map (·.length)).sum+2 * (pys ds).length<=szs ds
 | [],_=>⟨rfl,rfl,by show ((PyData.shownAll []).map (·.length)).sum+2 * 0<=0;simp [PyData.shownAll]⟩
 | d :: ds,h=>by
  obtain ⟨a,b,c⟩:=a9j hj d h.1
  obtain ⟨a2,b2,c2⟩:=a1q hj ds h.2
  refine ⟨by show PyData.showableAll (py d :: pys ds)=true;simp only [PyData.showableAll,a,a2,Bool.and_self],by show PyData.hasDictAll (py d :: pys ds)=false;simp only [PyData.hasDictAll,b,b2,Bool.or_self],?_⟩
  show ((PyData.shownAll (py d :: pys ds)).map (·.length)).sum+2 * (py d :: pys ds).length<=sz d+2+szs ds
  simp only [PyData.shownAll,List.map_cons,List.sum_cons,List.length_cons]
  omega
end
structure Any (j N:Nat) (d:D):Prop where
 pl:Pln j d
 dp:dp d<=3+j
 sz:sz d<=N
theorem R8 {j N:Nat} {d:D} (h:Any j N d) (hj:j<=40) (hN:N<=10000000) (S:Sto):U5 d S=.ok (.str (py d).shown) S:=by
 obtain ⟨a,b,c⟩:=a9j (by omega) d h.pl
 have e:=V6 S d 64 h.pl (by have:=h.dp;omega)
 have e2:U5 d S=(match i9 64 S d with
  | some p=>(if Shows p then ret (D.str p.shown) else bad) S
  | none=>.bad):=rfl
 rw [e2,e]
 show (if Shows (py d) then ret (D.str (py d).shown) else bad) S=_
 rw [if_pos ⟨a,b,by have:=T6 d;have:=h.dp;omega,by have:=h.sz;rw [sizeLine_eq];omega⟩];rfl
theorem a7h {j N:Nat} {ds:List D} (h:Any j N (.tup ds)) (hj:j<=40) (S:Sto):b8 .NotEq (.tup ds) (.tup []) S=.ok (.bl (!ds.isEmpty)) S:=by
 show eqP true (.tup ds) (.tup []) S=_
 unfold eqP
 rw [V6 S (.tup ds) 64 h.pl (by have:=h.dp;omega)]
 show (if PyData.canLay0 (py (.tup ds))=true/\PyData.canLay0 (.tuple [])=true/\min (PyData.depth (py (.tup ds))) (PyData.depth (.tuple []))<=60 then ret (D.bl (!PyData.eqv (py (.tup ds)) (.tuple []))) else bad) S=_
 have hd:PyData.depth (.tuple [])<=60:=by simp [PyData.depth,PyData.depthAll]
 rw [if_pos ⟨a37 _ h.pl,rfl,by omega⟩]
 cases ds <;> rfl
noncomputable def inW (ws:List Str):D->Bool
 | .str x=>decide (x∈ws)
 | _=>false
theorem b7o (ws:List Str) (x:Str):((ws.map PyData.str).any λy=>PyData.eqv y (.str x))=decide (x∈ws):=by
 induction ws with
 | nil=>rfl
 | cons w ws ih=>
  rw [List.map_cons,List.any_cons,ih]
  rw [Bool.eq_iff_iff,Bool.or_eq_true,decide_eq_true_eq,decide_eq_true_eq,List.mem_cons]
  have:PyData.eqv (.str w) (.str x)=(w==x):=by simp only [PyData.eqv]
  rw [this]
  constructor
  ·rintro (a | a)
   ·exact .inl (eq_of_beq a).symm
   ·exact .inr a
  ·rintro (a | a)
   ·exact .inl (by rw [a];exact beq_self_eq_true _)
   ·exact .inr a
theorem b9u {p:PyData} (hp:∀ x,p≠.str x) (ws:List Str):((ws.map PyData.str).any λy=>PyData.eqv y p)=false:=by
 induction ws with
 | nil=>rfl
 | cons w ws ih=>
  rw [List.map_cons,List.any_cons,ih,Bool.or_false]
  cases p <;> first | (simp only [PyData.eqv];done) | exact absurd rfl (hp _)
theorem c1j {j:Nat} {d:D} (h:Pln j d) (ws:List Str):((ws.map PyData.str).any λy=>PyData.eqv y (py d))=inW ws d:=by
 cases d with
 | str x=>exact b7o ws x
 | scr _=>exact h.elim
 | ref _=>exact h.elim
 | _=>exact b9u (λx e=>by cases e) ws
theorem N7 (n:Nat) (S:Sto):∀ ws:List Str,k7 (i9 (n+1) S) (ws.map D.str)=some (ws.map PyData.str)
 | []=>rfl
 | w :: ws=>by
  have e:i9 (n+1) S (.str w)=some (.str w):=rfl
  simp only [List.map_cons,k7,e,N7 n S ws]
theorem V4:∀ ws:List Str,(∀ w∈ws,Asc w)->PyData.canLayAll0 (ws.map PyData.str)=true
 | [],_=>rfl
 | w :: ws,h=>by simp only [List.map_cons,PyData.canLayAll0,PyData.canLay0,b3e (h w (List.mem_cons_self ..)),V4 ws λv hv=>h v (List.mem_cons_of_mem _ hv),Bool.and_self]
theorem a69 {j N:Nat} {d:D} (h:Any j N d) (hj:j<=40) {ws:List Str} (hw:∀ w∈ws,Asc w) (S:Sto):b8 .In d (.tup (ws.map D.str)) S=.ok (.bl (inW ws d)) S:=by
 show inD false d (.tup (ws.map D.str)) S=_
 unfold inD
 have e:i9 64 S (.tup (ws.map D.str))=some (.tuple (ws.map PyData.str)):=by
  show (k7 (i9 63 S) (ws.map D.str)).map PyData.tuple=_
  rw [N7 62 S ws];rfl
 rw [V6 S d 64 h.pl (by have:=h.dp;omega),e]
 show a6l false (py d) (ws.map PyData.str) S=_
 unfold a6l
 have hd:=T6 d
 rw [if_pos ⟨a37 d h.pl,V4 ws hw,by have:=h.dp;omega⟩,c1j h.pl]
 rfl
theorem b9f {x y:Str} (hx:Asc x) (hy:Asc y):Asc (x++y):=λc hc=>by
 have:(x++y).cps.toList=x.cps.toList++y.cps.toList:=by show (x.cps++y.cps).toList=_;simp
 rw [this] at hc
 rcases List.mem_append.mp hc with h | h
 ·exact hx c h
 ·exact hy c h
theorem c5q:((List.range 128).all λc=>(Unicode.upperOf c).length==1&&(Unicode.upperOf c).all (· < 128))=true:=by decide +kernel
theorem a3v {x:Str} (h:Asc x):Asc (Txt.upper x)/\(Txt.upper x).length=x.length:=by
 have one:∀ c,c<128->Unicode.upperOf c=[(Unicode.upperOf c).headD 0]/\(Unicode.upperOf c).headD 0<128:=λc hc=>by
  have:=List.all_eq_true.mp c5q c (List.mem_range.mpr hc)
  rw [Bool.and_eq_true] at this
  obtain ⟨a,b⟩:=this
  have a:=eq_of_beq a
  match q:Unicode.upperOf c,a with
  | [z],_=>
   rw [q] at b
   simp at b
   exact ⟨rfl,b⟩
 have e:PySem.placed x (λ_ c=>Unicode.upperOf c)=x.cps.map λc=>(Unicode.upperOf c).headD 0:=placed_single x _ _ λi c hc=>(one c (h c (List.mem_of_getElem? hc))).1
 have e2:(Txt.upper x).cps=x.cps.map λc=>(Unicode.upperOf c).headD 0:=e
 constructor
 ·intro c hc
  rw [e2] at hc
  simp at hc
  obtain ⟨b,hb,rfl⟩:=hc
  exact (by have:=(one b (h b (by simpa using hb))).2;simpa using this)
 ·show (Txt.upper x).cps.size=x.cps.size
  rw [e2];simp
theorem b9x (i:Int):Asc (Str.ofString (toString i)):=by
 intro c hc
 rw [signs_ofString] at hc
 obtain ⟨z,hz,rfl⟩:=List.mem_map.mp hc
 have dig:∀ n:Nat,∀ z∈(toString n).toList,z.toNat<128:=λn z hz=>by
  have:z∈Nat.toDigits 10 n:=by
   have e:(toString n).toList=Nat.toDigits 10 n:=by show (Nat.repr n).toList=_;simp [Nat.repr]
   rw [e] at hz;exact hz
  have:=Nat.isDigit_of_mem_toDigits (by decide) (by decide) this
  unfold Char.isDigit at this
  simp at this
  have h2:=this.2
  show z.val.toNat<128
  have:z.val.toNat<=57:=h2
  omega
 cases i with
 | ofNat n=>exact dig n z hz
 | negSucc n=>
  have e:(toString (Int.negSucc n)).toList='-' :: (toString (n+1)).toList:=by
   show ("-" ++ toString (n+1)).toList=_
   simp
  rw [e] at hz
  rcases List.mem_cons.mp hz with rfl | hz
  ·decide
  ·exact dig _ z hz
theorem a4o:∀ bs:List Bool,L6 (bs.map D.bl)=some bs
 | []=>rfl
 | b :: bs=>by simp only [List.map_cons,L6,a4o bs,Option.map_some]
theorem any_ok (bs:List Bool) (S:Sto):b7x (.lst (bs.map D.bl)) S=.ok (.bl (bs.any id)) S:=by
 show bind (u4 (.lst (bs.map D.bl))) _ S=_
 rw [a8 (show u4 (.lst (bs.map D.bl)) S=.ok (bs.map D.bl) S from rfl),a4o]
 rfl
theorem a7f (bs:List Bool) (S:Sto):b1m (.lst (bs.map D.bl)) S=.ok (.bl (bs.all id)) S:=by
 show bind (u4 (.lst (bs.map D.bl))) _ S=_
 rw [a8 (show u4 (.lst (bs.map D.bl)) S=.ok (bs.map D.bl) S from rfl),a4o]
 rfl
theorem Any.len {j N:Nat} {ds:List D} (h:Any j N (.tup ds)):ds.length<=N:=by
 have h2:szs ds+3<=N:=h.sz
 have:=a0p ds
 omega
mutual
noncomputable def plB:D->Bool
 | .non=>true
 | .bl _=>true
 | .int i=>decide (i.natAbs<=G4 0)
 | .str x=>decide (x.length<=45)&&x.cps.toList.all (· < 128)
 | .tup ds=>b6d ds
 | .lst ds=>b6d ds
 | .scr _=>false
 | .ref _=>false
noncomputable def b6d:List D->Bool
 | []=>true
 | d :: ds=>plB d&&b6d ds
end
mutual
theorem b5i:∀ d:D,plB d=true->Pln 0 d
 | .non,_=>trivial
 | .bl _,_=>trivial
 | .int i,h=>by
  have h:decide (i.natAbs<=G4 0)=true:=h
  exact (of_decide_eq_true h:i.natAbs<=G4 0)
 | .str x,h=>by
  have h:(decide (x.length<=45)&&x.cps.toList.all (· < 128))=true:=h
  rw [Bool.and_eq_true,decide_eq_true_eq,List.all_eq_true] at h
  exact ⟨h.1,λc hc=>of_decide_eq_true (h.2 c hc)⟩
 | .tup ds,h=>a4n ds h
 | .lst ds,h=>a4n ds h
 | .scr _,h=>Bool.noConfusion h
 | .ref _,h=>Bool.noConfusion h
theorem a4n:∀ ds:List D,b6d ds=true->Plns 0 ds
 | [],_=>trivial
 | d :: ds,h=>by
  have h:(plB d&&b6d ds)=true:=h
  rw [Bool.and_eq_true] at h
  exact ⟨b5i d h.1,a4n ds h.2⟩
end
noncomputable def smB (n N:Nat) (d:D):Bool:=plB d&&decide (dp d<=n)&&decide (sz d<=N)
theorem y9 {n N:Nat} {d:D} (h:smB n N d=true):Pln 0 d/\dp d<=n/\sz d<=N:=by
 unfold smB at h
 rw [Bool.and_eq_true,Bool.and_eq_true,decide_eq_true_eq,decide_eq_true_eq] at h
 exact ⟨b5i d h.1.1,h.1.2,h.2⟩
theorem a9f {N:Nat} {d:D} (h:smB 3 N d=true):Any 0 N d:=⟨(y9 h).1,(y9 h).2.1,(y9 h).2.2⟩
theorem a8x (ds:List D) (lo hi:Option Int):(A6 ds lo hi).Sublist ds:=(List.take_sublist _ _).trans (List.drop_sublist _ _)
theorem Pln.ups {j:Nat} {d:D} (h:Pln 0 d):Pln j d:=by
 induction j with
 | zero=>exact h
 | succ j ih=>exact ih.up
theorem a4x {xs ys:List D} (h:∀ d∈xs,d∈ys):dps xs<=dps ys:=a17 λd hd=>N2 (h d hd)
theorem a4a (n:Nat) (S:Sto):∀ ns:List Int,k7 (i9 (n+1) S) (ns.map D.int)=some (ns.map PyData.int)
 | []=>rfl
 | b :: bs=>by
  have e:i9 (n+1) S (.int b)=some (.int b):=rfl
  simp only [List.map_cons,k7,e,a4a n S bs]
theorem a63:∀ ns:List Int,PyData.canLayAll0 (ns.map PyData.int)=true
 | []=>rfl
 | b :: bs=>by simp only [List.map_cons,PyData.canLayAll0,PyData.canLay0,a63 bs,Bool.and_self]
theorem V0 {ds:List D} {i:Nat} (h:i<=ds.length):A6 ds none (some (i:Int))=ds.take i:=by
 have e:HT.sIx ds.length ds.length (some (i:Int))=i:=by
  show (if (i:Int)<0 then ((i:Int)+(ds.length:Int)).toNat else min (i:Int).toNat ds.length)=i
  rw [if_neg (by omega)]
  simp;omega
 unfold A6
 rw [e,HT.sIx_none]
 simp
theorem a12 {ds:List D} {i:Nat} (h:i<=ds.length):A6 ds (some (i:Int)) none=ds.drop i:=by
 have e:HT.sIx ds.length 0 (some (i:Int))=i:=by
  show (if (i:Int)<0 then ((i:Int)+(ds.length:Int)).toNat else min (i:Int).toNat ds.length)=i
  rw [if_neg (by omega)]
  simp;omega
 unfold A6
 rw [e,HT.sIx_none]
 rw [List.take_of_length_le (by simp)]
theorem cat_tup {xs ys:List D} {S:Sto} (h:xs.length+ys.length<=sizeLine):d8 (.tup xs) (.tup ys) S=.ok (.tup (xs++ys)) S:=by
 show (if xs.length+ys.length<=sizeLine then ret (D.tup (xs++ys)) else bad) S=_
 rw [if_pos h];rfl
theorem p0 (ds:List D) (S:Sto):m7 (.tup ds) S=.ok (.int ds.length) S:=rfl
theorem A5 (ds:List D) (S:Sto):A4 (.tup ds) S=.ok (M9 ds,ds.length+1) S:=rfl
theorem w9 {n:Nat} (h:n<1000) (S:Sto):y8 [.int (n:Int)] S=.ok (a39 0 n,n+1) S:=by
 unfold y8
 have hn:(n:Int)<1000:=by omega
 have h0:(0:Int)<=n:=by omega
 have c:-(2 ^ 62)<=(n:Int)/\(n:Int)<2 ^ 62:=⟨Int.le_trans (by decide) h0,Int.lt_trans hn (by decide)⟩
 simp only [if_pos c,Int.toNat_natCast]
 rfl
theorem B4 {ds:List D} {i:Nat} {d:D} (S:Sto) (h:ds[i]?=some d):ixD (.tup ds) (.int (i:Int)) S=.ok d S:=by
 show a03 (atI ds (i:Int)) S=_
 rw [a3u h];rfl
theorem b34 {ds:List D} {i:Nat} {d:D} (S:Sto) (h:ds[i]?=some d):ixD (.lst ds) (.int (i:Int)) S=.ok d S:=by
 show a03 (atI ds (i:Int)) S=_
 rw [a3u h];rfl
theorem c55 (n i:Nat) (S:Sto):a39 0 n i S=some ((List.range n).map λ(k:Nat)=>D.int (k:Int))[i]?:=by
 show some (if i<n then some (D.int (0+i)) else none)=_
 by_cases h:i<n
 ·rw [if_pos h,List.getElem?_map,List.getElem?_range h,Int.zero_add];rfl
 ·rw [if_neg h,List.getElem?_eq_none (by simpa using h)]
theorem n4 {α β:Type} {f:α->β} {l:List α} {i:Nat} {a:α} (h:l[i]?=some a):(l.map f)[i]?=some (f a):=by rw [List.getElem?_map,h];rfl
theorem b4o (x:Int):∀ ns:List Int,((ns.map PyData.int).any λy=>PyData.eqv y (.int x))=decide (x∈ns)
 | []=>by simp
 | y :: ns=>by
  simp only [List.map_cons,List.any_cons,b4o x ns,PyData.eqv]
  rw [Bool.eq_iff_iff,Bool.or_eq_true,decide_eq_true_eq,decide_eq_true_eq,List.mem_cons]
  constructor
  ·rintro (a | a)
   ·exact .inl (eq_of_beq a).symm
   ·exact .inr a
  ·rintro (a | a)
   ·exact .inl (by rw [a];exact beq_self_eq_true _)
   ·exact .inr a
def Ex (S S':Sto):Prop:=∃ T,S'=S++T
theorem c17 (ds:List D) (S:Sto):m7 (.lst ds) S=.ok (.int ds.length) S:=rfl
theorem Plns.sub {j:Nat} {xs ys:List D} (h:Plns j ys) (hs:∀ d∈xs,d∈ys):Plns j xs:=Plns.of λd hd=>h.mem d (hs d hd)
theorem a95 (x y:Str):(x++y).length=x.length+y.length:=by show (x.cps++y.cps).size=x.cps.size+y.cps.size;simp
def Fw (ns:List Int) (p N:Nat) (S:Sto):Prop:=∃ a l t:Int,S[p]?=some (j5 ns a l t)/\0<=a/\0<=l/\0<=t/\t+N<1000000
theorem Fw.less {ns:List Int} {p N K:Nat} {S:Sto} (h:Fw ns p N S) (hm:K<=N):Fw ns p K S:=by
 obtain ⟨a,l,t,e,h1,h2,h3,h4⟩:=h
 exact ⟨a,l,t,e,h1,h2,h3,by omega⟩
theorem Fw.keep {ns:List Int} {p N:Nat} {S S':Sto} (h:Fw ns p N S) (e:S'[p]?=S[p]?):Fw ns p N S':=by
 obtain ⟨a,l,t,e1,h1⟩:=h
 exact ⟨a,l,t,by rw [e];exact e1,h1⟩
theorem Fw.lt {ns:List Int} {p N:Nat} {S:Sto} (h:Fw ns p N S):p<S.length:=by
 obtain ⟨a,l,t,e,_⟩:=h
 exact (List.getElem?_eq_some_iff.mp e).1
def Xn {α:Type} (m:M α) (S:Sto) (Q:Nat->Sto->Prop):Prop:=∃ n S',m S=.exn n S'/\Q n S'
theorem Xn.bind {α β:Type} {m:M α} {k:α->M β} {S:Sto} {Q:Nat->Sto->Prop} (h:Xn m S Q):Xn (L3.bind m k) S Q:=by
 obtain ⟨n,S',e,q⟩:=h
 exact ⟨n,S',by unfold L3.bind;rw [e],q⟩
theorem Xn.ok {α β:Type} {m:M α} {k:α->M β} {S:Sto} {Q:Nat->Sto->Prop} (h:Ok m S λa S1=>Xn (k a) S1 Q):Xn (L3.bind m k) S Q:=by
 obtain ⟨a,S1,e,n,S',e2,q⟩:=h
 exact ⟨n,S',by unfold L3.bind;rw [e];exact e2,q⟩
theorem Xn.cg {α:Type} {m m':M α} {S:Sto} {Q:Nat->Sto->Prop} (e:m=m') (h:Xn m' S Q):Xn m S Q:=e▸h
theorem Ok.nx {α:Type} {m:M α} {S:Sto} {Q:α->Sto->Prop} (h:Ok m S Q):Ok (L3.nx m) S Q:=by
 obtain ⟨a,S1,e,q⟩:=h
 exact ⟨a,S1,by unfold L3.nx;rw [e],q⟩
theorem d0z {α:Type} {m:M α} {S S1:Sto} {a:α} (e:m S=.ok a S1):L3.nx m S=.ok a S1:=by unfold L3.nx;rw [e]
theorem Ok.try_ {g h:L3.Env->M Fl} {sub:Nat->Bool} {ie:Option Nat} {ρ:L3.Env} {S:Sto} {Q:Fl->Sto->Prop} (k:Ok (g ρ) S Q):Ok (a0y g sub ie h ρ) S Q:=by
 obtain ⟨a,S1,e,q⟩:=k
 exact ⟨a,S1,by unfold a0y;rw [e],q⟩
theorem Ok.caught {g h:L3.Env->M Fl} {sub:Nat->Bool} {ie:Option Nat} {ρ:L3.Env} {S:Sto} {Q:Fl->Sto->Prop} (k:Xn (g ρ) S λn S1=>∃ c fs,S1[n]?=some (.exc c fs)/\sub c=true/\Ok (h (b27 ie n ρ)) S1 λfl S2=>Q (a9y ie fl) S2):Ok (a0y g sub ie h ρ) S Q:=by
 obtain ⟨n,S1,e,c,fs,e1,hs,ok⟩:=k
 obtain ⟨fl,S2,e2,q⟩:=ok
 refine ⟨a9y ie fl,S2,?_,q⟩
 unfold a0y
 rw [e]
 simp only [e1,hs,if_true]
 unfold L3.bind L3.nx
 rw [e2]
 rfl
noncomputable def nxt {α:Type} (q:EvK) (lc:Lc) (sts:List Stmt) (k:Fl->M α):Fl->M α:=λfl=>match fl with
 | .nx ρ'=>j0 q lc sts ρ' k
 | fl=>k fl
section
variable {α:Type} {q:EvK} {lc:Lc} {st:Stmt} {sts:List Stmt} {ρ:L3.Env} {k:Fl->M α} {S:Sto} {Q:α->Sto->Prop} {P:Nat->Sto->Prop}
theorem Ok.first (h:Ok (q.s lc st ρ (nxt q lc sts k)) S Q):Ok (j0 q lc (st :: sts) ρ k) S Q:=h
theorem Ok.nxt (h:Ok (q.s lc st ρ (L3.nxt q lc sts k)) S Q):Ok (L3.nxt q lc (st :: sts) k (.nx ρ)) S Q:=h
theorem Xn.first (h:Xn (q.s lc st ρ (nxt q lc sts k)) S P):Xn (j0 q lc (st :: sts) ρ k) S P:=h
theorem Xn.nxt (h:Xn (q.s lc st ρ (L3.nxt q lc sts k)) S P):Xn (L3.nxt q lc (st :: sts) k (.nx ρ)) S P:=h
theorem Ok.pos {c:Prop} [Decidable c] {a b:M α} (h:c) (k:Ok a S Q):Ok (if c then a else b) S Q:=by rw [if_pos h];exact k
theorem Ok.neg {c:Prop} [Decidable c] {a b:M α} (h:¬ c) (k:Ok b S Q):Ok (if c then a else b) S Q:=by rw [if_neg h];exact k
theorem Xn.pos {c:Prop} [Decidable c] {a b:M α} (h:c) (k:Xn a S P):Xn (if c then a else b) S P:=by rw [if_pos h];exact k
theorem Xn.neg {c:Prop} [Decidable c] {a b:M α} (h:¬ c) (k:Xn b S P):Xn (if c then a else b) S P:=by rw [if_neg h];exact k
end
noncomputable def fin {α:Type} (κ:Fl->M α):Fl->M α:=λfl=>match fl with
 | .nx ρ=>κ (.nx ρ)
 | fl=>κ fl
theorem Xn.cgS {α:Type} {m m':M α} {S:Sto} {Q:Nat->Sto->Prop} (e:m S=m' S) (h:Xn m' S Q):Xn m S Q:=by
 obtain ⟨n,S1,e1,q⟩:=h
 exact ⟨n,S1,by rw [e];exact e1,q⟩
theorem Xn.eq {α β:Type} {m:M α} {k:α->M β} {S S1:Sto} {a:α} {Q:Nat->Sto->Prop} (e:m S=.ok a S1) (h:Xn (k a) S1 Q):Xn (L3.bind m k) S Q:=Xn.ok ⟨a,S1,e,h⟩
theorem Xn.mono {α:Type} {m:M α} {S:Sto} {Q Q':Nat->Sto->Prop} (h:Xn m S Q) (i:∀ n S1,Q n S1->Q' n S1):Xn m S Q':=by
 obtain ⟨n,S1,e,q⟩:=h
 exact ⟨n,S1,e,i _ _ q⟩
theorem b6w {ds:List D} {i:Nat} {x:D} {S:Sto} (h:i<ds.length) (hl:ds.length<=1000) :
  Ok (bind (y4 (.int (i:Int))) λn1=>bind (slD (.tup ds) none n1) λx2=>bind (d8 x2 (.tup [x])) λx3=>bind (d8 (.int (i:Int)) (.int 1)) λx4=>bind (y4 x4) λn5=>bind (slD (.tup ds) n5 none) λx6=>bind (d8 x3 x6) λx7=>ret x7) S λd S'=>d=.tup (ds.set i x)/\S'=S:=by
 have sl:(1001:Nat)<=sizeLine:=by decide
 have e:((i:Int)+1)=((i+1:Nat):Int):=by omega
 have c1:A6 ds none (some (i:Int))=ds.take i:=V0 (by omega)
 have c2:A6 ds (some ((i:Int)+1)) none=ds.drop (i+1):=by rw [e];exact a12 (by omega)
 refine Ok.eq (a:=some (i:Int)) rfl (Ok.eq (a:=.tup (ds.take i)) (by rw [<- c1];rfl) (Ok.eq (cat_tup (by simp;omega)) (Ok.eq (a:=.int ((i:Int)+1)) rfl (Ok.eq (a:=some ((i:Int)+1)) rfl (Ok.eq (a:=.tup (ds.drop (i+1))) (by rw [<- c2];rfl) (Ok.eq (cat_tup (by simp;omega)) (Ok.ret ⟨?_,rfl⟩)))))))
 rw [List.set_eq_take_append_cons_drop,if_pos h,List.append_assoc]
 rfl
theorem c4k {r:Nat} (h:r<100):Pln 0 (.int (r:Int)):=by
 show ((r:Int)).natAbs<=G4 0
 have:G4 0≥100:=by decide +kernel
 omega
theorem a90 {n:Nat}:∀ {ds:List D},(∀ d∈ds,sz d<=n)->szs ds<=(n+2) * ds.length
 | [],_=>Nat.le_refl _
 | d :: ds,h=>by
  have h1:=h d (by simp)
  have h2:=a90 (ds:=ds) λx hx=>h x (by simp [hx])
  show sz d+2+szs ds<=(n+2) * (ds.length+1)
  rw [Nat.mul_add]
  omega
theorem b6p (ns:List Int):∃ ms:List Int,A6 (ns.map D.int) none (some 63)=ms.map D.int:=⟨(ns.drop (HT.sIx ns.length 0 none)).take (HT.sIx ns.length ns.length (some 63)-HT.sIx ns.length 0 none),by simp [A6,List.map_drop,List.map_take]⟩
theorem b0j {n:Nat} (h:n<=6):n<sizeLine:=Nat.lt_of_le_of_lt h (by decide)
theorem v5 (n:Nat) (S:Sto):a39 0 n n S=some none:=by
 show some (if n<n then _ else none)=some none
 rw [if_neg (Nat.lt_irrefl _)]
theorem y0 {n i:Nat} (h:i<n) (S:Sto):a39 0 n i S=some (some (.int (i:Int))):=by rw [c55,n4 (List.getElem?_range h)]
theorem d0u {ds:List D} {S:Sto}:m7 (.tup ds) S=.ok (.int ds.length) S:=rfl
structure Sml (n N:Nat) (d:D):Prop where
 pl:Pln 0 d
 dp:dp d<=n
 sz:sz d<=N
def Smls (n N:Nat) (ds:List D):Prop:=∀ d∈ds,Sml n N d
theorem Smls.nil {n N:Nat}:Smls n N []:=λd h=>by cases h
theorem Smls.cons {n N:Nat} {d:D} {ds:List D} (h:Sml n N d) (hs:Smls n N ds):Smls n N (d :: ds):=λx hx=>by
 rcases List.mem_cons.mp hx with z | z
 ·rw [z];exact h
 ·exact hs x z
theorem Smls.map {α:Type} {n N:Nat} {f:α->D} {l:List α} (h:∀ a∈l,Sml n N (f a)):Smls n N (l.map f):=λx hx=>by
 obtain ⟨a,ha,rfl⟩:=List.mem_map.mp hx
 exact h a ha
theorem Sml.mono {n N n' N':Nat} {d:D} (h:Sml n N d) (h1:n<=n') (h2:N<=N'):Sml n' N' d:=⟨h.pl,Nat.le_trans h.dp h1,Nat.le_trans h.sz h2⟩
theorem Sml.up {n N n' N':Nat} {d:D} (h:Sml n N d) (h1:n<=n':=by decide) (h2:N<=N':=by decide):Sml n' N' d:=h.mono h1 h2
theorem Sml.tup {n N m:Nat} {ds:List D} (h:Smls n N ds) (hl:ds.length<=m):Sml (n+1) ((N+2) * m+3) (.tup ds):=by
 have s:=a90 (n:=N) λd hd=>(h d hd).sz
 have d1:=a17 (n:=n) λd hd=>(h d hd).dp
 refine ⟨Plns.of λd hd=>(h d hd).pl,by show dps ds+1<=n+1;omega,?_⟩
 show szs ds+3<=_
 have:=Nat.mul_le_mul_left (N+2) hl
 omega
theorem Sml.nat {n N i:Nat} (h:i<100) (hN:60<=N:=by decide):Sml n N (.int (i:Int)):=⟨c4k h,Nat.zero_le _,hN⟩
theorem Sml.w {n N:Nat} {d:D} (h:smB n N d=true:=by decide +kernel):Sml n N d:=⟨(y9 h).1,(y9 h).2.1,(y9 h).2.2⟩
theorem Sml.any {n N:Nat} {d:D} (h:Sml n N d) (hn:n<=43):Any 40 N d:=⟨h.pl.ups,by have:=h.dp;omega,h.sz⟩
theorem a1l (a b:Int) (S:Sto):b8 .Eq (.int a) (.int b) S=.ok (.bl (decide (a=b))) S:=rfl
theorem a91 (a b:Int) (S:Sto):b8 .NotEq (.int a) (.int b) S=.ok (.bl (!decide (a=b))) S:=rfl
theorem c1q (a b:Int) (S:Sto):b8 .LtE (.int a) (.int b) S=.ok (.bl (decide (a<=b))) S:=rfl
theorem a3a (a b:Int) (S:Sto):b8 .Lt (.int a) (.int b) S=.ok (.bl (decide (a<b))) S:=rfl
theorem c1p (a b:Int) (S:Sto):b8 .GtE (.int a) (.int b) S=.ok (.bl (decide (b<=a))) S:=rfl
theorem a84 (a b:Int) (S:Sto):b8 .Gt (.int a) (.int b) S=.ok (.bl (decide (b<a))) S:=rfl
theorem E5 (a b:Nat) (S:Sto):d8 (.int (a:Int)) (.int (b:Int)) S=.ok (.int ((a+b:Nat):Int)) S:=by
 show R.ok (D.int ((a:Int)+(b:Int))) S=_
 rw [show ((a:Int)+(b:Int))=((a+b:Nat):Int) by omega]
theorem a65 {a b:Nat} (h:b<=a) (S:Sto):a74 (.int (a:Int)) (.int (b:Int)) S=.ok (.int ((a-b:Nat):Int)) S:=by
 show R.ok (D.int ((a:Int)-(b:Int))) S=_
 rw [show ((a:Int)-(b:Int))=((a-b:Nat):Int) by omega]
theorem nx_bind {α β:Type} {m:M α} {k:α->M β} {S:Sto} {Q:β->Sto->Prop} (h:Ok m S λa S1=>Ok (k a) S1 Q):Ok (L3.bind (L3.nx m) k) S Q:=Ok.bind (Ok.nx h)
theorem i6 {α:Type} {m:M α} {S:Sto} {a:α} (h:Ok m S λd S'=>d=a/\S'=S):m S=.ok a S:=by
 obtain ⟨d,S',e,rfl,rfl⟩:=h
 exact e
theorem raise_k {α:Type} {c:Nat} {fs:List Str} {ds:List D} {S:Sto} {κ:Fl->M α} (h1:ds.length=fs.length) (h2:ds.all (D3 S)=true):Xn (L3.bind (K6 c fs ds) λd=>L3.bind (w5 d) κ) S λn S'=>n=S.length/\S'=S++[.exc c (fs.zip ds)]:=by
 refine Xn.ok ⟨_,_,c3v h1 h2,Xn.bind ⟨S.length,S++[.exc c (fs.zip ds)],?_,rfl,rfl⟩⟩
 simp [w5]
theorem Ok.loop {src:Src} {tg:D->L3.Env->Option L3.Env} {body:L3.Env->M Fl} {n:Nat} (I:Nat->L3.Env->Sto->Prop) (hend:∀ ρ S,I n ρ S->src n S=some none)
  (step:∀ i ρ S,i<n->I i ρ S->∃ d ρ1,src i S=some (some d)/\tg d ρ=some ρ1/\Ok (body ρ1) S λfl S'=>∃ ρ',(fl=.nx ρ'\/fl=.ct ρ')/\I (i+1) ρ' S') {ρ:L3.Env} {S:Sto} (h:I 0 ρ S) :
  Ok (p9 src tg body (n+1) 0 ρ) S λfl S'=>∃ ρ',fl=.nx ρ'/\I n ρ' S':=by
 refine (Ok.for_ (n:=n) I (λ_ _=>False) (λ_ _=>False) hend (λi ρ S hi h=>?_) n 0 ρ S (by omega) h).mono ?_
 ·obtain ⟨d,ρ1,e1,e2,k⟩:=step i ρ S hi h
  refine ⟨d,ρ1,e1,e2,k.mono ?_⟩
  rintro fl S' ⟨ρ',rfl | rfl,q⟩
  ·exact q
  ·exact q
 ·rintro fl S' hf
  cases fl with
  | nx ρ'=>
   rcases hf with q | q
   ·exact ⟨ρ',rfl,q⟩
   ·exact q.elim
  | rt d=>exact hf.elim
  | bk ρ=>exact hf.elim
  | ct ρ=>exact hf.elim
theorem b5h {ns:List Int} {p N m:Nat} {S:Sto} (h:Fw ns p (N+1) S) (hm:0<m) (hm2:m<1073741824):Ok (a9z (.ref p) (.int (m:Int))) S λd S'=>∃ r:Nat,d=.int (r:Int)/\r<m/\Fw ns p N S'/\S'.length=S.length/\∀ q,q≠p->S'[q]?=S[q]?:=by
 obtain ⟨a,l,t,e,h1,h2,h3,h4⟩:=h
 obtain ⟨r,a',l',e1,r0,r1,ha,hl⟩:=b4z (m:=(m:Int)) e h1 h2 h3 (by omega) (by omega) (by omega)
 obtain ⟨r,rfl⟩:=Int.eq_ofNat_of_zero_le r0
 refine ⟨_,_,e1,r,rfl,by omega,⟨a',l',t+1,?_,ha,hl,by omega,by omega⟩,by simp,λq hq=>?_⟩
 ·rw [List.getElem?_set_self (List.getElem?_eq_some_iff.mp e).1]
 ·rw [List.getElem?_set_ne (Ne.symm hq)]
end L3
namespace L3.Nt
open PySem PySem.Spec PyProof.Rows L2
inductive Wd where
 | out | ask | close | look | holds
noncomputable def Wd.s:Wd->Str
 | .out=>"out"
 | .ask=>"ask"
 | .close=>"close"
 | .look=>"look"
 | .holds=>"holds"
noncomputable def Wd.d (w:Wd):D:=.str w.s
noncomputable def P8 (b:Bool):Str:=if b=true then "down" else "right"
noncomputable def j4 (b:Bool):D:=.str (P8 b)
noncomputable def trD (t:List Bool):D:=.tup (t.map j4)
noncomputable def oD:Option Nat->D
 | none=>.non
 | some h=>.int (h:Int)
noncomputable abbrev Hnd:=List Bool×Wd
noncomputable def hdD (h:Hnd):D:=.tup [trD h.1,h.2.d]
noncomputable abbrev Box:=Option Nat×Bool
noncomputable def bxD (b:Box):D:=.tup [oD b.1,.bl b.2]
structure Nst where
 bx:List Box
 hs:List Hnd
noncomputable def Nst.d (r:Nst):D:=.tup [.tup (r.bx.map bxD),.tup (r.hs.map hdD)]
noncomputable def tri (n:Nat):Nat:=n * (n+1) / 2
noncomputable def dn (t:List Bool):Nat:=t.countP id
noncomputable def rt (t:List Bool):Nat:=t.countP λb=>!b
theorem a6f (t:List Bool):dn t+rt t=t.length:=by
 unfold dn rt
 induction t with
 | nil=>rfl
 | cons b t ih=>cases b <;> simp [List.countP_cons] <;> omega
theorem b8o (t:List Bool) (b:Bool):dn (t++[b])=dn t+(if b=true then 1 else 0):=by unfold dn;cases b <;> simp [List.countP_append]
theorem c0z (t:List Bool) (b:Bool):rt (t++[b])=rt t+(if b=true then 0 else 1):=by unfold rt;cases b <;> simp [List.countP_append]
theorem a1v:∀ t:List Bool,v9 (t.map j4)=some (t.map P8)
 | []=>rfl
 | b :: t=>by
  show (v9 (t.map j4)).map (P8 b :: ·)=_
  rw [a1v t];rfl
theorem a85 (b:Bool) (t:List Bool):dn (b :: t)=(if b=true then 1 else 0)+dn t:=by unfold dn;cases b <;> simp [List.countP_cons] <;> omega
theorem a8c (b:Bool) (t:List Bool):rt (b :: t)=(if b=true then 0 else 1)+rt t:=by unfold rt;cases b <;> simp [List.countP_cons] <;> omega
theorem a14:∀ t:List Bool,countIn (.str "down") ((t.map P8).map PyData.str)=(dn t:Int)
 | []=>rfl
 | true :: t=>by
  have e:countIn (.str "down") (((true :: t).map P8).map PyData.str)=1+countIn (.str "down") ((t.map P8).map PyData.str):=rfl
  rw [e,a14 t,a85,if_pos rfl];omega
 | false :: t=>by
  have e:countIn (.str "down") (((false :: t).map P8).map PyData.str)=0+countIn (.str "down") ((t.map P8).map PyData.str):=rfl
  rw [e,a14 t,a85,if_neg Bool.false_ne_true];omega
theorem X5:∀ t:List Bool,countIn (.str "right") ((t.map P8).map PyData.str)=(rt t:Int)
 | []=>rfl
 | true :: t=>by
  have e:countIn (.str "right") (((true :: t).map P8).map PyData.str)=0+countIn (.str "right") ((t.map P8).map PyData.str):=rfl
  rw [e,X5 t,a8c,if_pos rfl];omega
 | false :: t=>by
  have e:countIn (.str "right") (((false :: t).map P8).map PyData.str)=1+countIn (.str "right") ((t.map P8).map PyData.str):=rfl
  rw [e,X5 t,a8c,if_neg Bool.false_ne_true];omega
theorem c0r (t:List Bool) (S:Sto):countT (trD t) [.str "down"] S=.ok (.int (dn t:Int)) S:=by
 show (match v9 (t.map j4) with
  | some ys=>ret (D.int (countIn (.str "down") (ys.map PyData.str)))
  | none=>bad) S=_
 rw [a1v]
 show R.ok (D.int (countIn (.str "down") ((t.map P8).map PyData.str))) S=_
 rw [a14]
theorem b3d (t:List Bool) (S:Sto):countT (trD t) [.str "right"] S=.ok (.int (rt t:Int)) S:=by
 show (match v9 (t.map j4) with
  | some ys=>ret (D.int (countIn (.str "right") (ys.map PyData.str)))
  | none=>bad) S=_
 rw [a1v]
 show R.ok (D.int (countIn (.str "right") ((t.map P8).map PyData.str))) S=_
 rw [X5]
noncomputable def r8 (size:Nat):List (Nat×Nat):=(List.range size).flatMap λb=>(List.range (b+1)).map λr=>(r,b-r)
noncomputable def cD (c:Nat×Nat):D:=.tup [.int (c.1:Int),.int (c.2:Int)]
theorem O1 {size:Nat} (h:size<=5):(r8 size).length=tri size:=by
 have:size=0\/size=1\/size=2\/size=3\/size=4\/size=5:=by omega
 rcases this with rfl | rfl | rfl | rfl | rfl | rfl <;> decide
theorem c0j:((List.range 6).all λsize=>(List.range 5).all λd=>(List.range 5).all λr=>(List.range 15).all λn=>!(decide (d+r<size))||(match (r8 size)[n]? with
  | some c=>(decide (tri (d+r)+d=n))==(decide ((d,r)=c))
  | none=>true))=true:=by decide +kernel
theorem c4l {size d r n:Nat} {c:Nat×Nat} (h5:size<=5) (hs:d+r<size) (hc:(r8 size)[n]?=some c):decide (tri (d+r)+d=n)=decide ((d,r)=c):=by
 have hn:n<15:=by
  have h1:=(List.getElem?_eq_some_iff.mp hc).1
  rw [O1 h5] at h1
  have:size=0\/size=1\/size=2\/size=3\/size=4\/size=5:=by omega
  rcases this with rfl | rfl | rfl | rfl | rfl | rfl <;> exact Nat.lt_of_lt_of_le h1 (by decide)
 have a:=List.all_eq_true.mp c0j size (List.mem_range.mpr (by omega))
 have a:=List.all_eq_true.mp a d (List.mem_range.mpr (by omega))
 have a:=List.all_eq_true.mp a r (List.mem_range.mpr (by omega))
 have a:=List.all_eq_true.mp a n (List.mem_range.mpr hn)
 rw [decide_eq_true hs,hc] at a
 simpa using a
noncomputable def j7 (p:Nat->Bool) (h:Hnd):D:=match (List.range h.1.length).find? p with
 | some i=>j4 (h.1.getD i false)
 | none=>if p h.1.length=true then h.2.d else .str "out"
theorem b0i {p q:Nat->Bool} {h:Hnd} (e:∀ i,i<=h.1.length->p i=q i):j7 p h=j7 q h:=by
 have e1:(List.range h.1.length).find? p=(List.range h.1.length).find? q:=by
  have:∀ l:List Nat,(∀ i∈l,p i=q i)->l.find? p=l.find? q:=by
   intro l
   induction l with
   | nil=>intro _;rfl
   | cons x l ih=>
    intro hl
    rw [List.find?_cons,List.find?_cons,hl x (by simp),ih λi hi=>hl i (by simp [hi])]
  exact this _ λi hi=>e i (by have:=List.mem_range.mp hi;omega)
 unfold j7
 rw [e1,e h.1.length (Nat.le_refl _)]
theorem B0 {p:Nat->Bool} {n:Nat} (h:∀ j,j<n->p j=false):(List.range n).find? p=none:=by
 rw [List.find?_eq_none]
 intro x hx
 rw [h x (List.mem_range.mp hx)];exact Bool.false_ne_true
theorem a30 {p:Nat->Bool} {n i:Nat} (hi:i<n) (h:∀ j,j<i->p j=false) (hp:p i=true):(List.range n).find? p=some i:=by
 have:List.range n=List.range i++(List.range' i (n-i)):=by
  rw [List.range_eq_range',List.range_eq_range']
  have e:=List.range'_append_1 (s:=0) (m:=i) (n:=n-i)
  rw [show i+(n-i)=n by omega,Nat.zero_add] at e
  exact e.symm
 rw [this,List.find?_append,B0 h]
 obtain ⟨m,hm⟩:∃ m,n-i=m+1:=⟨n-i-1,by omega⟩
 rw [hm,List.range'_succ,List.find?_cons,hp]
 rfl
end L3.Nt
namespace L3
open PySem PySem.Spec PyProof.Rows L2
theorem c2m {ws:List Str} (hw:∀ w∈ws,Asc w) (S:Sto):b8 .Eq (.lst (ws.map D.str)) (.lst []) S=.ok (.bl (decide (ws=[]))) S/\b8 .NotEq (.lst (ws.map D.str)) (.lst []) S=.ok (.bl (!decide (ws=[]))) S:=by
 have e:i9 64 S (.lst (ws.map D.str))=some (.list (ws.map PyData.str)):=by
  show (k7 (i9 63 S) (ws.map D.str)).map PyData.list=_
  rw [N7 62 S ws];rfl
 have e0:i9 64 S (.lst [])=some (.list []):=rfl
 have l:(PyData.list (ws.map PyData.str)).canLay0=true:=by simp only [PyData.canLay0];exact V4 ws hw
 have v:PyData.eqv (.list (ws.map PyData.str)) (.list [])=decide (ws=[]):=by
  cases ws with
  | nil=>rfl
  | cons w ws=>rfl
 have g:∀ neg:Bool,eqP neg (.lst (ws.map D.str)) (.lst []) S=.ok (.bl (if neg then !decide (ws=[]) else decide (ws=[]))) S:=by
  intro neg
  unfold eqP
  rw [e,e0]
  simp only
  rw [if_pos ⟨l,rfl,by rw [show PyData.depth (.list [])=1 from rfl];omega⟩,v];rfl
 exact ⟨g false,g true⟩
end L3
namespace L3.Nt
open PySem PySem.Spec PyProof.Rows L2
inductive W7 where
 | out | ask | close | look | holds | right | down
deriving DecidableEq
noncomputable def W7.s:W7->Str
 | .out=>"out"
 | .ask=>"ask"
 | .close=>"close"
 | .look=>"look"
 | .holds=>"holds"
 | .right=>"right"
 | .down=>"down"
noncomputable def W7.d (w:W7):D:=.str w.s
theorem W7.asc (w:W7):Asc w.s:=by
 show ∀ c∈w.s.cps.toList,c<128
 cases w <;> decide +kernel
noncomputable def Wd.w7:Wd->W7
 | .out=>.out
 | .ask=>.ask
 | .close=>.close
 | .look=>.look
 | .holds=>.holds
noncomputable def b6i (b:Bool):W7:=if b=true then .down else .right
theorem Wd.w7_d (w:Wd):w.w7.d=w.d:=by cases w <;> rfl
theorem c2p (b:Bool):(b6i b).d=j4 b:=by cases b <;> rfl
noncomputable def K4 (p:Nat->Bool) (h:Hnd):W7:=match (List.range h.1.length).find? p with
 | some i=>b6i (h.1.getD i false)
 | none=>if p h.1.length=true then h.2.w7 else .out
theorem a86 (p:Nat->Bool) (h:Hnd):(K4 p h).d=j7 p h:=by
 unfold K4 j7
 cases (List.range h.1.length).find? p with
 | some i=>exact c2p _
 | none=>
  simp only
  by_cases q:p h.1.length=true
  ·rw [if_pos q,if_pos q];exact Wd.w7_d _
  ·rw [if_neg q,if_neg q];rfl
noncomputable def op4:W7->Bool
 | .look | .holds | .right | .down=>true
 | _=>false
noncomputable def cl3:W7->Bool
 | .look | .holds | .down=>true
 | _=>false
noncomputable def amM (ws:List W7):Option Nat->Str
 | none=>if ws.any (λw=>decide (w≠.out))=true then "free" else ""
 | some g=>if ws[g]?=some .out\/ws[g]?=some .down then "mark" else if ws.any (λw=>decide (w=.holds))=true/\(ws[g]?=some .close\/ws[g]?=some .look) then "late" else if 1<ws.countP (λw=>decide (w=.holds)) then "twice" else ""
noncomputable def amH (mk:Option Nat) (cl:Bool) (ws:List W7):Str:=
 if cl=false/\ws.any op4=true then "open" else if cl=true/\ws.any cl3=false then "closed" else amM ws mk
theorem c1d (l:List W7):l.map W7.d=(l.map W7.s).map D.str:=by rw [List.map_map];rfl
theorem b53 (l:List W7) (S:Sto):b8 .Eq (.lst (l.map W7.d)) (.lst []) S=.ok (.bl l.isEmpty) S/\b8 .NotEq (.lst (l.map W7.d)) (.lst []) S=.ok (.bl (!l.isEmpty)) S:=by
 have h:=c2m (ws:=l.map W7.s) (λw hw=>by obtain ⟨a,_,rfl⟩:=List.mem_map.mp hw;exact a.asc) S
 rw [<- c1d] at h
 have e:decide (l.map W7.s=[])=l.isEmpty:=by cases l <;> rfl
 rw [e] at h
 exact h
theorem filter_nil (p:W7->Bool) (l:List W7):(l.filter p).isEmpty=!(l.any p):=by
 induction l with
 | nil=>rfl
 | cons x l ih=>cases h:p x <;> simp [List.filter_cons,h,ih]
structure GoodL (mk:Option Nat) (cl:Bool) (ws:List W7):Prop where
 g1:cl=false->∀ w∈ws,op4 w=false
 g2:cl=true->∃ w∈ws,cl3 w=true
 g3:mk=none->∀ w∈ws,w=.out
 g4:∀ g,mk=some g->∃ w,ws[g]?=some w/\w≠.out/\w≠.down
 g5:∀ g,mk=some g->(ws[g]?=some .close\/ws[g]?=some .look)->∀ w∈ws,w≠.holds
 g6:ws.countP (λw=>decide (w=.holds))<=1
theorem a3o {mk:Option Nat} {cl:Bool} {ws:List W7} (hm:∀ g,mk=some g->g<ws.length):amH mk cl ws = ""↔GoodL mk cl ws:=by
 have ne:∀ x:Str,x = "open"\/x = "closed"\/x = "free"\/x = "mark"\/x = "late"\/x = "twice"->x ≠ "":=by
  rintro x (rfl | rfl | rfl | rfl | rfl | rfl) <;> decide
 constructor
 ·intro h
  unfold amH at h
  split at h
  ·exact absurd h (ne _ (.inl rfl))
  ·rename_i q1
   split at h
   ·exact absurd h (ne _ (.inr (.inl rfl)))
   ·rename_i q2
    have a1:cl=false->∀ w∈ws,op4 w=false:=λc w hw=>by
     cases e:op4 w with
     | false=>rfl
     | true=>exact absurd ⟨c,List.any_eq_true.mpr ⟨w,hw,e⟩⟩ q1
    have a2:cl=true->∃ w∈ws,cl3 w=true:=λc=>by
     cases e:ws.any cl3 with
     | false=>exact absurd ⟨c,e⟩ q2
     | true=>exact List.any_eq_true.mp e
    cases mk with
    | none=>
     unfold amM at h
     simp only at h
     split at h
     ·exact absurd h (ne _ (.inr (.inr (.inl rfl))))
     ·rename_i q3
      have a3:∀ w∈ws,w=.out:=λw hw=>by
       by_cases e:w=.out
       ·exact e
       ·exact absurd (List.any_eq_true.mpr ⟨w,hw,decide_eq_true e⟩) q3
      refine ⟨a1,a2,λ_=>a3,λg z=>(by cases z),λg z=>(by cases z),?_⟩
      rw [List.countP_eq_zero.mpr λw hw=>by rw [a3 w hw];decide];omega
    | some g=>
     unfold amM at h
     simp only at h
     split at h
     ·exact absurd h (ne _ (.inr (.inr (.inr (.inl rfl)))))
     ·rename_i q3
      split at h
      ·exact absurd h (ne _ (.inr (.inr (.inr (.inr (.inl rfl))))))
      ·rename_i q4
       split at h
       ·exact absurd h (ne _ (.inr (.inr (.inr (.inr (.inr rfl))))))
       ·rename_i q5
        refine ⟨a1,a2,λz=>(by cases z),λg' z=>?_,λg' z hz w hw e=>?_,by omega⟩
        ·cases z
         obtain ⟨w,hw⟩:∃ w,ws[g]?=some w:=⟨_,List.getElem?_eq_getElem (hm g rfl)⟩
         exact ⟨w,hw,λe=>q3 (.inl (by rw [hw,e])),λe=>q3 (.inr (by rw [hw,e]))⟩
        ·cases z
         exact q4 ⟨List.any_eq_true.mpr ⟨w,hw,decide_eq_true e⟩,hz⟩
 ·intro G
  unfold amH
  rw [if_neg,if_neg]
  ·cases mk with
   | none=>
    unfold amM
    simp only
    rw [if_neg]
    intro z
    obtain ⟨w,hw,e⟩:=List.any_eq_true.mp z
    exact of_decide_eq_true e (G.g3 rfl w hw)
   | some g=>
    obtain ⟨w,hw,e1,e2⟩:=G.g4 g rfl
    unfold amM
    simp only
    rw [if_neg,if_neg,if_neg]
    ·have:=G.g6;omega
    ·rintro ⟨z,y⟩
     obtain ⟨v,hv,e⟩:=List.any_eq_true.mp z
     exact G.g5 g rfl y v hv (of_decide_eq_true e)
    ·rw [hw]
     rintro (z | z)
     ·exact e1 (Option.some.inj z)
     ·exact e2 (Option.some.inj z)
  ·rintro ⟨c,z⟩
   obtain ⟨w,hw,e⟩:=G.g2 c
   rw [List.any_eq_true.mpr ⟨w,hw,e⟩] at z;cases z
  ·rintro ⟨c,z⟩
   obtain ⟨w,hw,e⟩:=List.any_eq_true.mp z
   rw [G.g1 c w hw] at e;cases e
theorem c0n {ws:List W7} {i:Nat} {x y v:W7} (hi:ws[i]?=some x) (hv:v∈ws) (hne:v≠x):v∈ws.set i y:=by
 obtain ⟨j,hj⟩:=List.mem_iff_getElem?.mp hv
 have:i≠j:=λe=>hne (by rw [e,hj] at hi;exact Option.some.inj hi)
 exact List.mem_iff_getElem?.mpr ⟨j,by rw [List.getElem?_set_ne this];exact hj⟩
theorem c03 {ws:List W7} {i:Nat} {x y:W7} (hi:ws[i]?=some x) (p:W7->Bool):(ws.set i y).countP p+(if p x=true then 1 else 0)=ws.countP p+(if p y=true then 1 else 0):=by
 induction ws generalizing i with
 | nil=>cases hi
 | cons a ws ih=>
  cases i with
  | zero=>
   cases hi
   rw [List.set_cons_zero,List.countP_cons,List.countP_cons];omega
  | succ i=>
   rw [List.set_cons_succ,List.countP_cons,List.countP_cons]
   have:=ih (i:=i) hi
   omega
theorem GoodL.put {mk mk':Option Nat} {cl cl':Bool} {ws:List W7} (G:GoodL mk cl ws) {i:Nat} {x y:W7} (hi:ws[i]?=some x)
  (h1:cl'=false->op4 y=false/\cl=false)
  (h2:cl'=true->cl3 y=true\/(cl=true/\cl3 x=false))
  (h3:mk'=none->False)
  (h4:∀ g,mk'=some g->if g=i then y≠.out/\y≠.down else mk=some g)
  (h5:∀ g,mk'=some g->if g=i then (y=.close\/y=.look)->∀ w∈ws,w≠.holds else (ws[g]?=some .close\/ws[g]?=some .look)->y≠.holds)
  (h6:y=.holds->x=.holds\/∀ w∈ws,w≠.holds) (h7:x≠.holds):GoodL mk' cl' (ws.set i y):=by
 have il:i<ws.length:=(List.getElem?_eq_some_iff.mp hi).1
 have ms:∀ w∈ws.set i y,w=y\/w∈ws:=λw hw=>(List.mem_or_eq_of_mem_set hw).elim .inr .inl
 refine ⟨λc w hw=>?_,λc=>?_,λz=>(h3 z).elim,λg hg=>?_,λg hg hz w hw e=>?_,?_⟩
 ·obtain ⟨a,b⟩:=h1 c
  rcases ms w hw with rfl | z
  ·exact a
  ·exact G.g1 b w z
 ·rcases h2 c with a | ⟨a,b⟩
  ·exact ⟨y,List.mem_iff_getElem?.mpr ⟨i,List.getElem?_set_self il⟩,a⟩
  ·obtain ⟨w,hw,e⟩:=G.g2 a
   exact ⟨w,c0n hi hw (λz=>by rw [z,b] at e;cases e),e⟩
 ·have a:=h4 g hg
  by_cases q:g=i
  ·rw [if_pos q] at a
   exact ⟨y,by rw [q];exact List.getElem?_set_self il,a⟩
  ·rw [if_neg q] at a
   obtain ⟨w,hw,e⟩:=G.g4 g a
   exact ⟨w,by rw [List.getElem?_set_ne (Ne.symm q)];exact hw,e⟩
 ·have a:=h5 g hg
  by_cases q:g=i
  ·rw [if_pos q] at a
   rw [q,List.getElem?_set_self il] at hz
   have hz':y=.close\/y=.look:=hz.imp Option.some.inj Option.some.inj
   rcases ms w hw with z | z
   ·rw [z] at e;rw [e] at hz';rcases hz' with z | z <;> cases z
   ·exact a hz' w z e
  ·rw [if_neg q] at a
   rw [List.getElem?_set_ne (Ne.symm q)] at hz
   have b:=h4 g hg
   rw [if_neg q] at b
   rcases ms w hw with z | z
   ·exact a hz (by rw [<- z];exact e)
   ·exact G.g5 g b hz w z e
 ·have c:=c03 (y:=y) hi (λw=>decide (w=.holds))
  rw [if_neg (by rw [decide_eq_false h7];decide)] at c
  have g6:=G.g6
  by_cases q:y=.holds
  ·rcases h6 q with z | z
   ·exact absurd z h7
   ·have c0:ws.countP (λw=>decide (w=.holds))=0:=List.countP_eq_zero.mpr λw hw=>by rw [decide_eq_false (z w hw)];decide
    rw [c0] at c
    split at c <;> omega
  ·rw [if_neg (by rw [decide_eq_false q];decide)] at c
   omega
theorem a67 {a b:Nat} (hab:a<b):tri a+a<tri b:=by
 have e:∀ n,tri (n+1)=tri n+(n+1):=by
  intro n;unfold tri
  have:(n+1) * (n+1+1)=n * (n+1)+(n+1) * 2:=by
   rw [Nat.mul_add (n+1) (n+1) 1,Nat.add_mul n 1 (n+1)];omega
  rw [this,Nat.add_mul_div_right _ _ (by omega)]
 induction hab with
 | refl=>rw [e];omega
 | step _ ih=>rw [e];omega
noncomputable def E8 (c:Nat×Nat):Nat:=tri (c.1+c.2)+c.1
theorem b3h {c d:Nat×Nat} (h:E8 c=E8 d):c=d:=by
 unfold E8 at h
 rcases Nat.lt_trichotomy (c.1+c.2) (d.1+d.2) with q | q | q
 ·have:=a67 q;omega
 ·rw [q] at h
  exact Prod.ext (by omega) (by omega)
 ·have:=a67 q;omega
noncomputable def u8 (t:List Bool):Nat×Nat:=(dn t,rt t)
theorem R9 (t:List Bool):(u8 t).1+(u8 t).2=t.length:=a6f t
noncomputable def m6 (t:List Bool):Nat:=tri t.length+dn t
theorem a4t (t:List Bool):m6 t=E8 (u8 t):=by unfold m6 E8;rw [R9];rfl
noncomputable def w7c (c:Nat×Nat) (h:Hnd):W7:=if c.1+c.2<h.1.length/\u8 (h.1.take (c.1+c.2))=c then b6i (h.1.getD (c.1+c.2) false) else if u8 h.1=c then h.2.w7 else .out
theorem b5f {t:List Bool} {j:Nat} (hj:j<=t.length):(u8 (t.take j)).1+(u8 (t.take j)).2=j:=by rw [R9,List.length_take];omega
noncomputable def pC (t:List Bool) (c:Nat×Nat) (i:Nat):Bool:=decide ((dn (t.take i),rt (t.take i))=c)
theorem a9d (c:Nat×Nat) (h:Hnd):K4 (pC h.1 c) h=w7c c h:=by
 have hp:∀ j,j<=h.1.length->pC h.1 c j=true->j=c.1+c.2:=λj hj e=>by
  have e:u8 (h.1.take j)=c:=of_decide_eq_true e
  have:=b5f hj
  rw [e] at this;omega
 unfold K4 w7c
 by_cases q:c.1+c.2<h.1.length/\u8 (h.1.take (c.1+c.2))=c
 ·rw [if_pos q,a30 q.1 (λj hj=>?_) (decide_eq_true q.2)]
  cases e:pC h.1 c j with
  | false=>rfl
  | true=>have:=hp j (by omega) e;omega
 ·rw [if_neg q,B0 λj hj=>?_]
  ·simp only
   have:pC h.1 c h.1.length=decide (u8 h.1=c):=by unfold pC;rw [List.take_length];rfl
   rw [this]
   by_cases z:u8 h.1=c
   ·rw [if_pos (decide_eq_true z),if_pos z]
   ·rw [if_neg (by rw [decide_eq_false z];decide),if_neg z]
  ·cases e:pC h.1 c j with
   | false=>rfl
   | true=>
    have:=hp j (by omega) e
    subst this
    exact absurd ⟨hj,of_decide_eq_true e⟩ q
theorem c12 (t:List Bool) (w:Wd):w7c (u8 t) (t,w)=w.w7:=by
 unfold w7c
 rw [if_neg (λz=>by have:=z.1;rw [R9] at this;exact Nat.lt_irrefl _ this),if_pos rfl]
theorem c2a {c:Nat×Nat} {t:List Bool} (w w':Wd) (h:c≠u8 t):w7c c (t,w')=w7c c (t,w):=by
 unfold w7c
 simp only
 by_cases q:c.1+c.2<t.length/\u8 (t.take (c.1+c.2))=c
 ·rw [if_pos q,if_pos q]
 ·rw [if_neg q,if_neg q,if_neg (Ne.symm h),if_neg (Ne.symm h)]
theorem c6j (t:List Bool) (b:Bool) (w:Wd):w7c (u8 t) (t++[b],w)=b6i b:=by
 unfold w7c
 simp only
 rw [R9,if_pos ⟨by simp,by rw [List.take_left]⟩]
 simp
theorem b9e {c:Nat×Nat} {t:List Bool} (b:Bool) (w:Wd) (h:c≠u8 t):w7c c (t++[b],.out)=w7c c (t,w):=by
 unfold w7c
 simp only
 by_cases q:c.1+c.2<t.length
 ·have e:(t++[b]).take (c.1+c.2)=t.take (c.1+c.2):=List.take_append_of_le_length (by omega)
  have e2:(t++[b]).getD (c.1+c.2) false=t.getD (c.1+c.2) false:=by simp [List.getD,List.getElem?_append_left q]
  rw [e,e2]
  by_cases z:u8 (t.take (c.1+c.2))=c
  ·rw [if_pos ⟨by simp;omega,z⟩,if_pos ⟨q,z⟩]
  ·have h1:¬ (c.1+c.2<(t++[b]).length/\u8 (t.take (c.1+c.2))=c):=λy=>z y.2
   have h2:¬ (c.1+c.2<t.length/\u8 (t.take (c.1+c.2))=c):=λy=>z y.2
   rw [if_neg h1,if_neg h2,if_neg (Ne.symm h)]
   exact ite_self _
 ·have h1:¬ (c.1+c.2<(t++[b]).length/\u8 ((t++[b]).take (c.1+c.2))=c):=λy=>by
   have l:=y.1
   rw [List.length_append,List.length_singleton] at l
   have e:c.1+c.2=t.length:=by omega
   have y2:=y.2
   rw [e,List.take_left] at y2
   exact h y2.symm
  have h2:¬ (c.1+c.2<t.length/\u8 (t.take (c.1+c.2))=c):=λy=>q y.1
  rw [if_neg h1,if_neg h2,if_neg (Ne.symm h)]
  exact ite_self _
structure VN (size many:Nat) (r:Nst):Prop where
 s5:size<=5
 m5:many<=5
 bl:r.bx.length=tri size
 hl:r.hs.length=many
 tr:∀ h∈r.hs,h.1.length<size
 mg:∀ b∈r.bx,∀ g,b.1=some g->g<many
noncomputable def t9 (size:Nat) (r:Nst) (i n:Nat) (b:Box) (t:List Bool) (w:Wd):Option Nst:=if size<=t.length then none else some ⟨r.bx.set n b,r.hs.set i (t,w)⟩
noncomputable def D2 (size:Nat) (r:Nst) (i:Nat):Option Nst:=match r.hs[i]? with
 | none=>none
 | some (t,w)=>match r.bx[m6 t]? with
  | none=>none
  | some (mk,cl)=>match w with
   | .out=>t9 size r i (m6 t) (some i,cl) t .ask
   | .ask=>if cl=true then t9 size r i (m6 t) (mk,cl) (t++[false]) .out else t9 size r i (m6 t) (mk,cl) t .close
   | .close=>t9 size r i (m6 t) (mk,true) t .look
   | .look=>if mk=some i then t9 size r i (m6 t) (mk,cl) t .holds else t9 size r i (m6 t) (mk,cl) (t++[true]) .out
   | .holds=>none
noncomputable def c5v (size:Nat) (r:Nst) (i:Nat) (t:List Bool) (mk:Option Nat) (cl:Bool):Wd->Option Nst
 | .out=>t9 size r i (m6 t) (some i,cl) t .ask
 | .ask=>if cl=true then t9 size r i (m6 t) (mk,cl) (t++[false]) .out else t9 size r i (m6 t) (mk,cl) t .close
 | .close=>t9 size r i (m6 t) (mk,true) t .look
 | .look=>if mk=some i then t9 size r i (m6 t) (mk,cl) t .holds else t9 size r i (m6 t) (mk,cl) (t++[true]) .out
 | .holds=>none
theorem b5s {size:Nat} {r:Nst} {i:Nat} {t:List Bool} {w:Wd} {mk:Option Nat} {cl:Bool} (ha:r.hs[i]?=some (t,w)) (hb:r.bx[m6 t]?=some (mk,cl)):D2 size r i=c5v size r i t mk cl w:=by
 unfold D2
 rw [ha];simp only;rw [hb]
 cases w <;> rfl
def GoodN (size:Nat) (r:Nst):Prop:=∀ c:Nat×Nat,c.1+c.2<size->∃ b:Box,r.bx[E8 c]?=some b/\GoodL b.1 b.2 (r.hs.map (w7c c))
theorem b2x {α:Type} {l:List α} {i:Nat} {a:α} (h:l[i]?=some a):l.set i a=l:=by
 induction l generalizing i with
 | nil=>rfl
 | cons x l ih=>
  cases i with
  | zero=>cases h;rfl
  | succ i=>rw [List.set_cons_succ,ih h]
theorem GoodN.go {size:Nat} {r:Nst} (G:GoodN size r) {i:Nat} {t t':List Bool} {w w':Wd} {b':Box} (ha:r.hs[i]?=some (t,w)) (hn:m6 t<r.bx.length) (ho:∀ c,c≠u8 t->w7c c (t',w')=w7c c (t,w))
  (hg:GoodL b'.1 b'.2 ((r.hs.map (w7c (u8 t))).set i (w7c (u8 t) (t',w')))):GoodN size ⟨r.bx.set (m6 t) b',r.hs.set i (t',w')⟩:=by
 intro c hc
 by_cases q:c=u8 t
 ·subst q
  refine ⟨b',?_,?_⟩
  ·show (r.bx.set (m6 t) b')[E8 (u8 t)]?=some b'
   rw [<- a4t];exact List.getElem?_set_self hn
  ·show GoodL b'.1 b'.2 ((r.hs.set i (t',w')).map (w7c (u8 t)))
   rw [List.map_set];exact hg
 ·obtain ⟨b,e,g⟩:=G c hc
  refine ⟨b,?_,?_⟩
  ·show (r.bx.set (m6 t) b')[E8 c]?=some b
   rw [List.getElem?_set_ne (λz=>q (b3h (by rw [<- z,a4t])))];exact e
  ·show GoodL b.1 b.2 ((r.hs.set i (t',w')).map (w7c c))
   rw [List.map_set,ho c q,b2x (by rw [List.getElem?_map,ha];rfl)];exact g
theorem GoodN.step {size many:Nat} {r r':Nst} (V:VN size many r) (G:GoodN size r) {i:Nat} (e:D2 size r i=some r'):GoodN size r':=by
 cases ha:r.hs[i]? with
 | none=>unfold D2 at e;rw [ha] at e;cases e
 | some h=>
  obtain ⟨t,w⟩:=h
  have ht:t.length<size:=V.tr (t,w) (List.mem_of_getElem? ha)
  obtain ⟨⟨mk,cl⟩,hb,g⟩:=G (u8 t) (by rw [R9];exact ht)
  rw [<- a4t] at hb
  have hn:m6 t<r.bx.length:=(List.getElem?_eq_some_iff.mp hb).1
  have hx:(r.hs.map (w7c (u8 t)))[i]?=some w.w7:=by rw [List.getElem?_map,ha];exact congrArg some (c12 t w)
  have g:GoodL mk cl (r.hs.map (w7c (u8 t))):=g
  generalize hws:r.hs.map (w7c (u8 t))=ws at g hx
  have xm:w.w7∈ws:=List.mem_of_getElem? hx
  rw [b5s ha hb] at e
  have stay:∀ (m:Option Nat) (c:Bool) (w':Wd),GoodL m c (ws.set i w'.w7)->t9 size r i (m6 t) (m,c) t w'=some r'->GoodN size r':=by
   intro m c w' hg e
   unfold t9 at e
   rw [if_neg (by omega)] at e
   cases e
   exact G.go ha hn (λc hc=>c2a w w' hc) (by rw [hws,c12];exact hg)
  have leave:∀ (m:Option Nat) (c b:Bool),GoodL m c (ws.set i (b6i b))->t9 size r i (m6 t) (m,c) (t++[b]) .out=some r'->GoodN size r':=by
   intro m c b hg e
   unfold t9 at e
   split at e
   ·cases e
   ·cases e
    exact G.go ha hn (λc hc=>b9e b w hc) (by rw [hws,c6j];exact hg)
  cases w with
  | out=>exact stay (some i) cl .ask (g.put hx (λc=>⟨rfl,c⟩) (λc=>.inr ⟨c,rfl⟩) (λz=>by cases z) (λk z=>by cases z;rw [if_pos rfl];exact ⟨by decide,by decide⟩) (λk z=>by cases z;rw [if_pos rfl];rintro (z | z) <;> cases z) (λz=>by cases z) (by decide)) e
  | ask=>
   cases cl with
   | true=>exact leave mk true false (g.put hx (λc=>by cases c) (λc=>.inr ⟨rfl,rfl⟩) (λz=>by cases g.g3 z _ xm) (λk z=>by split;exact ⟨by decide,by decide⟩;exact z) (λk z=>by split;(rintro (z | z) <;> cases z);exact λ_=>by decide) (λz=>by cases z) (by decide)) e
   | false=>exact stay mk false .close (g.put hx (λc=>⟨rfl,rfl⟩) (λc=>by cases c) (λz=>by cases g.g3 z _ xm) (λk z=>by split;exact ⟨by decide,by decide⟩;exact z) (λk z=>by split;(exact λ_ w hw e=>by have:=g.g1 rfl w hw;rw [e] at this;cases this);exact λ_=>by decide) (λz=>by cases z) (by decide)) e
  | close=>exact stay mk true .look (g.put hx (λc=>by cases c) (λc=>.inl rfl) (λz=>by cases g.g3 z _ xm) (λk z=>by split;exact ⟨by decide,by decide⟩;exact z) (λk z=>by split;(rename_i q;subst q;exact λ_=>g.g5 k z (.inl hx));exact λ_=>by decide) (λz=>by cases z) (by decide)) e
  | look=>
   have nc:¬ cl=false:=λc=>by have:=g.g1 c _ xm;cases this
   by_cases q:mk=some i
   ·subst q
    exact stay (some i) cl .holds (g.put hx (λc=>(nc c).elim) (λc=>.inl rfl) (λz=>by cases z) (λk z=>by cases z;rw [if_pos rfl];exact ⟨by decide,by decide⟩) (λk z=>by cases z;rw [if_pos rfl];rintro (z | z) <;> cases z) (λ_=>.inr (g.g5 i rfl (.inr hx))) (by decide)) ((if_pos rfl).symm.trans e)
   ·exact leave mk cl true (g.put hx (λc=>(nc c).elim) (λc=>.inl rfl) (λz=>by cases g.g3 z _ xm) (λk z=>by split;(rename_i y;subst y;exact (q z).elim);exact z) (λk z=>by split;(rename_i y;subst y;exact (q z).elim);exact λ_=>by decide) (λz=>by cases z) (by decide)) ((if_neg q).symm.trans e)
  | holds=>cases e
end L3.Nt
namespace L3.K12
open PySem PySem.Spec PyProof.Rows L2
noncomputable def nth (l:List Stmt) (i:Nat):Stmt:=l.getD i (.Pass ⟨0,0,0,0⟩)
noncomputable def top (i:Nat):Stmt:=nth PySem.Challenge.pw_handnames_k12_stands_of_nets_judged.main.body i
noncomputable def k9:Stmt->List Stmt
 | .For _ _ b _ _=>b
 | .While _ b _ _=>b
 | _=>[]
noncomputable def b8w:Stmt->List Stmt
 | .Try b _ _ _ _=>b
 | _=>[]
noncomputable def b7g:Stmt->List Stmt
 | .Try _ [.ExceptHandler _ _ b _] _ _ _=>b
 | _=>[]
noncomputable abbrev b30:Fd:=j8 (top 9) []
noncomputable abbrev c2z:Fd:=j8 (top 10) []
noncomputable abbrev b6b:Fd:=j8 (top 11) []
noncomputable abbrev b6v:Fd:=j8 (top 13) []
noncomputable abbrev b5u:Fd:=j8 (top 15) []
noncomputable abbrev c4c:Fd:=j8 (top 16) []
noncomputable abbrev Aq:Fd:=j8 (top 17) []
noncomputable abbrev Ao:Fd:=j8 (top 18) []
noncomputable abbrev Ah:Fd:=j8 (top 21) []
noncomputable abbrev Aj:Fd:=j8 (top 22) []
noncomputable abbrev b2k:Fd:=j8 (top 23) []
noncomputable abbrev c2i:Fd:=j8 (top 24) []
noncomputable abbrev b35:Fd:=j8 (top 25) []
noncomputable abbrev Ab:Fd:=j8 (top 26) []
noncomputable abbrev Am:Fd:=j8 (top 27) []
noncomputable abbrev b64:Fd:=j8 (top 28) []
noncomputable abbrev b3n:Fd:=j8 (top 30) []
noncomputable abbrev b20:Fd:=j8 (top 31) []
noncomputable abbrev Ae:Fd:=j8 (top 32) []
noncomputable abbrev Al:Fd:=j8 (top 33) []
noncomputable abbrev Ap:Fd:=j8 (top 34) []
noncomputable abbrev b6j:Fd:=j8 (top 35) []
noncomputable abbrev b28:Fd:=j8 (top 36) []
noncomputable abbrev Aa:Fd:=j8 (top 37) []
noncomputable abbrev Ac:Fd:=j8 (top 38) []
noncomputable abbrev Ar:Fd:=j8 (top 39) []
noncomputable abbrev c2y:Fd:=j8 (top 40) []
noncomputable abbrev Ai:Fd:=j8 (top 41) []
noncomputable abbrev Ad:Fd:=j8 (top 42) []
noncomputable abbrev An:Fd:=j8 (top 43) []
noncomputable abbrev a7v:Fd:=j8 (top 44) []
noncomputable abbrev B6:Fd:=j8 (top 45) []
noncomputable abbrev c44:Fd:=j8 (top 46) []
noncomputable abbrev Af:Fd:=j8 (top 47) []
noncomputable abbrev a34:Fd:=j8 (top 48) []
noncomputable abbrev Ak:Fd:=j8 (top 49) []
noncomputable abbrev b4l:Fd:=j8 (top 50) []
noncomputable abbrev Ag:Fd:=j8 (top 51) []
noncomputable abbrev law_F:Fd:=j8 (top 52) []
noncomputable abbrev c47:Nat:=0
noncomputable abbrev c6t:Nat:=1
noncomputable abbrev c4u:Nat:=2
noncomputable abbrev c2b:Nat:=3
noncomputable abbrev c27:Nat:=4
noncomputable abbrev c7t:Nat:=5
noncomputable abbrev b51:Nat:=6
noncomputable abbrev b5r:Nat:=7
noncomputable abbrev a4h:Nat:=8
noncomputable abbrev c97:Nat:=9
noncomputable abbrev b6s:Nat:=10
noncomputable abbrev c13:Nat:=11
noncomputable abbrev c6g:Nat:=12
noncomputable abbrev b62:Nat:=13
noncomputable abbrev c1e:Nat:=14
noncomputable abbrev c4d:Nat:=15
noncomputable abbrev c5l:Nat:=16
noncomputable abbrev E3:Nat:=17
noncomputable abbrev c3r:Nat:=18
noncomputable abbrev c2n:Nat:=19
noncomputable abbrev b6l:Nat:=20
noncomputable abbrev b2l:Nat:=21
noncomputable abbrev c4m:Nat:=22
noncomputable abbrev c1g:Nat:=23
noncomputable abbrev c1v:Nat:=24
noncomputable abbrev c4o:Nat:=25
noncomputable abbrev c79:Nat:=26
noncomputable abbrev c39:Nat:=27
noncomputable abbrev c52:Nat:=28
noncomputable abbrev c5h:Nat:=29
noncomputable abbrev D8:Nat:=30
noncomputable abbrev a7z:Nat:=31
noncomputable abbrev c8h:Nat:=32
noncomputable abbrev c4b:Nat:=33
noncomputable abbrev b0a:Nat:=34
noncomputable abbrev a7x:Nat:=35
noncomputable abbrev c3l:Nat:=36
noncomputable abbrev c20:Nat:=37
noncomputable abbrev b6g:Nat:=38
noncomputable def Tb:List Fd:=[b30,c2z,b6b,b6v,b5u,c4c,Aq,Ao,Ah,Aj,b2k,c2i,b35,Ab,Am,b64,b3n,b20,Ae,Al,Ap,b6j,b28,Aa,Ac,Ar,c2y,Ai,Ad,An,a7v,B6,c44,Af,a34,Ak,b4l,Ag,law_F]
noncomputable def Γ:Gm:=⟨("HandError",.err 0 []) :: ("NoStep",.err 1 ["hand"]) :: ("NoPaper",.err 2 ["word","at"]) :: ("NoStand",.err 3 ["word","at"]) :: ("TooMany",.err 4 ["word"]) :: ("NoType",.err 5 ["type_here"]) :: ("NoRow",.err 6 []) :: ("WORDS_HERE",.val (.tup [(.str "out"),(.str "ask"),(.str "close"),(.str "look"),(.str "holds")])) :: ("is_whole",.fn 0 1) :: ("is_tuple_of",.fn 1 2) :: ("triangle",.fn 2 1) :: ("is_mark",.fn 3 2) :: ("end_of",.fn 4 1) :: ("number_of",.fn 5 1) :: ("local_at",.fn 6 3) :: ("word_at",.fn 7 2) :: ("lets_net",.fn 8 3) :: ("is_net_stand",.fn 9 3) :: ("is_box",.fn 10 2) :: ("is_hand_here",.fn 11 2) :: ("is_trail",.fn 12 2) :: ("check_local",.fn 13 2) :: ("check_marked",.fn 14 3) :: ("some_at",.fn 15 2) :: ("_law_feed",.fn 16 1) :: ("_law_draw",.fn 17 2) :: ("_law_behind",.fn 18 2) :: ("_law_cells",.fn 19 1) :: ("_law_word_at",.fn 20 2) :: ("_law_local",.fn 21 3) :: ("_law_at",.fn 22 1) :: ("_law_net_behind",.fn 23 3) :: ("_law_amiss_here",.fn 24 1) :: ("_law_amiss",.fn 25 2) :: ("_law_first_net",.fn 26 2) :: ("_law_reached",.fn 27 3) :: ("_law_nudged",.fn 28 3) :: ("_law_anybody",.fn 29 3) :: ("_law_odd",.fn 30 1) :: ("_law_bent",.fn 31 2) :: ("_law_is_number",.fn 32 2) :: ("_law_is_net",.fn 33 3) :: ("_law_due",.fn 34 3) :: ("_law_told",.fn 35 3) :: ("_law_right",.fn 36 3) :: ("_law_alone",.fn 37 1) :: ("law",.fn 38 1) :: [],λc c0=>c0==0||c==c0,["hand","word","at","type_here"],[]⟩
noncomputable def Rs:Rules:=⟨[c38,c7a,d1o,d28,rIx,d1p,d2u,rFn,d10,c7n,c80,c9a,b87,d21,c2r,c85,d0n,d1y,d2w,d2r,d3m,d23,c62,rIf,d16,d1m,d2n,rSl,d3c,d3h,c19,c3x,d3g,b8b,c5y,d14],[c6a,c8q,d1r,c2j],[c58,d17,sIf,d2j,d2m,b2z,d1q,d2b,d0s,c8a,d0j],[c0w,c61,d20]⟩
noncomputable abbrev rn (k i:Nat) (ds:List D):M D:=P7 Rs Γ Tb k i ds
section
variable (C:Cf) {α:Type} (κ:Fl->M α) {ua ub uc ud ue uf:D} {qa qb qc qd qe qf qg qh qi qj qk ql qm:Option D}
theorem b7n:runK Rs Γ C b30 [ua]=bind (z0 "int" (λ_=>false) ua) λx1=>bind (d9 x1) λc2=>if c2=true then (bind (z0 "bool" (λ_=>false) ua) λx3=>bind (d9 x3) λc4=>ret (.bl (!c4))) else (ret x1):=by kernel_rfl
theorem c5a:runK Rs Γ C c2z [ua,ub]=bind (z0 "tuple" (λ_=>false) ua) λx1=>bind (d9 x1) λc2=>if c2=true then (bind (m7 ua) λx3=>bind (b8 .Eq x3 ub) λx4=>ret x4) else (ret x1):=by kernel_rfl
theorem b85:runK Rs Γ C b6b [ua]=bind (d8 ua (.int 1)) λx1=>bind (C9 ua x1) λx2=>bind (K2 x2 (.int 2)) λx3=>ret x3:=by kernel_rfl
theorem b8p:runK Rs Γ C b6v [ua,ub]=bind (b8 .Is ub .non) λx1=>bind (d9 x1) λc2=>if c2=true then (ret x1) else (bind (C 0 [ub]) λx3=>bind (d9 x3) λc4=>if c4=true then (bind (b8 .LtE (.int 0) ub) λx5=>bind (asB x5) λz6=>if z6=true then (bind (b8 .Lt ub ua) λx7=>ret x7) else (ret (.bl false))) else (ret x3)):=by kernel_rfl
theorem b8m:runK Rs Γ C b5u [ua]=bind (tupOf ua) λ_=>bind (countT ua [(.str "down")]) λx1=>bind (tupOf ua) λ_=>bind (countT ua [(.str "right")]) λx2=>ret (.tup [x1,x2]):=by kernel_rfl
theorem c4g:runK Rs Γ C c4c [ua]=bind (b8e ua) λx1=>bind (C 2 [x1]) λx2=>bind (ixD ua (.int 0)) λx3=>bind (d8 x2 x3) λx4=>ret x4:=by kernel_rfl
noncomputable def a9x:Lc:=w8 Aq
theorem b97:runK Rs Γ C Aq [ua,ub,uc]=j0 (evK Rs Γ C 40) a9x Aq.body [some ua,some ub,some uc,none,none,none,none] endD:=by kernel_rfl
theorem b9b:Aq.body=[nth Aq.body 0,nth Aq.body 1,nth Aq.body 2]:=by kernel_rfl
theorem c6x:(evK Rs Γ C 40).s a9x (nth Aq.body 0) [qa,some ua,qb,qc,qd,qe,qf] κ=bind (C8 (k5 [3,4]) ua [qa,some ua,qb,qc,qd,qe,qf]) κ:=by kernel_rfl
theorem c6s:(evK Rs Γ C 40).s a9x (nth Aq.body 1) [qa,qb,some ua,some ub,qc,qd,qe] κ=bind (ixD ub ua) λx1=>bind (C8 (k5 [5,6]) x1 [qa,qb,some ua,some ub,qc,qd,qe]) κ:=by kernel_rfl
theorem c9d:(evK Rs Γ C 40).s a9x (nth Aq.body 2) [qa,qb,some ua,qc,some ub,some uc,some ud] κ=bind (nx (bind (A4 ub) λsm2=>j6 sm2.1 (λd1=>ret true) (λd1=>bind (C 7 [d1,ua]) λx3=>ret x3) sm2.2 0 [])) λl4=>bind (M5 (.lst l4)) λx5=>κ (.rt (.tup [uc,ud,x5])):=by kernel_rfl
noncomputable def a2v:Lc:=w8 Ao
theorem b90:runK Rs Γ C Ao [ua,ub]=j0 (evK Rs Γ C 40) a2v Ao.body [some ua,some ub,none,none,none,none] endD:=by kernel_rfl
theorem b9o:Ao.body=[nth Ao.body 0,nth Ao.body 1,nth Ao.body 2]:=by kernel_rfl
theorem c67:(evK Rs Γ C 40).s a2v (nth Ao.body 0) [some ua,qa,qb,qc,qd,qe] κ=bind (C8 (k5 [2,3]) ua [some ua,qa,qb,qc,qd,qe]) κ:=by kernel_rfl
noncomputable def a0i:List Stmt:=k9 (nth Ao.body 1)
noncomputable def a6j (C:Cf):L3.Env->M Fl:=λρ'=>j0 (evK Rs Γ C 39) a2v a0i ρ' ret
theorem c9h:(evK Rs Γ C 40).s a2v (nth Ao.body 1) [qa,qb,some ua,qc,qd,qe] κ=bind (a8e ua) λsm1=>bind (p9 sm1.1 (k5 [4,5]) (a6j C) sm1.2 0 [qa,qb,some ua,qc,qd,qe]) κ:=by kernel_rfl
theorem c7p:(evK Rs Γ C 40).s a2v (nth Ao.body 2) [qa,some ua,some ub,some uc,qb,qc] κ=bind (C 4 [ub]) λx1=>bind (C 5 [x1]) λx2=>bind (b8 .Eq x2 ua) λx3=>bind (asB x3) λz4=>if z4=true then (κ (.rt uc)) else (κ (.rt (.str "out"))):=by kernel_rfl
theorem a6u:a0i=[nth a0i 0]:=by kernel_rfl
theorem b1l:(evK Rs Γ C 39).s a2v (nth a0i 0) [qa,some ua,some ub,qb,some uc,some ud] κ=bind (y4 uc) λn1=>bind (slD ub none n1) λx2=>bind (C 4 [x2]) λx3=>bind (C 5 [x3]) λx4=>bind (b8 .Eq x4 ua) λx5=>bind (asB x5) λz6=>if z6=true then (κ (.rt ud)) else (κ (.nx [qa,some ua,some ub,qb,some uc,some ud])):=by kernel_rfl
noncomputable def a3c:Lc:=w8 Ah
theorem a3r:runK Rs Γ C Ah [ua,ub,uc]=j0 (evK Rs Γ C 40) a3c Ah.body [some ua,some ub,some uc,none] endD:=by kernel_rfl
theorem a38:Ah.body=[nth Ah.body 0,nth Ah.body 1,nth Ah.body 2]:=by kernel_rfl
theorem b56:(evK Rs Γ C 40).s a3c (nth Ah.body 0) [some ua,some ub,some uc,qa] κ=bind (C 9 [ua,ub,uc]) λx1=>bind (d9 x1) λz2=>if (!z2)=true then (bind (K6 3 ["word","at"] [(.str "shape"),(.int 0)]) λx3=>bind (w5 x3) (fin κ)) else (κ (.nx [some ua,some ub,some uc,qa])):=by kernel_rfl
noncomputable def a0d:List Stmt:=k9 (nth Ah.body 1)
noncomputable def U8 (C:Cf):L3.Env->M Fl:=λρ'=>j0 (evK Rs Γ C 39) a3c a0d ρ' ret
theorem c1c:(evK Rs Γ C 40).s a3c (nth Ah.body 1) [some ua,qa,qb,qc] κ=bind (C 2 [ua]) λx1=>bind (y8 [x1]) λsm2=>bind (p9 sm2.1 (λd ρ=>some (ρ.set 3 (some d))) (U8 C) sm2.2 0 [some ua,qa,qb,qc]) κ:=by kernel_rfl
theorem c64:(evK Rs Γ C 40).s a3c (nth Ah.body 2) [qa,qb,qc,qd] κ=κ (.rt (.bl true)):=by kernel_rfl
theorem Y7:a0d=[nth a0d 0]:=by kernel_rfl
theorem a3n:(evK Rs Γ C 39).s a3c (nth a0d 0) [some ua,qa,some ub,some uc] κ=bind (C 6 [ua,ub,uc]) λx1=>bind (C 13 [x1,uc]) λx2=>κ (.nx [some ua,qa,some ub,some uc]):=by kernel_rfl
noncomputable def b45:Lc:=w8 Aj
theorem c5m:runK Rs Γ C Aj [ua,ub,uc]=j0 (evK Rs Γ C 40) b45 Aj.body [some ua,some ub,some uc,none,none] endD:=by kernel_rfl
theorem c4w:Aj.body=[nth Aj.body 0,nth Aj.body 1,nth Aj.body 2,nth Aj.body 3]:=by kernel_rfl
theorem d2a:(evK Rs Γ C 40).s b45 (nth Aj.body 0) [qa,qb,some ua,qc,qd] κ=bind (C 1 [ua,(.int 2)]) λx1=>bind (d9 x1) λz2=>if (!z2)=true then (κ (.rt (.bl false))) else (κ (.nx [qa,qb,some ua,qc,qd])):=by kernel_rfl
theorem d1t:(evK Rs Γ C 40).s b45 (nth Aj.body 1) [qa,qb,some ua,qc,qd] κ=bind (C8 (k5 [3,4]) ua [qa,qb,some ua,qc,qd]) κ:=by kernel_rfl
theorem d3j:(evK Rs Γ C 40).s b45 (nth Aj.body 2) [some ua,some ub,qa,some uc,some ud] κ=bind (C 2 [ua]) λx1=>bind (C 1 [uc,x1]) λx2=>bind (d9 x2) λz3=>if (!z3)=true then (κ (.rt (.bl false))) else (bind (C 1 [ud,ub]) λx4=>bind (d9 x4) λz5=>if (!z5)=true then (κ (.rt (.bl false))) else (κ (.nx [some ua,some ub,qa,some uc,some ud]))):=by kernel_rfl
theorem d15:(evK Rs Γ C 40).s b45 (nth Aj.body 3) [some ua,some ub,qa,some uc,some ud] κ=bind (nx (bind (A4 uc) λsm2=>j6 sm2.1 (λd1=>ret true) (λd1=>bind (C 10 [ub,d1]) λx3=>ret x3) sm2.2 0 [])) λl4=>bind (b1m (.lst l4)) λx5=>bind (d9 x5) λc6=>if c6=true then (bind (nx (bind (A4 ud) λsm8=>j6 sm8.1 (λd7=>ret true) (λd7=>bind (C 11 [ua,d7]) λx9=>ret x9) sm8.2 0 [])) λl10=>bind (b1m (.lst l10)) λx11=>κ (.rt x11)) else (κ (.rt x5)):=by kernel_rfl
theorem b69:runK Rs Γ C b2k [ua,ub]=bind (C 1 [ub,(.int 2)]) λx1=>bind (d9 x1) λc2=>if c2=true then (bind (ixD ub (.int 0)) λx3=>bind (C 3 [ua,x3]) λx4=>bind (d9 x4) λc5=>if c5=true then (bind (ixD ub (.int 1)) λx6=>bind (z0 "bool" (λ_=>false) x6) λx7=>ret x7) else (ret x4)) else (ret x1):=by kernel_rfl
theorem c5s:runK Rs Γ C c2i [ua,ub]=bind (C 1 [ub,(.int 2)]) λx1=>bind (d9 x1) λc2=>if c2=true then (bind (ixD ub (.int 0)) λx3=>bind (C 12 [ua,x3]) λx4=>bind (d9 x4) λc5=>if c5=true then (bind (ixD ub (.int 1)) λx6=>bind (b8 .In x6 (.tup [(.str "out"),(.str "ask"),(.str "close"),(.str "look"),(.str "holds")])) λx7=>ret x7) else (ret x4)) else (ret x1):=by kernel_rfl
theorem b9d:runK Rs Γ C b35 [ua,ub]=bind (z0 "tuple" (λ_=>false) ub) λx1=>bind (d9 x1) λc2=>if c2=true then (bind (m7 ub) λx3=>bind (b8 .Lt x3 ua) λx4=>bind (d9 x4) λc5=>if c5=true then (bind (nx (bind (A4 ub) λsm7=>j6 sm7.1 (λd6=>ret true) (λd6=>bind (b8 .In d6 (.tup [(.str "right"),(.str "down")])) λx8=>ret x8) sm7.2 0 [])) λl9=>bind (b1m (.lst l9)) λx10=>ret x10) else (ret x4)) else (ret x1):=by kernel_rfl
noncomputable def a2m:Lc:=w8 Ab
theorem b2o:runK Rs Γ C Ab [ua,ub]=j0 (evK Rs Γ C 40) a2m Ab.body [some ua,some ub,none,none,none] endD:=by kernel_rfl
theorem b6k:Ab.body=[nth Ab.body 0,nth Ab.body 1,nth Ab.body 2,nth Ab.body 3,nth Ab.body 4,nth Ab.body 5]:=by kernel_rfl
theorem d09:(evK Rs Γ C 40).s a2m (nth Ab.body 0) [some ua,qa,qb,qc,qd] κ=bind (C8 (k5 [2,3,4]) ua [some ua,qa,qb,qc,qd]) κ:=by kernel_rfl
theorem c4s:(evK Rs Γ C 40).s a2m (nth Ab.body 1) [qa,some ua,qb,some ub,some uc] κ=bind (d9 ub) λz1=>if (!z1)=true then (bind (C 15 [uc,(.tup [(.str "look"),(.str "holds"),(.str "right"),(.str "down")])]) λx2=>bind (d9 x2) λz3=>if z3=true then (bind (K6 3 ["word","at"] [(.str "open"),ua]) λx4=>bind (w5 x4) (fin κ)) else (κ (.nx [qa,some ua,qb,some ub,some uc]))) else (κ (.nx [qa,some ua,qb,some ub,some uc])):=by kernel_rfl
theorem c0u:(evK Rs Γ C 40).s a2m (nth Ab.body 2) [qa,some ua,qb,some ub,some uc] κ=bind (d9 ub) λz1=>if z1=true then (bind (C 15 [uc,(.tup [(.str "look"),(.str "holds"),(.str "down")])]) λx2=>bind (d9 x2) λz3=>if (!z3)=true then (bind (K6 3 ["word","at"] [(.str "closed"),ua]) λx4=>bind (w5 x4) (fin κ)) else (κ (.nx [qa,some ua,qb,some ub,some uc]))) else (κ (.nx [qa,some ua,qb,some ub,some uc])):=by kernel_rfl
theorem c9y:(evK Rs Γ C 40).s a2m (nth Ab.body 3) [qa,some ua,some ub,qb,some uc] κ=bind (b8 .Is ub .non) λx1=>bind (asB x1) λz2=>if z2=true then (bind (tupOf uc) λ_=>bind (countT uc [(.str "out")]) λx3=>bind (m7 uc) λx4=>bind (b8 .Lt x3 x4) λx5=>bind (asB x5) λz6=>if z6=true then (bind (K6 3 ["word","at"] [(.str "free"),ua]) λx7=>bind (w5 x7) (fin κ)) else (κ (.nx [qa,some ua,some ub,qb,some uc]))) else (κ (.nx [qa,some ua,some ub,qb,some uc])):=by kernel_rfl
theorem c2c:(evK Rs Γ C 40).s a2m (nth Ab.body 4) [qa,some ua,some ub,qb,some uc] κ=bind (b8 .IsNot ub .non) λx1=>bind (asB x1) λz2=>if z2=true then (bind (ixD uc ub) λx3=>bind (C 14 [x3,uc,ua]) λx4=>κ (.nx [qa,some ua,some ub,qb,some uc])) else (κ (.nx [qa,some ua,some ub,qb,some uc])):=by kernel_rfl
theorem c9c:(evK Rs Γ C 40).s a2m (nth Ab.body 5) [qa,some ua,qb,qc,some ub] κ=bind (tupOf ub) λ_=>bind (countT ub [(.str "holds")]) λx1=>bind (b8 .Gt x1 (.int 1)) λx2=>bind (asB x2) λz3=>if z3=true then (bind (K6 3 ["word","at"] [(.str "twice"),ua]) λx4=>bind (w5 x4) (fin κ)) else (κ (.nx [qa,some ua,qb,qc,some ub])):=by kernel_rfl
noncomputable def c3u:Lc:=w8 Am
theorem a4k:runK Rs Γ C Am [ua,ub,uc]=j0 (evK Rs Γ C 40) c3u Am.body [some ua,some ub,some uc] endD:=by kernel_rfl
theorem a4w:Am.body=[nth Am.body 0,nth Am.body 1]:=by kernel_rfl
theorem b9g:(evK Rs Γ C 40).s c3u (nth Am.body 0) [some ua,qa,some ub] κ=bind (b8 .In ua (.tup [(.str "out"),(.str "down")])) λx1=>bind (asB x1) λz2=>if z2=true then (bind (K6 3 ["word","at"] [(.str "mark"),ub]) λx3=>bind (w5 x3) (fin κ)) else (κ (.nx [some ua,qa,some ub])):=by kernel_rfl
theorem c3q:(evK Rs Γ C 40).s c3u (nth Am.body 1) [some ua,some ub,some uc] κ=bind (b8 .In ua (.tup [(.str "close"),(.str "look")])) λx1=>bind (asB x1) λz2=>if z2=true then (bind (b8 .In (.str "holds") ub) λx3=>bind (asB x3) λz4=>if z4=true then (bind (K6 3 ["word","at"] [(.str "late"),uc]) λx5=>bind (w5 x5) (fin κ)) else (κ (.nx [some ua,some ub,some uc]))) else (κ (.nx [some ua,some ub,some uc])):=by kernel_rfl
theorem c0t:runK Rs Γ C b64 [ua,ub]=bind (nx (bind (A4 ua) λsm2=>j6 sm2.1 (λd1=>ret true) (λd1=>bind (b8 .In d1 ub) λx3=>ret x3) sm2.2 0 [])) λl4=>bind (b7x (.lst l4)) λx5=>ret x5:=by kernel_rfl
theorem c0q:runK Rs Γ C b3n [ua]=bind (slD ua none (some 63)) λx1=>bind (a2q [((.str "cells"),x1),((.str "at"),(.int 0)),((.str "left"),(.int 0)),((.str "turn"),(.int 0))]) λx2=>ret x2:=by kernel_rfl
theorem b9t (C:Cf) (p x:D):runK Rs Γ C b20 [p,x]=a9z p x:=by kernel_rfl
noncomputable def M7:Lc:=w8 Ae
theorem b74:runK Rs Γ C Ae [ua,ub]=j0 (evK Rs Γ C 40) M7 Ae.body [some ua,some ub,none,none,none,none,none] endD:=by kernel_rfl
theorem c0l:Ae.body=[nth Ae.body 0,nth Ae.body 1,nth Ae.body 2,nth Ae.body 3,nth Ae.body 4,nth Ae.body 5,nth Ae.body 6]:=by kernel_rfl
theorem d0f:(evK Rs Γ C 40).s M7 (nth Ae.body 0) [some ua,qa,qb,qc,qd,qe,qf] κ=bind (C8 (k5 [2,3,4]) ua [some ua,qa,qb,qc,qd,qe,qf]) κ:=by kernel_rfl
theorem d1d:(evK Rs Γ C 40).s M7 (nth Ae.body 1) [qa,some ua,qb,qc,some ub,qd,qe] κ=bind (ixD ub ua) λx1=>κ (.nx [qa,some ua,qb,qc,some ub,some x1,qe]):=by kernel_rfl
theorem c87:(evK Rs Γ C 40).s M7 (nth Ae.body 2) [qa,qb,qc,some ua,qd,some ub,qe] κ=bind (d9 ua) λz1=>if z1=true then (bind (a2q [((.str "out"),(.str "ask")),((.str "ask"),(.str "right")),((.str "close"),(.str "look")),((.str "look"),(.str "down"))]) λx2=>bind (dctOf x2) λ_=>bind (getDD x2 [ub]) λx3=>κ (.nx [qa,qb,qc,some ua,qd,some ub,some x3])) else (bind (a2q [((.str "out"),(.str "ask")),((.str "ask"),(.str "close")),((.str "close"),(.str "look")),((.str "look"),(.str "down"))]) λx4=>bind (dctOf x4) λ_=>bind (getDD x4 [ub]) λx5=>κ (.nx [qa,qb,qc,some ua,qd,some ub,some x5])):=by kernel_rfl
theorem c8i:(evK Rs Γ C 40).s M7 (nth Ae.body 3) [qa,some ua,some ub,qb,qc,some uc,qd] κ=bind (b8 .Eq uc (.str "look")) λx1=>bind (asB x1) λz2=>if z2=true then (bind (b8 .IsNot ub .non) λx3=>bind (asB x3) λz4=>if z4=true then (bind (b8 .Eq ub ua) λx5=>bind (asB x5) λz6=>if z6=true then (κ (.nx [qa,some ua,some ub,qb,qc,some uc,some (.str "holds")])) else (κ (.nx [qa,some ua,some ub,qb,qc,some uc,qd]))) else (κ (.nx [qa,some ua,some ub,qb,qc,some uc,qd]))) else (κ (.nx [qa,some ua,some ub,qb,qc,some uc,qd])):=by kernel_rfl
theorem c1s:(evK Rs Γ C 40).s M7 (nth Ae.body 4) [qa,qb,qc,qd,qe,qf,some ua] κ=bind (b8 .Is ua .non) λx1=>bind (asB x1) λz2=>if z2=true then (κ (.rt .non)) else (κ (.nx [qa,qb,qc,qd,qe,qf,some ua])):=by kernel_rfl
theorem c7g:(evK Rs Γ C 40).s M7 (nth Ae.body 5) [qa,some ua,qb,qc,some ub,qd,some uc] κ=bind (y4 ua) λn1=>bind (slD ub none n1) λx2=>bind (d8 x2 (.tup [uc])) λx3=>bind (d8 ua (.int 1)) λx4=>bind (y4 x4) λn5=>bind (slD ub n5 none) λx6=>bind (d8 x3 x6) λx7=>κ (.nx [qa,some ua,qb,qc,some x7,qd,some uc]):=by kernel_rfl
theorem c82:(evK Rs Γ C 40).s M7 (nth Ae.body 6) [qa,some ua,some ub,some uc,some ud,some ue,qb] κ=bind (b8 .Eq ue (.str "out")) λx1=>bind (asB x1) λz2=>if z2=true then (bind (d9 uc) λc3=>if c3=true then (κ (.rt (.tup [ua,uc,ud]))) else (bind (b8 .Eq ue (.str "close")) λx4=>κ (.rt (.tup [ua,x4,ud])))) else (bind (d9 uc) λc5=>if c5=true then (κ (.rt (.tup [ub,uc,ud]))) else (bind (b8 .Eq ue (.str "close")) λx6=>κ (.rt (.tup [ub,x6,ud])))):=by kernel_rfl
noncomputable def a3f:Lc:=w8 Al
theorem c0p:runK Rs Γ C Al [ua]=j0 (evK Rs Γ C 40) a3f Al.body [some ua,none,none] endD:=by kernel_rfl
theorem b78:Al.body=[nth Al.body 0,nth Al.body 1,nth Al.body 2]:=by kernel_rfl
theorem c91:(evK Rs Γ C 40).s a3f (nth Al.body 0) [qa,qb,qc] κ=κ (.nx [qa,some (.lst []),qc]):=by kernel_rfl
noncomputable def a0c:List Stmt:=k9 (nth Al.body 1)
noncomputable def a5r (C:Cf):L3.Env->M Fl:=λρ'=>j0 (evK Rs Γ C 39) a3f a0c ρ' ret
theorem c7k:(evK Rs Γ C 40).s a3f (nth Al.body 1) [some ua,qa,qb] κ=bind (y8 [ua]) λsm1=>bind (p9 sm1.1 (λd ρ=>some (ρ.set 2 (some d))) (a5r C) sm1.2 0 [some ua,qa,qb]) κ:=by kernel_rfl
theorem d1g:(evK Rs Γ C 40).s a3f (nth Al.body 2) [qa,some ua,qb] κ=κ (.rt ua):=by kernel_rfl
theorem a6h:a0c=[nth a0c 0]:=by kernel_rfl
theorem b1n:(evK Rs Γ C 39).s a3f (nth a0c 0) [qa,some ua,some ub] κ=bind (nx (bind (d8 ub (.int 1)) λx2=>bind (y8 [x2]) λsm3=>j6 sm3.1 (λd1=>ret true) (λd1=>bind (a74 ub d1) λx4=>ret (.tup [d1,x4])) sm3.2 0 [])) λl5=>bind (d8 ua (.lst l5)) λx6=>κ (.nx [qa,some x6,some ub]):=by kernel_rfl
noncomputable def Z6:Lc:=w8 Ap
theorem b7b:runK Rs Γ C Ap [ua,ub]=j0 (evK Rs Γ C 40) Z6 Ap.body [some ua,some ub,none,none,none] endD:=by kernel_rfl
theorem b7p:Ap.body=[nth Ap.body 0,nth Ap.body 1,nth Ap.body 2]:=by kernel_rfl
theorem c9x:(evK Rs Γ C 40).s Z6 (nth Ap.body 0) [qa,qb,qc,qd,qe] κ=κ (.nx [qa,qb,some (.int 0),some (.int 0),qe]):=by kernel_rfl
noncomputable def D6:List Stmt:=k9 (nth Ap.body 1)
noncomputable def a6o (C:Cf):L3.Env->M Fl:=λρ'=>j0 (evK Rs Γ C 39) Z6 D6 ρ' ret
theorem d1e:(evK Rs Γ C 40).s Z6 (nth Ap.body 1) [some ua,qa,qb,qc,qd] κ=bind (ixD ua (.int 0)) λx1=>bind (A4 x1) λsm2=>bind (p9 sm2.1 (λd ρ=>some (ρ.set 4 (some d))) (a6o C) sm2.2 0 [some ua,qa,qb,qc,qd]) κ:=by kernel_rfl
theorem c66:(evK Rs Γ C 40).s Z6 (nth Ap.body 2) [some ua,some ub,some uc,some ud,qa] κ=bind (b8 .Eq (.tup [uc,ud]) ub) λx1=>bind (asB x1) λz2=>if z2=true then (bind (ixD ua (.int 1)) λx3=>κ (.rt x3)) else (κ (.rt (.str "out"))):=by kernel_rfl
theorem a5v:D6=[nth D6 0,nth D6 1,nth D6 2]:=by kernel_rfl
theorem b1j:(evK Rs Γ C 39).s Z6 (nth D6 0) [qa,some ua,some ub,some uc,some ud] κ=bind (b8 .Eq (.tup [ub,uc]) ua) λx1=>bind (asB x1) λz2=>if z2=true then (κ (.rt ud)) else (κ (.nx [qa,some ua,some ub,some uc,some ud])):=by kernel_rfl
theorem b01:(evK Rs Γ C 39).s Z6 (nth D6 1) [qa,qb,some ua,qc,some ub] κ=bind (b8 .Eq ub (.str "down")) λx1=>bind (a6e x1) λx2=>bind (d8 ua x2) λx3=>κ (.nx [qa,qb,some x3,qc,some ub]):=by kernel_rfl
theorem b1z:(evK Rs Γ C 39).s Z6 (nth D6 2) [qa,qb,qc,some ua,some ub] κ=bind (b8 .Eq ub (.str "right")) λx1=>bind (a6e x1) λx2=>bind (d8 ua x2) λx3=>κ (.nx [qa,qb,qc,some x3,some ub]):=by kernel_rfl
theorem c0v:runK Rs Γ C b6j [ua,ub,uc]=bind (C 19 [ua]) λx1=>bind (ixD x1 uc) λx2=>bind (ixD ub (.int 0)) λx3=>bind (ixD x3 uc) λx4=>bind (nx (bind (ixD ub (.int 1)) λx6=>bind (A4 x6) λsm7=>j6 sm7.1 (λd5=>ret true) (λd5=>bind (C 20 [d5,x2]) λx8=>ret x8) sm7.2 0 [])) λl9=>bind (M5 (.lst l9)) λx10=>bind (d8 x4 (.tup [x10])) λx11=>ret x11:=by kernel_rfl
theorem b8u:runK Rs Γ C b28 [ua]=bind (nx (bind (A4 ua) λsm2=>j6 sm2.1 (λd1=>bind (b8 .Eq d1 (.str "down")) λx3=>bind (asB x3) λz4=>ret z4) (λd1=>ret d1) sm2.2 0 [])) λl5=>bind (m7 (.lst l5)) λx6=>bind (m7 ua) λx7=>bind (m7 ua) λx8=>bind (d8 x8 (.int 1)) λx9=>bind (C9 x7 x9) λx10=>bind (K2 x10 (.int 2)) λx11=>bind (d8 x11 x6) λx12=>ret x12:=by kernel_rfl
noncomputable def O8:Lc:=w8 Aa
theorem c3m:runK Rs Γ C Aa [ua,ub,uc]=j0 (evK Rs Γ C 40) O8 Aa.body [some ua,some ub,some uc,none,none,none,none,none,none,none] endD:=by kernel_rfl
theorem c46:Aa.body=[nth Aa.body 0,nth Aa.body 1,nth Aa.body 2,nth Aa.body 3,nth Aa.body 4,nth Aa.body 5,nth Aa.body 6,nth Aa.body 7,nth Aa.body 8,nth Aa.body 9]:=by kernel_rfl
theorem d1j:(evK Rs Γ C 40).s O8 (nth Aa.body 0) [qa,some ua,some ub,qb,qc,qd,qe,qf,qg,qh] κ=bind (ixD ua (.int 1)) λx1=>bind (ixD x1 ub) λx2=>bind (C8 (k5 [3,4]) x2 [qa,some ua,some ub,qb,qc,qd,qe,qf,qg,qh]) κ:=by kernel_rfl
theorem d2p:(evK Rs Γ C 40).s O8 (nth Aa.body 1) [qa,qb,qc,some ua,qd,qe,qf,qg,qh,qi] κ=bind (C 22 [ua]) λx1=>κ (.nx [qa,qb,qc,some ua,qd,some x1,qf,qg,qh,qi]):=by kernel_rfl
theorem d2s:(evK Rs Γ C 40).s O8 (nth Aa.body 2) [qa,some ua,some ub,qb,some uc,qc,qd,qe,qf,qg] κ=bind (C9 (.lst [(.str "out")]) ub) λx1=>bind (d8 x1 (.lst [uc])) λx2=>bind (ixD ua (.int 1)) λx3=>bind (m7 x3) λx4=>bind (a74 x4 ub) λx5=>bind (a74 x5 (.int 1)) λx6=>bind (C9 (.lst [(.str "out")]) x6) λx7=>bind (d8 x2 x7) λx8=>κ (.nx [qa,some ua,some ub,qb,some uc,qc,some x8,qe,qf,qg]):=by kernel_rfl
theorem d1k:(evK Rs Γ C 40).s O8 (nth Aa.body 3) [qa,some ua,some ub,qb,qc,some uc,some ud,qd,qe,qf] κ=bind (ixD ua (.int 0)) λx1=>bind (ixD x1 uc) λx2=>bind (M5 ud) λx3=>bind (d8 x2 (.tup [x3])) λx4=>bind (C 18 [x4,ub]) λx5=>κ (.nx [qa,some ua,some ub,qb,qc,some uc,some ud,some x5,qe,qf]):=by kernel_rfl
theorem d1n:(evK Rs Γ C 40).s O8 (nth Aa.body 4) [qa,qb,qc,qd,qe,qf,qg,some ua,qh,qi] κ=bind (b8 .Is ua .non) λx1=>bind (asB x1) λz2=>if z2=true then (κ (.rt .non)) else (κ (.nx [qa,qb,qc,qd,qe,qf,qg,some ua,qh,qi])):=by kernel_rfl
theorem d08:(evK Rs Γ C 40).s O8 (nth Aa.body 5) [qa,qb,some ua,some ub,qc,qd,qe,some uc,qf,qg] κ=bind (ixD uc (.int 2)) λx1=>bind (ixD x1 ua) λx2=>κ (.nx [qa,qb,some ua,some ub,qc,qd,qe,some uc,some (.tup [ub,x2]),qg]):=by kernel_rfl
theorem c8j:(evK Rs Γ C 40).s O8 (nth Aa.body 6) [qa,qb,qc,some ua,qd,qe,qf,qg,some ub,qh] κ=bind (ixD ub (.int 1)) λx1=>bind (b8 .In x1 (.tup [(.str "right"),(.str "down")])) λx2=>bind (asB x2) λz3=>if z3=true then (bind (ixD ub (.int 1)) λx4=>bind (d8 ua (.tup [x4])) λx5=>κ (.nx [qa,qb,qc,some ua,qd,qe,qf,qg,some (.tup [x5,(.str "out")]),qh])) else (κ (.nx [qa,qb,qc,some ua,qd,qe,qf,qg,some ub,qh])):=by kernel_rfl
theorem d24:(evK Rs Γ C 40).s O8 (nth Aa.body 7) [some ua,qa,qb,qc,qd,qe,qf,qg,some ub,qh] κ=bind (ixD ub (.int 0)) λx1=>bind (m7 x1) λx2=>bind (b8 .GtE x2 ua) λx3=>bind (asB x3) λz4=>if z4=true then (κ (.rt .non)) else (κ (.nx [some ua,qa,qb,qc,qd,qe,qf,qg,some ub,qh])):=by kernel_rfl
theorem d13:(evK Rs Γ C 40).s O8 (nth Aa.body 8) [qa,some ua,qb,qc,qd,some ub,qe,some uc,qf,qg] κ=bind (ixD ua (.int 0)) λx1=>bind (y4 ub) λn2=>bind (slD x1 none n2) λx3=>bind (slD uc none (some 2)) λx4=>bind (d8 x3 (.tup [x4])) λx5=>bind (ixD ua (.int 0)) λx6=>bind (d8 ub (.int 1)) λx7=>bind (y4 x7) λn8=>bind (slD x6 n8 none) λx9=>bind (d8 x5 x9) λx10=>κ (.nx [qa,some ua,qb,qc,qd,some ub,qe,some uc,qf,some x10]):=by kernel_rfl
theorem d26:(evK Rs Γ C 40).s O8 (nth Aa.body 9) [qa,some ua,some ub,qb,qc,qd,qe,qf,some uc,some ud] κ=bind (ixD ua (.int 1)) λx1=>bind (y4 ub) λn2=>bind (slD x1 none n2) λx3=>bind (d8 x3 (.tup [uc])) λx4=>bind (ixD ua (.int 1)) λx5=>bind (d8 ub (.int 1)) λx6=>bind (y4 x6) λn7=>bind (slD x5 n7 none) λx8=>bind (d8 x4 x8) λx9=>κ (.rt (.tup [ud,x9])):=by kernel_rfl
noncomputable def a18:Lc:=w8 Ac
theorem c23:runK Rs Γ C Ac [ua]=j0 (evK Rs Γ C 40) a18 Ac.body [some ua,none,none,none,none] endD:=by kernel_rfl
theorem c3i:Ac.body=[nth Ac.body 0,nth Ac.body 1,nth Ac.body 2,nth Ac.body 3,nth Ac.body 4,nth Ac.body 5,nth Ac.body 6,nth Ac.body 7]:=by kernel_rfl
theorem d1v:(evK Rs Γ C 40).s a18 (nth Ac.body 0) [some ua,qa,qb,qc,qd] κ=bind (C8 (k5 [1,2,3]) ua [some ua,qa,qb,qc,qd]) κ:=by kernel_rfl
theorem c7u:(evK Rs Γ C 40).s a18 (nth Ac.body 1) [qa,qb,some ua,some ub,qc] κ=bind (d9 ua) λz1=>if (!z1)=true then (bind (nx (bind (A4 ub) λsm3=>j6 sm3.1 (λd2=>bind (b8 .In d2 (.tup [(.str "look"),(.str "holds"),(.str "right"),(.str "down")])) λx4=>bind (asB x4) λz5=>ret z5) (λd2=>ret d2) sm3.2 0 [])) λl6=>bind (b8 .NotEq (.lst l6) (.lst [])) λx7=>bind (asB x7) λz8=>if z8=true then (κ (.rt (.str "open"))) else (κ (.nx [qa,qb,some ua,some ub,qc]))) else (κ (.nx [qa,qb,some ua,some ub,qc])):=by kernel_rfl
theorem c7w:(evK Rs Γ C 40).s a18 (nth Ac.body 2) [qa,qb,some ua,some ub,qc] κ=bind (d9 ua) λz1=>if z1=true then (bind (nx (bind (A4 ub) λsm3=>j6 sm3.1 (λd2=>bind (b8 .In d2 (.tup [(.str "look"),(.str "holds"),(.str "down")])) λx4=>bind (asB x4) λz5=>ret z5) (λd2=>ret d2) sm3.2 0 [])) λl6=>bind (b8 .Eq (.lst l6) (.lst [])) λx7=>bind (asB x7) λz8=>if z8=true then (κ (.rt (.str "closed"))) else (κ (.nx [qa,qb,some ua,some ub,qc]))) else (κ (.nx [qa,qb,some ua,some ub,qc])):=by kernel_rfl
theorem d2f:(evK Rs Γ C 40).s a18 (nth Ac.body 3) [qa,some ua,qb,some ub,qc] κ=bind (b8 .Is ua .non) λx1=>bind (asB x1) λz2=>if z2=true then (bind (nx (bind (A4 ub) λsm4=>j6 sm4.1 (λd3=>bind (b8 .NotEq d3 (.str "out")) λx5=>bind (asB x5) λz6=>ret z6) (λd3=>ret d3) sm4.2 0 [])) λl7=>bind (b8 .NotEq (.lst l7) (.lst [])) λx8=>bind (asB x8) λz9=>if z9=true then (κ (.rt (.str "free"))) else (κ (.rt (.str "")))) else (κ (.nx [qa,some ua,qb,some ub,qc])):=by kernel_rfl
theorem d2k:(evK Rs Γ C 40).s a18 (nth Ac.body 4) [qa,some ua,qb,some ub,qc] κ=bind (ixD ub ua) λx1=>bind (b8 .In x1 (.tup [(.str "out"),(.str "down")])) λx2=>bind (asB x2) λz3=>if z3=true then (κ (.rt (.str "mark"))) else (κ (.nx [qa,some ua,qb,some ub,qc])):=by kernel_rfl
theorem d3b:(evK Rs Γ C 40).s a18 (nth Ac.body 5) [qa,qb,qc,some ua,qd] κ=bind (nx (bind (m7 ua) λx2=>bind (y8 [x2]) λsm3=>j6 sm3.1 (λd1=>bind (ixD ua d1) λx4=>bind (b8 .Eq x4 (.str "holds")) λx5=>bind (asB x5) λz6=>ret z6) (λd1=>ret d1) sm3.2 0 [])) λl7=>κ (.nx [qa,qb,qc,some ua,some (.lst l7)]):=by kernel_rfl
theorem d2q:(evK Rs Γ C 40).s a18 (nth Ac.body 6) [qa,some ua,qb,some ub,some uc] κ=bind (b8 .NotEq uc (.lst [])) λx1=>bind (asB x1) λz2=>if z2=true then (bind (ixD ub ua) λx3=>bind (b8 .In x3 (.tup [(.str "close"),(.str "look")])) λx4=>bind (asB x4) λz5=>if z5=true then (κ (.rt (.str "late"))) else (κ (.nx [qa,some ua,qb,some ub,some uc]))) else (κ (.nx [qa,some ua,qb,some ub,some uc])):=by kernel_rfl
theorem d2g:(evK Rs Γ C 40).s a18 (nth Ac.body 7) [qa,qb,qc,qd,some ua] κ=bind (m7 ua) λx1=>bind (b8 .Gt x1 (.int 1)) λx2=>bind (asB x2) λz3=>if z3=true then (κ (.rt (.str "twice"))) else (κ (.rt (.str ""))):=by kernel_rfl
noncomputable def a3l:Lc:=w8 Ar
theorem b8q:runK Rs Γ C Ar [ua,ub]=j0 (evK Rs Γ C 40) a3l Ar.body [some ua,some ub,none,none] endD:=by kernel_rfl
theorem c01:Ar.body=[nth Ar.body 0,nth Ar.body 1]:=by kernel_rfl
noncomputable def O4:List Stmt:=k9 (nth Ar.body 0)
noncomputable def a52 (C:Cf):L3.Env->M Fl:=λρ'=>j0 (evK Rs Γ C 39) a3l O4 ρ' ret
theorem c6r:(evK Rs Γ C 40).s a3l (nth Ar.body 0) [qa,some ua,qb,qc] κ=bind (ixD ua (.int 0)) λx1=>bind (m7 x1) λx2=>bind (y8 [x2]) λsm3=>bind (p9 sm3.1 (λd ρ=>some (ρ.set 2 (some d))) (a52 C) sm3.2 0 [qa,some ua,qb,qc]) κ:=by kernel_rfl
theorem c7s:(evK Rs Γ C 40).s a3l (nth Ar.body 1) [qa,qb,qc,qd] κ=κ (.rt (.tup [])):=by kernel_rfl
theorem a5q:O4=[nth O4 0,nth O4 1]:=by kernel_rfl
theorem b0x:(evK Rs Γ C 39).s a3l (nth O4 0) [some ua,some ub,some uc,qa] κ=bind (C 21 [ua,ub,uc]) λx1=>bind (C 24 [x1]) λx2=>κ (.nx [some ua,some ub,some uc,some x2]):=by kernel_rfl
theorem b17:(evK Rs Γ C 39).s a3l (nth O4 1) [qa,qb,some ua,some ub] κ=bind (b8 .NotEq ub (.str "")) λx1=>bind (asB x1) λz2=>if z2=true then (κ (.rt (.tup [ub,ua]))) else (κ (.nx [qa,qb,some ua,some ub])):=by kernel_rfl
theorem c45:runK Rs Γ C c2y [ua,ub]=bind (C 19 [ua]) λx1=>bind (m7 x1) λx2=>bind (C9 (.tup [(.tup [.non,(.bl false)])]) x2) λx3=>bind (C9 (.tup [(.tup [(.tup []),(.str "out")])]) ub) λx4=>ret (.tup [x3,x4]):=by kernel_rfl
noncomputable def Q1:Lc:=w8 Ai
theorem b7w:runK Rs Γ C Ai [ua,ub,uc]=j0 (evK Rs Γ C 40) Q1 Ai.body [some ua,some ub,some uc,none,none,none,none,none] endD:=by kernel_rfl
theorem b7a:Ai.body=[nth Ai.body 0,nth Ai.body 1,nth Ai.body 2,nth Ai.body 3]:=by kernel_rfl
theorem c92:(evK Rs Γ C 40).s Q1 (nth Ai.body 0) [qa,some ua,some ub,qb,qc,qd,qe,qf] κ=bind (C 26 [ua,ub]) λx1=>κ (.nx [qa,some ua,some ub,some x1,qc,qd,qe,qf]):=by kernel_rfl
theorem c8c:(evK Rs Γ C 40).s Q1 (nth Ai.body 1) [some ua,qa,some ub,qb,qc,qd,qe,qf] κ=bind (nx (bind (y8 [ub]) λsm2=>j6 sm2.1 (λd1=>bind (C 17 [ua,(.int 5)]) λx3=>bind (b8 .Eq x3 (.int 0)) λx4=>bind (asB x4) λz5=>ret z5) (λd1=>ret d1) sm2.2 0 [])) λl6=>κ (.nx [some ua,qa,some ub,qb,qc,some (.lst l6),qe,qf]):=by kernel_rfl
noncomputable def A9:List Stmt:=k9 (nth Ai.body 2)
noncomputable def a53 (C:Cf):L3.Env->M Fl:=λρ'=>j0 (evK Rs Γ C 39) Q1 A9 ρ' ret
theorem c7q:(evK Rs Γ C 40).s Q1 (nth Ai.body 2) [some ua,qa,some ub,qb,qc,qd,qe,qf] κ=bind (C9 (.int 8) ub) λx1=>bind (C 17 [ua,x1]) λx2=>bind (y8 [x2]) λsm3=>bind (p9 sm3.1 (λd ρ=>some (ρ.set 6 (some d))) (a53 C) sm3.2 0 [some ua,qa,some ub,qb,qc,qd,qe,qf]) κ:=by kernel_rfl
theorem c7f:(evK Rs Γ C 40).s Q1 (nth Ai.body 3) [qa,qb,qc,some ua,qd,qe,qf,qg] κ=κ (.rt ua):=by kernel_rfl
theorem a5t:A9=[nth A9 0,nth A9 1,nth A9 2]:=by kernel_rfl
theorem b1k:(evK Rs Γ C 39).s Q1 (nth A9 0) [some ua,qa,some ub,qb,qc,qd,qe,qf] κ=bind (C 17 [ua,ub]) λx1=>κ (.nx [some ua,qa,some ub,qb,some x1,qd,qe,qf]):=by kernel_rfl
theorem b1h:(evK Rs Γ C 39).s Q1 (nth A9 1) [qa,some ua,qb,some ub,some uc,some ud,some ue,qc] κ=bind (b8 .In uc ud) λx1=>bind (asB x1) λz2=>if z2=true then (bind (b8 .Gt ue (.int 6)) λx3=>bind (asB x3) λz4=>if z4=true then (κ (.nx [qa,some ua,qb,some ub,some uc,some ud,some ue,some .non])) else (bind (C 23 [ua,ub,uc]) λx5=>κ (.nx [qa,some ua,qb,some ub,some uc,some ud,some ue,some x5]))) else (bind (C 23 [ua,ub,uc]) λx6=>κ (.nx [qa,some ua,qb,some ub,some uc,some ud,some ue,some x6])):=by kernel_rfl
theorem a2y:(evK Rs Γ C 39).s Q1 (nth A9 2) [qa,qb,qc,some ua,qd,qe,qf,some ub] κ=bind (b8 .Is ub .non) λx1=>bind (asB x1) λz2=>if z2=true then (κ (.nx [qa,qb,qc,some ua,qd,qe,qf,some ub])) else (κ (.nx [qa,qb,qc,some ub,qd,qe,qf,some ub])):=by kernel_rfl
noncomputable def K1:Lc:=w8 Ad
theorem b8f:runK Rs Γ C Ad [ua,ub,uc]=j0 (evK Rs Γ C 40) K1 Ad.body [some ua,some ub,some uc,none,none,none,none,none,none,none,none,none,none] endD:=by kernel_rfl
theorem b80:Ad.body=[nth Ad.body 0,nth Ad.body 1,nth Ad.body 2,nth Ad.body 3,nth Ad.body 4,nth Ad.body 5,nth Ad.body 6,nth Ad.body 7,nth Ad.body 8,nth Ad.body 9]:=by kernel_rfl
theorem c9l:(evK Rs Γ C 40).s K1 (nth Ad.body 0) [qa,qb,some ua,qc,qd,qe,qf,qg,qh,qi,qj,qk,ql] κ=bind (C8 (k5 [3,4]) ua [qa,qb,some ua,qc,qd,qe,qf,qg,qh,qi,qj,qk,ql]) κ:=by kernel_rfl
theorem d0t:(evK Rs Γ C 40).s K1 (nth Ad.body 1) [qa,qb,qc,qd,some ua,qe,qf,qg,qh,qi,qj,qk,ql] κ=bind (m7 ua) λx1=>κ (.nx [qa,qb,qc,qd,some ua,some x1,qf,qg,qh,qi,qj,qk,ql]):=by kernel_rfl
theorem c8b:(evK Rs Γ C 40).s K1 (nth Ad.body 2) [some ua,qa,qb,qc,qd,qe,qf,qg,qh,qi,qj,qk,ql] κ=bind (C 17 [ua,(.int 4)]) λx1=>κ (.nx [some ua,qa,qb,qc,qd,qe,some x1,qg,qh,qi,qj,qk,ql]):=by kernel_rfl
theorem d06:(evK Rs Γ C 40).s K1 (nth Ad.body 3) [some ua,qa,qb,some ub,qc,qd,qe,qf,qg,qh,qi,qj,qk] κ=bind (m7 ub) λx1=>bind (C 17 [ua,x1]) λx2=>κ (.nx [some ua,qa,qb,some ub,qc,qd,qe,some x2,qg,qh,qi,qj,qk]):=by kernel_rfl
theorem c8r:(evK Rs Γ C 40).s K1 (nth Ad.body 4) [some ua,qa,qb,some ub,some uc,some ud,some ue,some uf,qc,qd,qe,qf,qg] κ=bind (b8 .Lt ue (.int 2)) λx1=>bind (asB x1) λz2=>if z2=true then (bind (U3 ud) λx3=>bind (d8 (.lst [.non]) x3) λx4=>bind (d8 ud (.int 1)) λx5=>bind (C 17 [ua,x5]) λx6=>bind (ixD x4 x6) λx7=>bind (ixD ub uf) λx8=>bind (ixD x8 (.int 1)) λx9=>bind (b8 .Eq ue (.int 1)) λx10=>bind (asB x10) λz11=>if z11=true then (bind (ixD ub uf) λx12=>bind (ixD x12 (.int 0)) λx13=>bind (ixD ub uf) λx14=>bind (ixD x14 (.int 1)) λx15=>bind (d9 x15) λc16=>bind (y4 uf) λn17=>bind (slD ub none n17) λx18=>bind (M5 (.lst [x13,(.bl (!c16))])) λx19=>bind (d8 x18 (.tup [x19])) λx20=>bind (d8 uf (.int 1)) λx21=>bind (y4 x21) λn22=>bind (slD ub n22 none) λx23=>bind (d8 x20 x23) λx24=>κ (.rt (.tup [x24,uc]))) else (bind (y4 uf) λn25=>bind (slD ub none n25) λx26=>bind (M5 (.lst [x7,x9])) λx27=>bind (d8 x26 (.tup [x27])) λx28=>bind (d8 uf (.int 1)) λx29=>bind (y4 x29) λn30=>bind (slD ub n30 none) λx31=>bind (d8 x28 x31) λx32=>κ (.rt (.tup [x32,uc])))) else (κ (.nx [some ua,qa,qb,some ub,some uc,some ud,some ue,some uf,qc,qd,qe,qf,qg])):=by kernel_rfl
theorem c8n:(evK Rs Γ C 40).s K1 (nth Ad.body 5) [some ua,qa,qb,qc,qd,some ub,qe,qf,qg,qh,qi,qj,qk] κ=bind (C 17 [ua,ub]) λx1=>κ (.nx [some ua,qa,qb,qc,qd,some ub,qe,qf,qg,some x1,qi,qj,qk]):=by kernel_rfl
theorem c72:(evK Rs Γ C 40).s K1 (nth Ad.body 6) [qa,qb,qc,qd,some ua,qe,qf,qg,qh,some ub,qi,qj,qk] κ=bind (ixD ua ub) λx1=>bind (C8 (k5 [10,11]) x1 [qa,qb,qc,qd,some ua,qe,qf,qg,qh,some ub,qi,qj,qk]) κ:=by kernel_rfl
theorem c9s:(evK Rs Γ C 40).s K1 (nth Ad.body 7) [some ua,qa,qb,qc,qd,qe,qf,qg,qh,qi,qj,qk,ql] κ=bind (C 17 [ua,(.int 5)]) λx1=>bind (ixD (.lst [(.str "out"),(.str "ask"),(.str "close"),(.str "look"),(.str "holds")]) x1) λx2=>κ (.nx [some ua,qa,qb,qc,qd,qe,qf,qg,qh,qi,qj,some x2,ql]):=by kernel_rfl
theorem c83:(evK Rs Γ C 40).s K1 (nth Ad.body 8) [some ua,some ub,qa,qb,qc,qd,some uc,qe,qf,qg,qh,qi,qj] κ=bind (b8 .Eq uc (.int 3)) λx1=>bind (asB x1) λz2=>if z2=true then (bind (nx (bind (C 17 [ua,ub]) λx4=>bind (y8 [x4]) λsm5=>j6 sm5.1 (λd3=>ret true) (λd3=>bind (C 17 [ua,(.int 2)]) λx6=>bind (ixD (.lst [(.str "right"),(.str "down")]) x6) λx7=>ret x7) sm5.2 0 [])) λl8=>bind (M5 (.lst l8)) λx9=>κ (.nx [some ua,some ub,qa,qb,qc,qd,some uc,qe,qf,qg,some x9,qi,some (.lst l8)])) else (κ (.nx [some ua,some ub,qa,qb,qc,qd,some uc,qe,qf,qg,qh,qi,qj])):=by kernel_rfl
theorem c9i:(evK Rs Γ C 40).s K1 (nth Ad.body 9) [qa,qb,qc,some ua,some ub,qd,qe,qf,qg,some uc,some ud,some ue,qh] κ=bind (y4 uc) λn1=>bind (slD ub none n1) λx2=>bind (d8 x2 (.tup [(.tup [ud,ue])])) λx3=>bind (d8 uc (.int 1)) λx4=>bind (y4 x4) λn5=>bind (slD ub n5 none) λx6=>bind (d8 x3 x6) λx7=>κ (.rt (.tup [ua,x7])):=by kernel_rfl
noncomputable def a1x:Lc:=w8 An
theorem b8a:runK Rs Γ C An [ua,ub,uc]=j0 (evK Rs Γ C 40) a1x An.body [some ua,some ub,some uc,none,none,none] endD:=by kernel_rfl
theorem b76:An.body=[nth An.body 0,nth An.body 1,nth An.body 2]:=by kernel_rfl
theorem d0w:(evK Rs Γ C 40).s a1x (nth An.body 0) [some ua,some ub,some uc,qa,qb,qc] κ=bind (C 27 [ua,ub,uc]) λx1=>κ (.nx [some ua,some ub,some uc,some x1,qb,qc]):=by kernel_rfl
noncomputable def N1:List Stmt:=k9 (nth An.body 1)
noncomputable def a5j (C:Cf):L3.Env->M Fl:=λρ'=>j0 (evK Rs Γ C 39) a1x N1 ρ' ret
theorem c9j:(evK Rs Γ C 40).s a1x (nth An.body 1) [qa,qb,qc,qd,qe,qf] κ=bind (y8 [(.int 10)]) λsm1=>bind (p9 sm1.1 (λd ρ=>some (ρ.set 4 (some d))) (a5j C) sm1.2 0 [qa,qb,qc,qd,qe,qf]) κ:=by kernel_rfl
theorem c98:(evK Rs Γ C 40).s a1x (nth An.body 2) [qa,qb,qc,some ua,qd,qe] κ=κ (.rt ua):=by kernel_rfl
theorem a49:N1=[nth N1 0,nth N1 1]:=by kernel_rfl
theorem b1e:(evK Rs Γ C 39).s a1x (nth N1 0) [some ua,some ub,qa,some uc,qb,qc] κ=bind (C 28 [ua,ub,uc]) λx1=>κ (.nx [some ua,some ub,qa,some uc,qb,some x1]):=by kernel_rfl
theorem b1b:(evK Rs Γ C 39).s a1x (nth N1 1) [qa,some ua,qb,qc,qd,some ub] κ=bind (C 25 [ua,ub]) λx1=>bind (b8 .Eq x1 (.tup [])) λx2=>bind (asB x2) λz3=>if z3=true then (κ (.nx [qa,some ua,qb,some ub,qd,some ub])) else (κ (.nx [qa,some ua,qb,qc,qd,some ub])):=by kernel_rfl
theorem c43:runK Rs Γ C c44 [ua,ub]=bind (z0 "int" (λ_=>false) ua) λx1=>bind (d9 x1) λc2=>if c2=true then (bind (z0 "bool" (λ_=>false) ua) λx3=>bind (d9 x3) λc4=>bind (d9 (.bl (!c4))) λc5=>if c5=true then (bind (b8 .LtE (.int 0) ua) λx6=>bind (asB x6) λz7=>if z7=true then (bind (b8 .Lt ua ub) λx8=>ret x8) else (ret (.bl false))) else (ret (.bl (!c4)))) else (ret x1):=by kernel_rfl
noncomputable def v6:Lc:=w8 Af
theorem c07:runK Rs Γ C Af [ua,ub,uc]=j0 (evK Rs Γ C 40) v6 Af.body [some ua,some ub,some uc,none,none,none,none,none,none,none,none] endD:=by kernel_rfl
theorem b77:Af.body=[nth Af.body 0,nth Af.body 1,nth Af.body 2,nth Af.body 3,nth Af.body 4,nth Af.body 5,nth Af.body 6,nth Af.body 7]:=by kernel_rfl
theorem c89:(evK Rs Γ C 40).s v6 (nth Af.body 0) [qa,qb,some ua,qc,qd,qe,qf,qg,qh,qi,qj] κ=bind (z0 "tuple" (λ_=>false) ua) λx1=>bind (d9 x1) λz2=>if (!z2)=true then (κ (.rt (.bl false))) else (bind (m7 ua) λx3=>bind (b8 .NotEq x3 (.int 2)) λx4=>bind (asB x4) λz5=>if z5=true then (κ (.rt (.bl false))) else (κ (.nx [qa,qb,some ua,qc,qd,qe,qf,qg,qh,qi,qj]))):=by kernel_rfl
theorem c6u:(evK Rs Γ C 40).s v6 (nth Af.body 1) [qa,qb,some ua,qc,qd,qe,qf,qg,qh,qi,qj] κ=bind (C8 (k5 [3,4]) ua [qa,qb,some ua,qc,qd,qe,qf,qg,qh,qi,qj]) κ:=by kernel_rfl
theorem c88:(evK Rs Γ C 40).s v6 (nth Af.body 2) [some ua,qa,qb,some ub,qc,qd,qe,qf,qg,qh,qi] κ=bind (z0 "tuple" (λ_=>false) ub) λx1=>bind (d9 x1) λz2=>if (!z2)=true then (κ (.rt (.bl false))) else (bind (m7 ub) λx3=>bind (d8 ua (.int 1)) λx4=>bind (C9 ua x4) λx5=>bind (K2 x5 (.int 2)) λx6=>bind (b8 .NotEq x3 x6) λx7=>bind (asB x7) λz8=>if z8=true then (κ (.rt (.bl false))) else (κ (.nx [some ua,qa,qb,some ub,qc,qd,qe,qf,qg,qh,qi]))):=by kernel_rfl
theorem c90:(evK Rs Γ C 40).s v6 (nth Af.body 3) [qa,some ua,qb,qc,some ub,qd,qe,qf,qg,qh,qi] κ=bind (z0 "tuple" (λ_=>false) ub) λx1=>bind (d9 x1) λz2=>if (!z2)=true then (κ (.rt (.bl false))) else (bind (m7 ub) λx3=>bind (b8 .NotEq x3 ua) λx4=>bind (asB x4) λz5=>if z5=true then (κ (.rt (.bl false))) else (κ (.nx [qa,some ua,qb,qc,some ub,qd,qe,qf,qg,qh,qi]))):=by kernel_rfl
noncomputable def a0e:List Stmt:=k9 (nth Af.body 4)
noncomputable def a0v (C:Cf):L3.Env->M Fl:=λρ'=>j0 (evK Rs Γ C 39) v6 a0e ρ' ret
theorem c77:(evK Rs Γ C 40).s v6 (nth Af.body 4) [qa,qb,qc,some ua,some ub,qd,qe,qf,qg,qh,qi] κ=bind (d8 ua ub) λx1=>bind (A4 x1) λsm2=>bind (p9 sm2.1 (λd ρ=>some (ρ.set 5 (some d))) (a0v C) sm2.2 0 [qa,qb,qc,some ua,some ub,qd,qe,qf,qg,qh,qi]) κ:=by kernel_rfl
noncomputable def a0k:List Stmt:=k9 (nth Af.body 5)
noncomputable def a04 (C:Cf):L3.Env->M Fl:=λρ'=>j0 (evK Rs Γ C 39) v6 a0k ρ' ret
theorem c9b:(evK Rs Γ C 40).s v6 (nth Af.body 5) [qa,qb,qc,some ua,qd,qe,qf,qg,qh,qi,qj] κ=bind (A4 ua) λsm1=>bind (p9 sm1.1 (k5 [6,7]) (a04 C) sm1.2 0 [qa,qb,qc,some ua,qd,qe,qf,qg,qh,qi,qj]) κ:=by kernel_rfl
noncomputable def A7:List Stmt:=k9 (nth Af.body 6)
noncomputable def a02 (C:Cf):L3.Env->M Fl:=λρ'=>j0 (evK Rs Γ C 39) v6 A7 ρ' ret
theorem d1b:(evK Rs Γ C 40).s v6 (nth Af.body 6) [qa,qb,qc,qd,some ua,qe,qf,qg,qh,qi,qj] κ=bind (A4 ua) λsm1=>bind (p9 sm1.1 (k5 [8,9]) (a02 C) sm1.2 0 [qa,qb,qc,qd,some ua,qe,qf,qg,qh,qi,qj]) κ:=by kernel_rfl
theorem c93:(evK Rs Γ C 40).s v6 (nth Af.body 7) [qa,qb,qc,qd,qe,qf,qg,qh,qi,qj,qk] κ=κ (.rt (.bl true)):=by kernel_rfl
theorem a5h:a0e=[nth a0e 0]:=by kernel_rfl
theorem b16:(evK Rs Γ C 39).s v6 (nth a0e 0) [qa,qb,qc,qd,qe,some ua,qf,qg,qh,qi,qj] κ=bind (z0 "tuple" (λ_=>false) ua) λx1=>bind (d9 x1) λz2=>if (!z2)=true then (κ (.rt (.bl false))) else (bind (m7 ua) λx3=>bind (b8 .NotEq x3 (.int 2)) λx4=>bind (asB x4) λz5=>if z5=true then (κ (.rt (.bl false))) else (κ (.nx [qa,qb,qc,qd,qe,some ua,qf,qg,qh,qi,qj]))):=by kernel_rfl
theorem a5f:a0k=[nth a0k 0]:=by kernel_rfl
theorem b0z:(evK Rs Γ C 39).s v6 (nth a0k 0) [qa,some ua,qb,qc,qd,qe,some ub,some uc,qf,qg,qh] κ=bind (z0 "bool" (λ_=>false) uc) λx1=>bind (d9 x1) λz2=>if (!z2)=true then (κ (.rt (.bl false))) else (bind (b8 .IsNot ub .non) λx3=>bind (asB x3) λz4=>if z4=true then (bind (C 32 [ub,ua]) λx5=>bind (d9 x5) λz6=>if (!z6)=true then (κ (.rt (.bl false))) else (κ (.nx [qa,some ua,qb,qc,qd,qe,some ub,some uc,qf,qg,qh]))) else (κ (.nx [qa,some ua,qb,qc,qd,qe,some ub,some uc,qf,qg,qh]))):=by kernel_rfl
theorem a5k:A7=[nth A7 0,nth A7 1,nth A7 2]:=by kernel_rfl
theorem b1y:(evK Rs Γ C 39).s v6 (nth A7 0) [some ua,qa,qb,qc,qd,qe,qf,qg,some ub,some uc,qh] κ=bind (z0 "tuple" (λ_=>false) ub) λx1=>bind (d9 x1) λz2=>if (!z2)=true then (κ (.rt (.bl false))) else (bind (m7 ub) λx3=>bind (b8 .GtE x3 ua) λx4=>bind (asB x4) λz5=>if z5=true then (κ (.rt (.bl false))) else (bind (z0 "str" (λ_=>false) uc) λx6=>bind (d9 x6) λz7=>if (!z7)=true then (κ (.rt (.bl false))) else (κ (.nx [some ua,qa,qb,qc,qd,qe,qf,qg,some ub,some uc,qh])))):=by kernel_rfl
theorem b0w:(evK Rs Γ C 39).s v6 (nth A7 1) [qa,qb,qc,qd,qe,qf,qg,qh,qi,some ua,qj] κ=bind (b8 .NotIn ua (.lst [(.str "out"),(.str "ask"),(.str "close"),(.str "look"),(.str "holds")])) λx1=>bind (asB x1) λz2=>if z2=true then (κ (.rt (.bl false))) else (κ (.nx [qa,qb,qc,qd,qe,qf,qg,qh,qi,some ua,qj])):=by kernel_rfl
noncomputable def D1:List Stmt:=k9 (nth A7 2)
noncomputable def J6 (C:Cf):L3.Env->M Fl:=λρ'=>j0 (evK Rs Γ C 38) v6 D1 ρ' ret
theorem b19:(evK Rs Γ C 39).s v6 (nth A7 2) [qa,qb,qc,qd,qe,qf,qg,qh,some ua,qi,qj] κ=bind (A4 ua) λsm1=>bind (p9 sm1.1 (λd ρ=>some (ρ.set 10 (some d))) (J6 C) sm1.2 0 [qa,qb,qc,qd,qe,qf,qg,qh,some ua,qi,qj]) κ:=by kernel_rfl
theorem Z9:D1=[nth D1 0]:=by kernel_rfl
theorem a2j:(evK Rs Γ C 38).s v6 (nth D1 0) [qa,qb,qc,qd,qe,qf,qg,qh,qi,qj,some ua] κ=bind (z0 "str" (λ_=>false) ua) λx1=>bind (d9 x1) λz2=>if (!z2)=true then (κ (.rt (.bl false))) else (bind (b8 .NotIn ua (.lst [(.str "right"),(.str "down")])) λx3=>bind (asB x3) λz4=>if z4=true then (κ (.rt (.bl false))) else (κ (.nx [qa,qb,qc,qd,qe,qf,qg,qh,qi,qj,some ua]))):=by kernel_rfl
theorem a5d:runK Rs Γ C a34 [ua,ub,uc]=bind (C 33 [ua,ub,uc]) λx1=>bind (d9 x1) λz2=>if (!z2)=true then (ret (.tup [(.str "shape"),(.int 0)])) else (bind (C 25 [ua,uc]) λx3=>bind (b8 .Eq x3 (.tup [])) λx4=>bind (asB x4) λz5=>if z5=true then (ret (.bl true)) else (ret x3)):=by kernel_rfl
noncomputable def P9:Lc:=w8 Ak
theorem c09:runK Rs Γ C Ak [ua,ub,uc]=j0 (evK Rs Γ C 40) P9 Ak.body [some ua,some ub,some uc,none,none] endD:=by kernel_rfl
theorem c06:Ak.body=[nth Ak.body 0,nth Ak.body 1,nth Ak.body 2]:=by kernel_rfl
theorem c8l:(evK Rs Γ C 40).s P9 (nth Ak.body 0) [qa,qb,qc,qd,qe] κ=κ (.nx [qa,qb,qc,some .non,qe]):=by kernel_rfl
noncomputable def b4s (C:Cf):L3.Env->M Fl:=bX (eBK (evK Rs Γ C 39) Γ C P9) P9 (nth (b8w (nth Ak.body 1)) 0)
theorem a1f:b4s C [some ua,some ub,some uc,qa,qb]=bind (C 8 [ua,ub,uc]) λx1=>ret (.nx [some ua,some ub,some uc,some x1,qb]):=by kernel_rfl
noncomputable def J7:List Stmt:=b7g (nth Ak.body 1)
noncomputable def c4z (C:Cf):L3.Env->M Fl:=λρ'=>j0 (evK Rs Γ C 39) (K5 P9) J7 ρ' ret
theorem d1a:(evK Rs Γ C 40).s P9 (nth Ak.body 1) [qa,qb,qc,qd,qe] κ=bind (a0y (b4s C) (λc=>Γ.sub c 0) (some 4) (c4z C) [qa,qb,qc,qd,qe]) κ:=by kernel_rfl
theorem c1l:(evK Rs Γ C 40).s P9 (nth Ak.body 2) [qa,qb,qc,some ua,qd] κ=κ (.rt ua):=by kernel_rfl
theorem a5g:J7=[nth J7 0,nth J7 1]:=by kernel_rfl
theorem b2a:(evK Rs Γ C 39).s (K5 P9) (nth J7 0) [qa,qb,qc,qd,qe] κ=κ (.nx [qa,qb,qc,some (.str "odd"),qe]):=by kernel_rfl
theorem b0o:(evK Rs Γ C 39).s (K5 P9) (nth J7 1) [qa,qb,qc,qd,some ua] κ=bind (B9 (λc=>Γ.sub c 3) ua) λx1=>bind (d9 x1) λz2=>if z2=true then (bind (B9 (λ_=>true) ua) λx3=>bind (d9 x3) λz4=>if z4=true then (bind (B9 (λc=>[2,6,1,5,4].any λc0=>Γ.sub c c0) ua) λx5=>bind (d9 x5) λz6=>if (!z6)=true then (bind (a5u "word" ua) λx7=>bind (a5u "at" ua) λx8=>κ (.nx [qa,qb,qc,some (.tup [x7,x8]),some ua])) else (κ (.nx [qa,qb,qc,qd,some ua]))) else (κ (.nx [qa,qb,qc,qd,some ua]))) else (κ (.nx [qa,qb,qc,qd,some ua])):=by kernel_rfl
theorem b8x:runK Rs Γ C b4l [ua,ub,uc]=bind (U5 uc) λx1=>bind (C 35 [ua,ub,uc]) λx2=>bind (U5 x2) λx3=>bind (C 34 [ua,ub,uc]) λx4=>bind (U5 x4) λx5=>bind (b8 .Eq x3 x5) λx6=>bind (d9 x6) λc7=>if c7=true then (bind (U5 uc) λx8=>bind (b8 .Eq x8 x1) λx9=>ret x9) else (ret x6):=by kernel_rfl
noncomputable def a3h:Lc:=w8 Ag
theorem b83:runK Rs Γ C Ag [ua]=j0 (evK Rs Γ C 40) a3h Ag.body [some ua,none,none,none] endD:=by kernel_rfl
theorem b7d:Ag.body=[nth Ag.body 0,nth Ag.body 1,nth Ag.body 2,nth Ag.body 3,nth Ag.body 4]:=by kernel_rfl
theorem d1f:(evK Rs Γ C 40).s a3h (nth Ag.body 0) [qa,qb,qc,qd] κ=bind (a2q [((.str "open"),(.tup [(.tup [(.int 0),(.bl false)]),(.tup [(.str "look"),(.str "out")])])),((.str "closed"),(.tup [(.tup [(.int 1),(.bl true)]),(.tup [(.str "out"),(.str "close")])]))]) λx1=>κ (.nx [qa,some x1,qc,qd]):=by kernel_rfl
theorem c9w:(evK Rs Γ C 40).s a3h (nth Ag.body 1) [qa,some ua,qb,qc] κ=bind (dctOf ua) λ_=>bind (a2q [((.str "free"),(.tup [(.tup [.non,(.bl false)]),(.tup [(.str "ask"),(.str "out")])])),((.str "mark"),(.tup [(.tup [(.int 0),(.bl false)]),(.tup [(.str "out"),(.str "ask")])]))]) λx1=>bind (updD ua [x1]) λx2=>κ (.nx [qa,some ua,qb,qc]):=by kernel_rfl
theorem c69:(evK Rs Γ C 40).s a3h (nth Ag.body 2) [qa,some ua,qb,qc] κ=bind (dctOf ua) λ_=>bind (a2q [((.str "late"),(.tup [(.tup [(.int 0),(.bl true)]),(.tup [(.str "close"),(.str "holds")])])),((.str "twice"),(.tup [(.tup [(.int 1),(.bl true)]),(.tup [(.str "holds"),(.str "holds")])]))]) λx1=>bind (updD ua [x1]) λx2=>κ (.nx [qa,some ua,qb,qc]):=by kernel_rfl
theorem c8f:(evK Rs Γ C 40).s a3h (nth Ag.body 3) [some ua,some ub,qa,qb] κ=bind (ixD ub ua) λx1=>bind (C8 (k5 [2,3]) x1 [some ua,some ub,qa,qb]) κ:=by kernel_rfl
theorem c7b:(evK Rs Γ C 40).s a3h (nth Ag.body 4) [qa,qb,some ua,some ub] κ=bind (ixD ub (.int 0)) λx1=>bind (ixD ub (.int 1)) λx2=>κ (.rt (.tup [(.tup [ua,(.tup [.non,(.bl false)]),(.tup [.non,(.bl false)])]),(.tup [(.tup [(.tup []),x1]),(.tup [(.tup []),x2])])])):=by kernel_rfl
noncomputable def q0:Lc:=w8 law_F
theorem b67:runK Rs Γ C law_F [ua]=j0 (evK Rs Γ C 40) q0 law_F.body [some ua,none,none,none,none,none,none,none,none,none,none,none,none] endD:=by kernel_rfl
theorem b94:law_F.body=[nth law_F.body 0,nth law_F.body 1,nth law_F.body 2,nth law_F.body 3,nth law_F.body 4,nth law_F.body 5]:=by kernel_rfl
theorem c8v:(evK Rs Γ C 40).s q0 (nth law_F.body 0) [some ua,qa,qb,qc,qd,qe,qf,qg,qh,qi,qj,qk,ql] κ=bind (C 16 [ua]) λx1=>κ (.nx [some ua,some x1,qb,qc,qd,qe,qf,qg,qh,qi,qj,qk,ql]):=by kernel_rfl
noncomputable def u3:List Stmt:=k9 (nth law_F.body 1)
noncomputable def a5a (C:Cf):L3.Env->M Fl:=λρ'=>j0 (evK Rs Γ C 39) q0 u3 ρ' ret
theorem c6m:(evK Rs Γ C 40).s q0 (nth law_F.body 1) [qa,qb,qc,qd,qe,qf,qg,qh,qi,qj,qk,ql,qm] κ=bind (y8 [(.int 4)]) λsm1=>bind (p9 sm1.1 (λd ρ=>some (ρ.set 2 (some d))) (a5a C) sm1.2 0 [qa,qb,qc,qd,qe,qf,qg,qh,qi,qj,qk,ql,qm]) κ:=by kernel_rfl
noncomputable def a0f:List Stmt:=k9 (nth law_F.body 2)
noncomputable def U9 (C:Cf):L3.Env->M Fl:=λρ'=>j0 (evK Rs Γ C 39) q0 a0f ρ' ret
theorem c8s:(evK Rs Γ C 40).s q0 (nth law_F.body 2) [qa,qb,qc,qd,qe,qf,qg,qh,qi,qj,qk,ql,qm] κ=bind (A4 (.lst [(.str "open"),(.str "closed"),(.str "free"),(.str "mark"),(.str "late"),(.str "twice")])) λsm1=>bind (p9 sm1.1 (λd ρ=>some (ρ.set 10 (some d))) (U9 C) sm1.2 0 [qa,qb,qc,qd,qe,qf,qg,qh,qi,qj,qk,ql,qm]) κ:=by kernel_rfl
theorem c70:(evK Rs Γ C 40).s q0 (nth law_F.body 3) [qa,qb,qc,qd,qe,qf,qg,qh,qi,qj,qk,ql,qm] κ=κ (.nx [qa,qb,qc,qd,qe,qf,qg,qh,qi,qj,qk,some (.lst [.non,(.tup []),(.lst []),(.tup [(.tup []),(.tup [])]),(.str ""),(.int 0),(.tup [(.tup [(.tup [.non,(.bl false)])]),(.lst [(.tup [(.tup []),(.str "out")])])]),(.tup [(.tup [(.tup [.non,(.bl false)])]),(.tup [(.tup [(.lst []),(.str "out")])])])]),qm]):=by kernel_rfl
noncomputable def a0n:List Stmt:=k9 (nth law_F.body 4)
noncomputable def a5l (C:Cf):L3.Env->M Fl:=λρ'=>j0 (evK Rs Γ C 39) q0 a0n ρ' ret
theorem d0h:(evK Rs Γ C 40).s q0 (nth law_F.body 4) [qa,qb,qc,qd,qe,qf,qg,qh,qi,qj,qk,some ua,ql] κ=bind (A4 ua) λsm1=>bind (p9 sm1.1 (λd ρ=>some (ρ.set 12 (some d))) (a5l C) sm1.2 0 [qa,qb,qc,qd,qe,qf,qg,qh,qi,qj,qk,some ua,ql]) κ:=by kernel_rfl
theorem c6o:(evK Rs Γ C 40).s q0 (nth law_F.body 5) [qa,qb,qc,qd,qe,qf,qg,qh,qi,qj,qk,ql,qm] κ=bind (C 35 [(.int 1),(.int 1),(.tup [(.tup [(.tup [.non,(.bl false)])]),(.tup [(.tup [(.tup []),(.str "out")])])])]) λx1=>bind (b8 .Is x1 (.bl true)) λx2=>κ (.rt x2):=by kernel_rfl
theorem a5x:u3=[nth u3 0,nth u3 1,nth u3 2,nth u3 3,nth u3 4]:=by kernel_rfl
theorem b07:(evK Rs Γ C 39).s q0 (nth u3 0) [qa,some ua,qb,qc,qd,qe,qf,qg,qh,qi,qj,qk,ql] κ=bind (C 17 [ua,(.int 5)]) λx1=>bind (d8 (.int 1) x1) λx2=>κ (.nx [qa,some ua,qb,some x2,qd,qe,qf,qg,qh,qi,qj,qk,ql]):=by kernel_rfl
theorem b0y:(evK Rs Γ C 39).s q0 (nth u3 1) [qa,some ua,qb,some ub,qc,qd,qe,qf,qg,qh,qi,qj,qk] κ=bind (C 17 [ua,ub]) λx1=>bind (d8 (.int 1) x1) λx2=>κ (.nx [qa,some ua,qb,some ub,some x2,qd,qe,qf,qg,qh,qi,qj,qk]):=by kernel_rfl
theorem b09:(evK Rs Γ C 39).s q0 (nth u3 2) [qa,some ua,qb,some ub,some uc,qc,qd,qe,qf,qg,qh,qi,qj] κ=bind (C 29 [ua,ub,uc]) λx1=>κ (.nx [qa,some ua,qb,some ub,some uc,some x1,qd,qe,qf,qg,qh,qi,qj]):=by kernel_rfl
theorem b0p:(evK Rs Γ C 39).s q0 (nth u3 3) [qa,qb,qc,some ua,some ub,some uc,qd,qe,qf,qg,qh,qi,qj] κ=bind (C 35 [ua,ub,uc]) λx1=>bind (b8 .IsNot x1 (.bl true)) λx2=>bind (asB x2) λz3=>if z3=true then (κ (.rt (.bl false))) else (κ (.nx [qa,qb,qc,some ua,some ub,some uc,qd,qe,qf,qg,qh,qi,qj])):=by kernel_rfl
noncomputable def f6:List Stmt:=k9 (nth u3 4)
noncomputable def R5 (C:Cf):L3.Env->M Fl:=λρ'=>j0 (evK Rs Γ C 38) q0 f6 ρ' ret
theorem b14:(evK Rs Γ C 39).s q0 (nth u3 4) [qa,qb,qc,qd,qe,qf,qg,qh,qi,qj,qk,ql,qm] κ=bind (y8 [(.int 5)]) λsm1=>bind (p9 sm1.1 (λd ρ=>some (ρ.set 6 (some d))) (R5 C) sm1.2 0 [qa,qb,qc,qd,qe,qf,qg,qh,qi,qj,qk,ql,qm]) κ:=by kernel_rfl
theorem a50:a0f=[nth a0f 0]:=by kernel_rfl
theorem b1a:(evK Rs Γ C 39).s q0 (nth a0f 0) [qa,qb,qc,qd,qe,qf,qg,qh,qi,qj,some ua,qk,ql] κ=bind (C 37 [ua]) λx1=>bind (C 35 [(.int 2),(.int 2),x1]) λx2=>bind (b8 .NotEq x2 (.tup [ua,(.int 0)])) λx3=>bind (asB x3) λz4=>if z4=true then (κ (.rt (.bl false))) else (κ (.nx [qa,qb,qc,qd,qe,qf,qg,qh,qi,qj,some ua,qk,ql])):=by kernel_rfl
theorem a57:a0n=[nth a0n 0]:=by kernel_rfl
theorem b0u:(evK Rs Γ C 39).s q0 (nth a0n 0) [qa,qb,qc,qd,qe,qf,qg,qh,qi,qj,qk,ql,some ua] κ=bind (C 36 [(.int 1),(.int 1),ua]) λx1=>bind (d9 x1) λz2=>if (!z2)=true then (κ (.rt (.bl false))) else (κ (.nx [qa,qb,qc,qd,qe,qf,qg,qh,qi,qj,qk,ql,some ua])):=by kernel_rfl
theorem a0a:f6=[nth f6 0,nth f6 1,nth f6 2,nth f6 3,nth f6 4]:=by kernel_rfl
theorem a2l:(evK Rs Γ C 38).s q0 (nth f6 0) [qa,some ua,qb,some ub,qc,some uc,qd,qe,qf,qg,qh,qi,qj] κ=bind (C 28 [ua,ub,uc]) λx1=>κ (.nx [qa,some ua,qb,some ub,qc,some uc,qd,some x1,qf,qg,qh,qi,qj]):=by kernel_rfl
noncomputable def u7:List Stmt:=k9 (nth f6 1)
noncomputable def E6 (C:Cf):L3.Env->M Fl:=λρ'=>j0 (evK Rs Γ C 37) q0 u7 ρ' ret
theorem a2g:(evK Rs Γ C 38).s q0 (nth f6 1) [qa,some ua,qb,qc,qd,qe,qf,qg,qh,qi,qj,qk,ql] κ=bind (C 17 [ua,(.int 3)]) λx1=>bind (y8 [x1]) λsm2=>bind (p9 sm2.1 (λd ρ=>some (ρ.set 8 (some d))) (E6 C) sm2.2 0 [qa,some ua,qb,qc,qd,qe,qf,qg,qh,qi,qj,qk,ql]) κ:=by kernel_rfl
theorem a2f:(evK Rs Γ C 38).s q0 (nth f6 2) [qa,some ua,qb,qc,qd,qe,qf,some ub,qg,qh,qi,qj,qk] κ=bind (C 31 [ua,ub]) λx1=>κ (.nx [qa,some ua,qb,qc,qd,qe,qf,some ub,qg,some x1,qi,qj,qk]):=by kernel_rfl
theorem a2d:(evK Rs Γ C 38).s q0 (nth f6 3) [qa,qb,qc,some ua,some ub,qd,qe,some uc,qf,some ud,qg,qh,qi] κ=bind (C 36 [ua,ub,uc]) λx1=>bind (d9 x1) λz2=>if (!z2)=true then (κ (.rt (.bl false))) else (bind (C 36 [ua,ub,ud]) λx3=>bind (d9 x3) λz4=>if (!z4)=true then (κ (.rt (.bl false))) else (κ (.nx [qa,qb,qc,some ua,some ub,qd,qe,some uc,qf,some ud,qg,qh,qi]))):=by kernel_rfl
theorem a2i:(evK Rs Γ C 38).s q0 (nth f6 4) [qa,some ua,qb,some ub,some uc,qc,qd,qe,qf,some ud,qg,qh,qi] κ=bind (C 31 [ua,ud]) λx1=>bind (C 36 [ub,uc,x1]) λx2=>bind (d9 x2) λz3=>if (!z3)=true then (κ (.rt (.bl false))) else (κ (.nx [qa,some ua,qb,some ub,some uc,qc,qd,qe,qf,some ud,qg,qh,qi])):=by kernel_rfl
theorem P6:u7=[nth u7 0]:=by kernel_rfl
theorem T1:(evK Rs Γ C 37).s q0 (nth u7 0) [qa,some ua,qb,some ub,qc,qd,qe,some uc,qf,qg,qh,qi,qj] κ=bind (C 28 [ua,ub,uc]) λx1=>κ (.nx [qa,some ua,qb,some ub,qc,qd,qe,some x1,qf,qg,qh,qi,qj]):=by kernel_rfl
end
end L3.K12
namespace L3.K12
open PySem PySem.Spec PyProof.Rows L2 L3.Nt
theorem a3y (n:Nat) (hn:n<1000) (k:Nat) (S:Sto):rn (k+1) c4u [.int (n:Int)] S=.ok (.int (tri n:Int)) S:=by
 refine i6 ?_
 rw [rn,b7 (fd:=b6b) rfl,b85]
 refine Ok.eq (E5 n 1 S) (Ok.eq (T9 (.inl ⟨by omega,by omega⟩) S) (Ok.eq (Y1 (by decide) (by decide) S) (Ok.ret ⟨?_,rfl⟩)))
 have:((n:Int) * ((n+1:Nat):Int) / 2)=((n * (n+1) / 2:Nat):Int):=by
  rw [<- Int.natCast_mul];exact (Int.natCast_ediv (n * (n+1)) 2).symm
 rw [this];rfl
theorem b6e (t:List Bool) (k:Nat) (S:Sto):rn (k+1) c27 [trD t] S=.ok (.tup [.int (dn t:Int),.int (rt t:Int)]) S:=by
 refine i6 ?_
 rw [rn,b7 (fd:=b5u) rfl,b8m]
 exact Ok.eq rfl (Ok.eq (c0r t S) (Ok.eq rfl (Ok.eq (b3d t S) (Ok.ret ⟨rfl,rfl⟩))))
theorem b2j (d r:Nat) (h:d+r<1000) (k:Nat) (S:Sto):rn (k+2) c7t [.tup [.int (d:Int),.int (r:Int)]] S=.ok (.int ((tri (d+r)+d:Nat):Int)) S:=by
 refine i6 ?_
 rw [rn,b7 (fd:=c4c) rfl,c4g]
 have e:b8e (.tup [.int (d:Int),.int (r:Int)]) S=.ok (.int ((d+r:Nat):Int)) S:=by
  show R.ok (D.int ((d:Int)+((r:Int)+0))) S=_
  rw [show ((d:Int)+((r:Int)+0))=((d+r:Nat):Int) by omega]
 exact Ok.eq e (Ok.eq (a3y (d+r) h k S) (Ok.eq rfl (Ok.eq (E5 _ _ _) (Ok.ret ⟨rfl,rfl⟩))))
noncomputable def pN (t:List Bool) (n i:Nat):Bool:=decide (tri (dn (t.take i)+rt (t.take i))+dn (t.take i)=n)
theorem c4e {h:Hnd} (hl:h.1.length<100) (n k:Nat) (S:Sto):Ok (rn (k+3) b5r [hdD h,.int (n:Int)]) S λd S'=>d=j7 (pN h.1 n) h/\S'=S:=by
 obtain ⟨t,w⟩:=h
 have hl:t.length<100:=hl
 rw [rn,b7 (fd:=Ao) rfl,b90,b9o]
 refine Ok.first<|Ok.cg (c67 ..)<|Ok.eq (a:=.nx [some (hdD (t,w)),some (.int (n:Int)),some (trD t),some w.d,none,none]) rfl<|Ok.nxt<|Ok.cg (c9h ..)<|Ok.eq (a:=(a2o (t.map j4),t.length+1)) (by show R.ok (a2o (t.map j4),(t.map j4).length+1) S=_;rw [List.length_map]) (Ok.bind ((Ok.for_ (n:=t.length) (λi ρ S'=>S'=S/\(∀ j,j<i->pN t n j=false)/\∃ o4 o5:Option D,ρ=[some (hdD (t,w)),some (.int (n:Int)),some (trD t),some w.d,o4,o5]) (λ_ _=>False) (λd S'=>d=j7 (pN t n) (t,w)/\S'=S) ?_ ?_ t.length 0 _ _ (by omega) ⟨rfl,λj hj=>by omega,_,_,rfl⟩).mono ?_))
 ·intro ρ S' _
  simp only [a2o]
  rw [List.getElem?_eq_none (by rw [List.length_map];exact Nat.le_refl _),List.length_map]
  simp
 ·rintro i ρ S' hi ⟨rfl,hp,o4,o5,rfl⟩
  have e1:(t.map j4)[i]?=some (j4 (t.getD i false)):=by
   rw [List.getElem?_map,List.getElem?_eq_getElem hi];simp [hi]
  refine ⟨.tup [.int (i:Int),j4 (t.getD i false)],[some (hdD (t,w)),some (.int (n:Int)),some (trD t),some w.d,some (.int (i:Int)),some (j4 (t.getD i false))],by simp only [a2o,e1],rfl,?_⟩
  unfold a6j
  rw [a6u]
  refine Ok.first<|Ok.cg (b1l ..)<|Ok.eq (a:=some (i:Int)) rfl<|Ok.eq (a:=trD (t.take i)) (by show R.ok (D.tup (A6 (t.map j4) none (some (i:Int)))) S'=_;rw [V0 (by rw [List.length_map];omega),<- List.map_take];rfl)<|Ok.eq (b6e _ (k+1) S')<|Ok.eq (b2j _ _ (by rw [a6f,List.length_take];omega) k S')<|Ok.eq (a1l _ _ _)<|Ok.eq (d4 _ _) ?_
  by_cases q:tri (dn (t.take i)+rt (t.take i))+dn (t.take i)=n
  ·refine Ok.pos (decide_eq_true (by omega)) (Ok.ret ⟨?_,rfl⟩)
   unfold j7
   rw [a30 hi hp (decide_eq_true q)]
  ·refine Ok.neg (by rw [decide_eq_false (by omega)];exact Bool.false_ne_true) (Ok.ret ⟨rfl,λj hj=>?_,_,_,rfl⟩)
   by_cases hji:j=i
   ·rw [hji];exact decide_eq_false q
   ·exact hp j (by omega)
 ·rintro fl S' hf
  cases fl with
  | nx ρ=>
   rcases hf with ⟨rfl,hp,o4,o5,rfl⟩ | hf
   ·refine Ok.nxt<|Ok.cg (c7p ..)<|Ok.eq (b6e t (k+1) S')<|Ok.eq (b2j _ _ (by rw [a6f];omega) k S')<|Ok.eq (a1l _ _ _)<|Ok.eq (d4 _ _) ?_
    have e:(pN t n t.length)=decide (tri (dn t+rt t)+dn t=n):=by unfold pN;rw [List.take_length]
    by_cases q:tri (dn t+rt t)+dn t=n
    ·refine Ok.pos (decide_eq_true (by omega)) (Ok.ret ⟨?_,rfl⟩)
     unfold j7
     rw [B0 hp]
     simp only
     rw [e,decide_eq_true q,if_pos rfl]
    ·refine Ok.neg (by rw [decide_eq_false (by omega)];exact Bool.false_ne_true) (Ok.ret ⟨?_,rfl⟩)
     unfold j7
     rw [B0 hp]
     simp only
     rw [e,decide_eq_false q,if_neg Bool.false_ne_true]
   ·exact hf.elim
  | rt d=>exact Ok.ret hf
  | bk ρ=>exact hf.elim
  | ct ρ=>exact hf.elim
theorem a5o (ds:List D) (S:Sto):A4 (.tup ds) S=.ok (M9 ds,ds.length+1) S:=rfl
noncomputable def a2e (r:Nst) (b:Box) (p:Hnd->Nat->Bool):D:=.tup [oD b.1,.bl b.2,.tup (r.hs.map λh=>j7 (p h) h)]
theorem b29 {r:Nst} {b:Box} {n:Nat} (hb:r.bx[n]?=some b) (hl:∀ h∈r.hs,h.1.length<100) (hh:r.hs.length<=6) (o:D) (k:Nat) (S:Sto):Ok (rn (k+4) b51 [o,r.d,.int (n:Int)]) S λd S'=>d=a2e r b (λh=>pN h.1 n)/\S'=S:=by
 rw [rn,b7 (fd:=Aq) rfl,b97,b9b]
 refine Ok.first<|Ok.cg (c6x ..)<|Ok.eq (a:=.nx [some o,some r.d,some (.int (n:Int)),some (.tup (r.bx.map bxD)),some (.tup (r.hs.map hdD)),none,none]) rfl<|Ok.nxt<|Ok.cg (c6s ..)<|Ok.eq (B4 S (n4 hb))<|Ok.eq (a:=.nx [some o,some r.d,some (.int (n:Int)),some (.tup (r.bx.map bxD)),some (.tup (r.hs.map hdD)),some (oD b.1),some (.bl b.2)]) rfl<|Ok.nxt<|Ok.cg (c9d ..)<|nx_bind<|Ok.eq (a5o _ S) ?_
 rw [List.length_map]
 have e:=u0 (l:=r.hs) (h:=hdD) (g:=λh=>j7 (pN h.1 n) h) (p:=λ_=>true) (t:=λ_=>ret true) (f:=λd=>bind (rn (k+3) b5r [d,.int (n:Int)]) λx=>ret x) (S:=S) (b0j hh) (λa _=>rfl) (λa ha _=>by
  rw [a8 (i6 (c4e (hl a ha) n k S))];rfl)
 rw [List.filter_eq_self.mpr (by simp)] at e
 exact ⟨_,_,e,Ok.eq rfl (Ok.ret ⟨rfl,rfl⟩)⟩
theorem a6t {size:Nat} (h5:size<=5) (h0:0<size) (k:Nat) (S:Sto):rn (k+1) c2n [.int (size:Int)] S=.ok (.lst ((r8 size).map cD)) S:=by
 refine i6 ?_
 rw [rn,b7 (fd:=Al) rfl,c0p,b78]
 refine Ok.first<|Ok.cg (c91 ..)<|Ok.nxt<|Ok.cg (c7k ..)<|Ok.eq (w9 (by omega) _) (Ok.bind ((Ok.loop (n:=size) (λi ρ S'=>S'=S/\∃ o:Option D,ρ=[some (.int (size:Int)),some (.lst ((r8 i).map cD)),o]) (λρ S' _=>v5 _ S') ?_ ⟨rfl,_,rfl⟩).mono ?_))
 ·rintro i ρ S' hi ⟨rfl,o,rfl⟩
  refine ⟨.int (i:Int),[some (.int (size:Int)),some (.lst ((r8 i).map cD)),some (.int (i:Int))],y0 hi S',rfl,?_⟩
  unfold a5r
  rw [a6h]
  refine Ok.first<|Ok.cg (b1n ..)<|nx_bind<|Ok.eq (E5 i 1 S')<|Ok.eq (w9 (by omega) _) ?_
  have e:=a61 (n:=i+1) (lo:=0) (f:=λd1=>bind (a74 (.int (i:Int)) d1) λx4=>ret (.tup [d1,x4])) (g:=λr=>cD (r,i-r)) (S:=S') (b0j (by omega)) (λr hr=>by
   rw [show ((0:Int)+(r:Int))=(r:Int) by omega,a8 (a65 (by omega) S')];rfl)
  refine ⟨_,_,e,Ok.eq (a:=.lst ((r8 (i+1)).map cD)) ?_ (Ok.ret ⟨_,.inl rfl,rfl,_,rfl⟩)⟩
  have ei:i=0\/i=1\/i=2\/i=3\/i=4:=by omega
  rcases ei with rfl | rfl | rfl | rfl | rfl <;> kernel_rfl
 ·rintro _ S' ⟨ρ,rfl,rfl,o,rfl⟩
  exact Ok.nxt<|Ok.cg (d1g ..)<|Ok.ret ⟨rfl,rfl⟩
theorem c1z (a b:Nat) (c:Nat×Nat) (S:Sto):b8 .Eq (.tup [.int (a:Int),.int (b:Int)]) (cD c) S=.ok (.bl (decide ((a,b)=c))) S:=by
 obtain ⟨x,y⟩:=c
 have:b8 .Eq (.tup [.int (a:Int),.int (b:Int)]) (cD (x,y)) S=.ok (.bl (decide ((a:Int)=x)&&(decide ((b:Int)=y)&&true))) S:=rfl
 rw [this]
 congr 2
 by_cases h1:a=x <;> by_cases h2:b=y <;> simp [h1,h2] <;> omega
theorem a9a (b:Bool) (S:Sto):(bind (b8 .Eq (j4 b) (.str "down")) λx=>a6e x) S=.ok (.int ((if b=true then 1 else 0:Nat):Int)) S/\(bind (b8 .Eq (j4 b) (.str "right")) λx=>a6e x) S=.ok (.int ((if b=true then 0 else 1:Nat):Int)) S:=by
 cases b <;> exact ⟨rfl,rfl⟩
theorem b24 (h:Hnd) (c:Nat×Nat) (k:Nat) (S:Sto):Ok (rn (k+1) b6l [hdD h,cD c]) S λd S'=>d=j7 (pC h.1 c) h/\S'=S:=by
 obtain ⟨t,w⟩:=h
 rw [rn,b7 (fd:=Ap) rfl,b7b,b7p]
 refine Ok.first<|Ok.cg (c9x ..)<|Ok.nxt<|Ok.cg (d1e ..)<|Ok.eq (a:=trD t) rfl<|Ok.eq (a:=(M9 (t.map j4),t.length+1)) (by show R.ok (M9 (t.map j4),(t.map j4).length+1) S=_;rw [List.length_map]) (Ok.bind ((Ok.for_ (n:=t.length) (λi ρ S'=>S'=S/\(∀ j,j<i->pC t c j=false)/\∃ o4:Option D,ρ=[some (hdD (t,w)),some (cD c),some (.int (dn (t.take i):Int)),some (.int (rt (t.take i):Int)),o4]) (λ_ _=>False) (λd S'=>d=j7 (pC t c) (t,w)/\S'=S) ?_ ?_ t.length 0 _ _ (by omega) ⟨rfl,λj hj=>by omega,_,rfl⟩).mono ?_))
 ·intro ρ S' _
  show some (t.map j4)[t.length]?=some none
  rw [List.getElem?_eq_none (by rw [List.length_map];exact Nat.le_refl _)]
 ·rintro i ρ S' hi ⟨rfl,hp,o4,rfl⟩
  have e1:(t.map j4)[i]?=some (j4 (t.getD i false)):=by
   rw [List.getElem?_map,List.getElem?_eq_getElem hi];simp [hi]
  have tk:t.take (i+1)=t.take i++[t.getD i false]:=by
   rw [List.take_succ_eq_append_getElem hi];simp [hi]
  refine ⟨j4 (t.getD i false),[some (hdD (t,w)),some (cD c),some (.int (dn (t.take i):Int)),some (.int (rt (t.take i):Int)),some (j4 (t.getD i false))],by show some (t.map j4)[i]?=_;rw [e1],rfl,?_⟩
  unfold a6o
  rw [a5v]
  refine Ok.first<|Ok.cg (b1j ..)<|Ok.eq (c1z _ _ c S')<|Ok.eq (d4 _ _) ?_
  by_cases q:(dn (t.take i),rt (t.take i))=c
  ·refine Ok.pos (decide_eq_true q) (Ok.ret ⟨?_,rfl⟩)
   unfold j7
   rw [a30 hi hp (decide_eq_true q)]
  ·refine Ok.neg (by rw [decide_eq_false q];exact Bool.false_ne_true) ?_
   generalize hb:t.getD i false=b at tk
   refine Ok.nxt<|Ok.cg (b01 ..) ?_
   have w1:=(a9a b S').1
   have w2:=(a9a b S').2
   have st:∀ {α:Type} (m:M D) (k:D->M α) (x:D),(L3.bind m λx=>a6e x) S'=.ok x S'->(L3.bind m λx1=>L3.bind (a6e x1) k) S'=k x S':=λm k x e=>by
    rw [<- a7];exact a8 e
   refine Ok.cgS (st _ _ _ w1) (Ok.eq (E5 _ _ _)<|Ok.nxt<|Ok.cg (b1z ..)<|Ok.cgS (st _ _ _ w2) (Ok.eq (E5 _ _ _) (Ok.ret ⟨rfl,λj hj=>?_,some (j4 b),?_⟩)))
   ·by_cases hji:j=i
    ·rw [hji];exact decide_eq_false q
    ·exact hp j (by omega)
   ·rw [tk,b8o,c0z]
 ·rintro fl S' hf
  cases fl with
  | nx ρ=>
   rcases hf with ⟨rfl,hp,o4,rfl⟩ | hf
   ·rw [List.take_length]
    refine Ok.nxt<|Ok.cg (c66 ..)<|Ok.eq (c1z _ _ c S')<|Ok.eq (d4 _ _) ?_
    have e:(pC t c t.length)=decide ((dn t,rt t)=c):=by unfold pC;rw [List.take_length]
    by_cases q:(dn t,rt t)=c
    ·refine Ok.pos (decide_eq_true q) (Ok.eq rfl (Ok.ret ⟨?_,rfl⟩))
     unfold j7
     rw [B0 hp]
     simp only
     rw [e,decide_eq_true q,if_pos rfl]
    ·refine Ok.neg (by rw [decide_eq_false q];exact Bool.false_ne_true) (Ok.ret ⟨?_,rfl⟩)
     unfold j7
     rw [B0 hp]
     simp only
     rw [e,decide_eq_false q,if_neg Bool.false_ne_true]
   ·exact hf.elim
  | rt d=>exact Ok.ret hf
  | bk ρ=>exact hf.elim
  | ct ρ=>exact hf.elim
theorem c50 {r:Nst} {b:Box} {n size:Nat} {c:Nat×Nat} (h5:size<=5) (h0:0<size) (hb:r.bx[n]?=some b) (hc:(r8 size)[n]?=some c) (hh:r.hs.length<=6) (k:Nat) (S:Sto):Ok (rn (k+2) b2l [.int (size:Int),r.d,.int (n:Int)]) S λd S'=>d=a2e r b (λh=>pC h.1 c)/\S'=S:=by
 rw [rn,b7 (fd:=b6j) rfl,c0v]
 refine Ok.eq (a6t h5 h0 k S)<|Ok.eq (b34 S (n4 hc))<|Ok.eq (a:=.tup (r.bx.map bxD)) rfl<|Ok.eq (B4 S (n4 hb))<|nx_bind<|Ok.eq (a:=.tup (r.hs.map hdD)) rfl<|Ok.eq (a5o _ S) ?_
 rw [List.length_map]
 have e:=u0 (l:=r.hs) (h:=hdD) (g:=λh=>j7 (pC h.1 c) h) (p:=λ_=>true) (t:=λ_=>ret true) (f:=λd=>bind (rn (k+1) b6l [d,cD c]) λx=>ret x) (S:=S) (b0j hh) (λa _=>rfl) (λa ha _=>by
  rw [a8 (i6 (b24 a c k S))];rfl)
 rw [List.filter_eq_self.mpr (by simp)] at e
 exact ⟨_,_,e,Ok.eq rfl (Ok.eq (a:=a2e r b λh=>pC h.1 c) rfl (Ok.ret ⟨rfl,rfl⟩))⟩
theorem b4a {r:Nst} {b:Box} {n size:Nat} {c:Nat×Nat} (h5:size<=5) (hc:(r8 size)[n]?=some c) (hl:∀ h∈r.hs,h.1.length<size):a2e r b (λh=>pN h.1 n)=a2e r b (λh=>pC h.1 c):=by
 unfold a2e
 have:(r.hs.map λh=>j7 (pN h.1 n) h)=r.hs.map λh=>j7 (pC h.1 c) h:=List.map_congr_left λh hm=>b0i λi hi=>c4l h5 (by rw [a6f,List.length_take];have:=hl h hm;omega) hc
 rw [this]
noncomputable def bh (mk:Option Nat) (cl:Bool) (i:Nat):Wd->Option (Option Nat×Bool×Str)
 | .out=>some (some i,cl,"ask")
 | .ask=>some (mk,cl,if cl=true then "right" else "close")
 | .close=>some (mk,true,"look")
 | .look=>some (mk,cl,if mk=some i then "holds" else "down")
 | .holds=>none
noncomputable def bhD (mk:Option Nat) (cl:Bool) (i:Nat) (w:Wd) (ws:List D):D:=match bh mk cl i w with
 | none=>.non
 | some (m,c,x)=>.tup [oD m,.bl c,.tup (ws.set i (.str x))]
theorem c1f {mk:Option Nat} {cl:Bool} {i:Nat} (h:mk=some i):bh mk cl i .look=some (mk,cl,("holds" : Str)):=by
 show some (mk,cl,if mk=some i then ("holds" : Str) else "down")=_
 rw [if_pos h]
theorem b43 {mk:Option Nat} {cl:Bool} {i:Nat} (h:mk≠some i):bh mk cl i .look=some (mk,cl,("down" : Str)):=by
 show some (mk,cl,if mk=some i then ("holds" : Str) else "down")=_
 rw [if_neg h]
theorem c1i {S:Sto} {o:O} {kvs:List (Key×D)} (h:o=.dct kvs) (w:Str):getDD (.ref S.length) [.str w] (S++[o])=.ok ((M8 kvs (.inr w)).getD .non) (S++[o]):=by
 subst h
 have ef:(S++[O.dct kvs])[S.length]?=some (.dct kvs):=by simp
 simp only [getDD,ef]
 rfl
theorem b1o {mk:Option Nat} {cl:Bool} {i:Nat} {w:Wd} {ws:List D} (hw:ws[i]?=some w.d) (hl:ws.length<=6) (k:Nat) (S:Sto):Ok (rn (k+1) c3r [.tup [oD mk,.bl cl,.tup ws],.int (i:Int)]) S λd S'=>d=bhD mk cl i w ws/\Ex S S':=by
 have hi:i<ws.length:=(List.getElem?_eq_some_iff.mp hw).1
 rw [rn,b7 (fd:=Ae) rfl,b74,c0l]
 refine Ok.first<|Ok.cg (d0f ..)<|Ok.eq (a:=.nx [some (.tup [oD mk,.bl cl,.tup ws]),some (.int (i:Int)),some (oD mk),some (.bl cl),some (.tup ws),none,none]) rfl<|Ok.nxt<|Ok.cg (d1d ..)<|Ok.eq (B4 S hw)<|Ok.nxt<|Ok.cg (c87 ..)<|Ok.eq (a:=cl) rfl ?_
 have last:∀ (x:Str) (S':Sto) (o1:Option D),Ex S S'->(∃ m c,bh mk cl i w=some (m,c,x))->Ok (nxt (evK Rs Γ (rn k) 40) M7 [nth Ae.body 4,nth Ae.body 5,nth Ae.body 6] endD (.nx [o1,some (.int (i:Int)),some (oD mk),some (.bl cl),some (.tup ws),some w.d,some (.str x)])) S' λd S'=>d=bhD mk cl i w ws/\Ex S S':=by
  rintro x S' o1 hS ⟨m,c,hb⟩
  refine Ok.nxt<|Ok.cg (c1s ..)<|Ok.eq (a:=.bl false) rfl<|Ok.eq rfl<|Ok.neg (by decide)<|Ok.nxt<|Ok.cg (c7g ..) ?_
  have g:=b6w (x:=.str x) (S:=S') hi (by omega)
  have g2:∀ {α:Type} (κ:D->M α),(bind (y4 (.int (i:Int))) λn1=>bind (slD (.tup ws) none n1) λx2=>bind (d8 x2 (.tup [.str x])) λx3=>bind (d8 (.int (i:Int)) (.int 1)) λx4=>bind (y4 x4) λn5=>bind (slD (.tup ws) n5 none) λx6=>bind (d8 x3 x6) κ)=bind (bind (y4 (.int (i:Int))) λn1=>bind (slD (.tup ws) none n1) λx2=>bind (d8 x2 (.tup [.str x])) λx3=>bind (d8 (.int (i:Int)) (.int 1)) λx4=>bind (y4 x4) λn5=>bind (slD (.tup ws) n5 none) λx6=>bind (d8 x3 x6) λx7=>ret x7) κ:=λκ=>by
   simp only [a7,j9]
  refine Ok.cg (g2 _) (Ok.bind (g.mono ?_))
  rintro _ _ ⟨rfl,rfl⟩
  refine Ok.nxt<|Ok.cg (c82 ..) ?_
  have fin:∀ (y z:D) (S':Sto),Ex S S'->y=oD m->z=.bl c->Ok (nxt (evK Rs Γ (rn k) 40) M7 [] endD (.rt (.tup [y,z,.tup (ws.set i (.str x))]))) S' λd S'=>d=bhD mk cl i w ws/\Ex S S':=by
   rintro y z S' hS rfl rfl
   refine Ok.ret ⟨?_,hS⟩
   unfold bhD;rw [hb]
  cases w with
  | out=>
   cases hb
   refine Ok.eq rfl<|Ok.eq rfl<|Ok.pos rfl<|Ok.eq (a:=cl) rfl ?_
   cases cl with
   | true=>exact Ok.pos rfl (fin _ _ _ hS rfl rfl)
   | false=>exact Ok.neg (by decide) (Ok.eq (a:=.bl false) rfl (fin _ _ _ hS rfl rfl))
  | ask=>
   cases hb
   refine Ok.eq (a:=.bl false) rfl<|Ok.eq rfl<|Ok.neg (by decide)<|Ok.eq (a:=cl) rfl ?_
   cases cl with
   | true=>exact Ok.pos rfl (fin _ _ _ hS rfl rfl)
   | false=>exact Ok.neg (by decide) (Ok.eq (a:=.bl false) rfl (fin _ _ _ hS rfl rfl))
  | close=>
   cases hb
   refine Ok.eq (a:=.bl false) rfl<|Ok.eq rfl<|Ok.neg (by decide)<|Ok.eq (a:=cl) rfl ?_
   cases cl with
   | true=>exact Ok.pos rfl (fin _ _ _ hS rfl rfl)
   | false=>exact Ok.neg (by decide) (Ok.eq (a:=.bl true) rfl (fin _ _ _ hS rfl rfl))
  | look=>
   cases hb
   refine Ok.eq (a:=.bl false) rfl<|Ok.eq rfl<|Ok.neg (by decide)<|Ok.eq (a:=cl) rfl ?_
   cases cl with
   | true=>exact Ok.pos rfl (fin _ _ _ hS rfl rfl)
   | false=>exact Ok.neg (by decide) (Ok.eq (a:=.bl false) rfl (fin _ _ _ hS rfl rfl))
  | holds=>cases hb
 have mid:∀ (o:O) (o1:Option D),Ok (nxt (evK Rs Γ (rn k) 40) M7 [nth Ae.body 3,nth Ae.body 4,nth Ae.body 5,nth Ae.body 6] endD (.nx [o1,some (.int (i:Int)),some (oD mk),some (.bl cl),some (.tup ws),some w.d,some (match w with
   | .out=>.str "ask"
   | .ask=>.str (if cl=true then "right" else "close")
   | .close=>.str "look"
   | .look=>.str "down"
   | .holds=>.non)])) (S++[o]) λd S'=>d=bhD mk cl i w ws/\Ex S S':=λo o1=>by
  have hS:Ex S (S++[o]):=⟨_,rfl⟩
  refine Ok.nxt<|Ok.cg (c8i ..) ?_
  cases w with
  | out=>exact Ok.eq (a:=.bl false) rfl<|Ok.eq rfl<|Ok.neg (by decide)<|last _ _ _ hS ⟨_,_,rfl⟩
  | ask=>exact Ok.eq (a:=.bl false) rfl<|Ok.eq rfl<|Ok.neg (by decide)<|last _ _ _ hS ⟨_,_,rfl⟩
  | close=>exact Ok.eq (a:=.bl false) rfl<|Ok.eq rfl<|Ok.neg (by decide)<|last _ _ _ hS ⟨_,_,rfl⟩
  | look=>
   refine Ok.eq (a:=.bl true) rfl<|Ok.eq rfl<|Ok.pos rfl ?_
   cases mk with
   | none=>exact Ok.eq (a:=.bl false) rfl<|Ok.eq rfl<|Ok.neg (by decide)<|last _ _ _ hS ⟨_,_,b43 (by simp)⟩
   | some g=>
    refine Ok.eq (a:=.bl true) rfl<|Ok.eq rfl<|Ok.pos rfl<|Ok.eq (a1l _ _ _)<|Ok.eq rfl ?_
    by_cases q:g=i
    ·exact Ok.pos (decide_eq_true (by omega))<|last _ _ _ hS ⟨_,_,c1f (by rw [q])⟩
    ·exact Ok.neg (by rw [decide_eq_false (by omega)];exact Bool.false_ne_true)<|last _ _ _ hS ⟨_,_,b43 (by simpa using q)⟩
  | holds=>
   exact Ok.eq (a:=.bl false) rfl<|Ok.eq rfl<|Ok.neg (by decide)<|Ok.nxt<|Ok.cg (c1s ..)<|Ok.eq (a:=.bl true) rfl<|Ok.eq rfl<|Ok.pos rfl<|Ok.ret ⟨rfl,hS⟩
 have gd:∀ (kvs:List (Key×D)),dctOf (.ref S.length) (S++[.dct kvs])=.ok () (S++[.dct kvs]):=λkvs=>by
  have ef:(S++[O.dct kvs])[S.length]?=some (.dct kvs):=by simp
  simp only [dctOf,ef]
 cases cl with
 | true=>
  refine Ok.pos rfl<|Ok.eq (a:=.ref S.length) (S1:=S++[.dct [(.inr "out",.str "ask"),(.inr "ask",.str "right"),(.inr "close",.str "look"),(.inr "look",.str "down")]]) rfl<|Ok.eq (gd _)<|Ok.eq (c1i rfl w.s) ?_
  have:=mid (.dct [(.inr "out",.str "ask"),(.inr "ask",.str "right"),(.inr "close",.str "look"),(.inr "look",.str "down")]) (some (.tup [oD mk,.bl true,.tup ws]))
  cases w <;> exact this
 | false=>
  refine Ok.neg (by decide)<|Ok.eq (a:=.ref S.length) (S1:=S++[.dct [(.inr "out",.str "ask"),(.inr "ask",.str "close"),(.inr "close",.str "look"),(.inr "look",.str "down")]]) rfl<|Ok.eq (gd _)<|Ok.eq (c1i rfl w.s) ?_
  have:=mid (.dct [(.inr "out",.str "ask"),(.inr "ask",.str "close"),(.inr "close",.str "look"),(.inr "look",.str "down")]) (some (.tup [oD mk,.bl false,.tup ws]))
  cases w <;> exact this
theorem c8u {t:List Bool} (hl:t.length<100) (k:Nat) (S:Sto):rn (k+1) c4m [trD t] S=.ok (.int (m6 t:Int)) S:=by
 refine i6 ?_
 rw [rn,b7 (fd:=b28) rfl,b8u]
 refine nx_bind<|Ok.eq (a:=(M9 (t.map j4),t.length+1)) (by show R.ok (M9 (t.map j4),(t.map j4).length+1) S=_;rw [List.length_map]) ?_
 have e:=u0 (l:=t) (h:=j4) (g:=j4) (p:=id) (t:=λd1=>bind (b8 .Eq d1 (.str "down")) λx3=>bind (asB x3) λz4=>ret z4) (f:=λd1=>ret d1) (S:=S) (by rw [sizeLine_eq];omega) (λa _=>by cases a <;> rfl) (λa _ _=>rfl)
 refine ⟨_,_,e,?_⟩
 refine Ok.eq (c17 _ _) ?_
 rw [List.length_map,show (t.filter id).length=dn t from (List.countP_eq_length_filter (p:=id) (l:=t)).symm]
 have l2:m7 (trD t) S=.ok (.int (t.length:Int)) S:=(p0 _ S).trans (by rw [List.length_map])
 refine Ok.eq l2<|Ok.eq l2<|Ok.eq (E5 t.length 1 S)<|Ok.eq (T9 (.inl ⟨by omega,by omega⟩) S)<|Ok.eq (Y1 (by decide) (by decide) S) ?_
 have:((t.length:Int) * ((t.length+1:Nat):Int) / 2)=((tri t.length:Nat):Int):=by
  rw [<- Int.natCast_mul];exact (Int.natCast_ediv (t.length * (t.length+1)) 2).symm
 rw [this]
 exact Ok.eq (E5 _ _ _) (Ok.ret ⟨rfl,rfl⟩)
theorem c30 {size:Nat} (h5:size<=5) {t:List Bool} (ht:t.length<size):m6 t<tri size:=by
 have h1:dn t<=t.length:=by have:=a6f t;omega
 unfold m6
 generalize t.length=l at *
 generalize dn t=d at *
 have t0:tri 0=0:=rfl
 have t1:tri 1=1:=rfl
 have t2:tri 2=3:=rfl
 have t3:tri 3=6:=rfl
 have t4:tri 4=10:=rfl
 have t5:tri 5=15:=rfl
 have a:size=1\/size=2\/size=3\/size=4\/size=5:=by omega
 have b:l=0\/l=1\/l=2\/l=3\/l=4:=by omega
 rcases a with rfl | rfl | rfl | rfl | rfl <;> rcases b with rfl | rfl | rfl | rfl | rfl <;> omega
theorem a94 {n:Nat} (h:n<=6) (S:Sto):C9 (.lst [.str "out"]) (.int (n:Int)) S=.ok (.lst (List.replicate n (.str "out"))) S:=by
 have a:n=0\/n=1\/n=2\/n=3\/n=4\/n=5\/n=6:=by omega
 rcases a with rfl | rfl | rfl | rfl | rfl | rfl | rfl <;> kernel_rfl
theorem c1w {xs ys:List D} (h:xs.length+ys.length<=sizeLine) (S:Sto):d8 (.lst xs) (.lst ys) S=.ok (.lst (xs++ys)) S:=by
 show (if xs.length+ys.length<=sizeLine then ret (D.lst (xs++ys)) else bad) S=_
 rw [if_pos h];rfl
noncomputable def gD:Option Nst->D
 | none=>.non
 | some r=>r.d
theorem T4 {ds:List D} {i:Nat} (h:i<=ds.length) (S:Sto):slD (.tup ds) none (some (i:Int)) S=.ok (.tup (ds.take i)) S:=by
 rw [<- V0 h];rfl
theorem W4 {ds:List D} {i:Nat} (h:i<ds.length) (S:Sto):slD (.tup ds) (some ((i:Int)+1)) none S=.ok (.tup (ds.drop (i+1))) S:=by
 rw [<- a12 (by omega)];rfl
theorem U6 {ds:List D} {i:Nat} (h:i<ds.length) (x:D):ds.take i++[x]++ds.drop (i+1)=ds.set i x:=by
 rw [List.set_eq_take_append_cons_drop,if_pos h,List.append_assoc];rfl
section
variable {size many:Nat} {r:Nst} (V:VN size many r) {i:Nat} (hi:i<many) (k:Nat) (S:Sto)
include V hi
theorem a8u {t':List Bool} {w':Wd} {m:Option Nat} {c:Bool} {n:Nat} {ws:List D} (hn:n<r.bx.length) (o4 o5 o7 o10:Option D) (S':Sto) (hS:Ex S S') (ht:t'.length<=5) :
  Ok (nxt (evK Rs Γ (rn (k+1)) 40) O8 [nth Aa.body 7,nth Aa.body 8,nth Aa.body 9] endD (.nx [some (.int (size:Int)),some r.d,some (.int (i:Int)),o4,o5,some (.int (n:Int)),o7,some (.tup [oD m,.bl c,.tup ws]),some (hdD (t',w')),o10])) S' λd S'=>d=gD (t9 size r i n (m,c) t' w')/\Ex S S':=by
 have b1:=V.bl
 have b2:=V.hl
 have b3:=V.s5
 have b4:=V.m5
 have b5:tri size<=15:=by
  have a:size=0\/size=1\/size=2\/size=3\/size=4\/size=5:=by omega
  rcases a with rfl | rfl | rfl | rfl | rfl | rfl <;> decide
 have sz:(1000:Nat)<=sizeLine:=by decide
 have l0:m7 (trD t') S'=.ok (.int (t'.length:Int)) S':=(p0 _ S').trans (by rw [List.length_map])
 refine Ok.nxt<|Ok.cg (d24 ..)<|Ok.eq (a:=trD t') rfl<|Ok.eq l0<|Ok.eq (c1p _ _ _)<|Ok.eq (d4 _ _) ?_
 by_cases q:size<=t'.length
 ·refine Ok.pos (decide_eq_true (by omega)) (Ok.ret ⟨?_,hS⟩)
  unfold t9;rw [if_pos q];rfl
 ·refine Ok.neg (by rw [decide_eq_false (by omega)];exact Bool.false_ne_true) ?_
  have lb:(r.bx.map bxD).length=r.bx.length:=List.length_map ..
  have lh:(r.hs.map hdD).length=r.hs.length:=List.length_map ..
  refine Ok.nxt<|Ok.cg (d13 ..)<|Ok.eq (a:=.tup (r.bx.map bxD)) rfl<|Ok.eq (a:=some (n:Int)) rfl<|Ok.eq (T4 (by rw [lb];omega) S')<|Ok.eq (a:=.tup [oD m,.bl c]) rfl<|Ok.eq (cat_tup (by simp;omega))<|Ok.eq (a:=.tup (r.bx.map bxD)) rfl<|Ok.eq (a:=.int ((n:Int)+1)) rfl<|Ok.eq (a:=some ((n:Int)+1)) rfl<|Ok.eq (W4 (by rw [lb];omega) S')<|Ok.eq (cat_tup (by simp;omega)) ?_
  rw [U6 (by rw [lb];exact hn)]
  refine Ok.nxt<|Ok.cg (d26 ..)<|Ok.eq (a:=.tup (r.hs.map hdD)) rfl<|Ok.eq (a:=some (i:Int)) rfl<|Ok.eq (T4 (by rw [lh];omega) S')<|Ok.eq (cat_tup (by simp;omega))<|Ok.eq (a:=.tup (r.hs.map hdD)) rfl<|Ok.eq (a:=.int ((i:Int)+1)) rfl<|Ok.eq (a:=some ((i:Int)+1)) rfl<|Ok.eq (W4 (by rw [lh];omega) S')<|Ok.eq (cat_tup (by simp;omega)) ?_
  rw [U6 (by rw [lh];omega)]
  refine Ok.ret ⟨?_,hS⟩
  unfold t9;rw [if_neg q]
  show D.tup [.tup ((r.bx.map bxD).set n (bxD (m,c))),.tup ((r.hs.map hdD).set i (hdD (t',w')))]=.tup [.tup ((r.bx.set n (m,c)).map bxD),.tup ((r.hs.set i (t',w')).map hdD)]
  rw [List.map_set,List.map_set]
theorem c54:Ok (rn (k+2) c1g [.int (size:Int),r.d,.int (i:Int)]) S λd S'=>d=gD (D2 size r i)/\Ex S S':=by
 have b1:=V.bl
 have b2:=V.hl
 have b3:=V.s5
 have b4:=V.m5
 have sz:(1000:Nat)<=sizeLine:=by decide
 have hi':i<r.hs.length:=by omega
 have ha:r.hs[i]?=some r.hs[i]:=List.getElem?_eq_getElem hi'
 have htr:=V.tr r.hs[i] (List.getElem_mem hi')
 generalize r.hs[i]=h at ha htr
 obtain ⟨t,w⟩:=h
 have htr:t.length<size:=htr
 have hn:m6 t<r.bx.length:=by rw [b1];exact c30 b3 htr
 have hb:r.bx[m6 t]?=some r.bx[m6 t]:=List.getElem?_eq_getElem hn
 generalize r.bx[m6 t]=b at hb
 obtain ⟨mk,cl⟩:=b
 have hst:=b5s (size:=size) ha hb
 rw [rn,b7 (fd:=Aa) rfl,c3m,c46]
 have lh:m7 (.tup (r.hs.map hdD)) S=.ok (.int (r.hs.length:Int)) S:=(p0 _ S).trans (by rw [List.length_map])
 refine Ok.first<|Ok.cg (d1j ..)<|Ok.eq (a:=.tup (r.hs.map hdD)) rfl<|Ok.eq (B4 S (n4 ha))<|Ok.eq (a:=.nx [some (.int (size:Int)),some r.d,some (.int (i:Int)),some (trD t),some w.d,none,none,none,none,none]) rfl<|Ok.nxt<|Ok.cg (d2p ..)<|Ok.eq (c8u (by omega) k S)<|Ok.nxt<|Ok.cg (d2s ..)<|Ok.eq (a94 (by omega) S)<|Ok.eq (c1w (by simp;omega) S)<|Ok.eq (a:=.tup (r.hs.map hdD)) rfl<|Ok.eq lh<|Ok.eq (a65 (by omega) S)<|Ok.eq (a65 (b:=1) (by omega) S)<|Ok.eq (a94 (by omega) S)<|Ok.eq (c1w (by simp;omega) S) ?_
 generalize hws:List.replicate i (D.str "out")++[w.d]++List.replicate (r.hs.length-i-1) (D.str "out")=ws
 have wl:ws.length<=6:=by rw [<- hws];simp;omega
 have wi:ws[i]?=some w.d:=by
  rw [<- hws,List.append_assoc,List.getElem?_append_right (by simp)]
  simp
 refine Ok.nxt<|Ok.cg (d1k ..)<|Ok.eq (a:=.tup (r.bx.map bxD)) rfl<|Ok.eq (B4 S (n4 hb))<|Ok.eq (a:=.tup ws) rfl<|Ok.eq (a:=.tup [oD mk,.bl cl,.tup ws]) rfl<|Ok.bind ((b1o wi wl k S).mono ?_)
 rintro _ S1 ⟨rfl,hS⟩
 refine Ok.nxt<|Ok.cg (d1n ..) ?_
 have stay:∀ (m:Option Nat) (c:Bool) (w':Wd),bh mk cl i w=some (m,c,w'.s)->D2 size r i=t9 size r i (m6 t) (m,c) t w'->Ok (bind (b8 .Is (bhD mk cl i w ws) .non) λx1=>bind (asB x1) λz2=>if z2=true then nxt (evK Rs Γ (rn (k+1)) 40) O8 [nth Aa.body 5,nth Aa.body 6,nth Aa.body 7,nth Aa.body 8,nth Aa.body 9] endD (.rt .non) else nxt (evK Rs Γ (rn (k+1)) 40) O8 [nth Aa.body 5,nth Aa.body 6,nth Aa.body 7,nth Aa.body 8,nth Aa.body 9] endD (.nx [some (.int (size:Int)),some r.d,some (.int (i:Int)),some (trD t),some w.d,some (.int (m6 t:Int)),some (.lst ws),some (bhD mk cl i w ws),none,none])) S1 λd S'=>d=gD (D2 size r i)/\Ex S S':=by
  intro m c w' e1 e2
  have eb:bhD mk cl i w ws=.tup [oD m,.bl c,.tup (ws.set i w'.d)]:=by unfold bhD;rw [e1];rfl
  rw [eb,e2]
  have wi2:(ws.set i w'.d)[i]?=some w'.d:=List.getElem?_set_self (List.getElem?_eq_some_iff.mp wi).1
  refine Ok.eq (a:=.bl false) rfl<|Ok.eq rfl<|Ok.neg (by decide)<|Ok.nxt<|Ok.cg (d08 ..)<|Ok.eq (a:=.tup (ws.set i w'.d)) rfl<|Ok.eq (B4 S1 wi2)<|Ok.nxt<|Ok.cg (c8j ..)<|Ok.eq (a:=w'.d) rfl<|Ok.eq (S1:=S1) (a:=.bl false) (by cases w' <;> kernel_rfl)<|Ok.eq rfl<|Ok.neg (by decide) ?_
  exact a8u V hi k S hn _ _ _ _ S1 hS (by omega)
 have leave:∀ (m:Option Nat) (c b:Bool),bh mk cl i w=some (m,c,P8 b)->D2 size r i=t9 size r i (m6 t) (m,c) (t++[b]) .out->Ok (bind (b8 .Is (bhD mk cl i w ws) .non) λx1=>bind (asB x1) λz2=>if z2=true then nxt (evK Rs Γ (rn (k+1)) 40) O8 [nth Aa.body 5,nth Aa.body 6,nth Aa.body 7,nth Aa.body 8,nth Aa.body 9] endD (.rt .non) else nxt (evK Rs Γ (rn (k+1)) 40) O8 [nth Aa.body 5,nth Aa.body 6,nth Aa.body 7,nth Aa.body 8,nth Aa.body 9] endD (.nx [some (.int (size:Int)),some r.d,some (.int (i:Int)),some (trD t),some w.d,some (.int (m6 t:Int)),some (.lst ws),some (bhD mk cl i w ws),none,none])) S1 λd S'=>d=gD (D2 size r i)/\Ex S S':=by
  intro m c b e1 e2
  have eb:bhD mk cl i w ws=.tup [oD m,.bl c,.tup (ws.set i (j4 b))]:=by unfold bhD;rw [e1];rfl
  rw [eb,e2]
  have wi2:(ws.set i (j4 b))[i]?=some (j4 b):=List.getElem?_set_self (List.getElem?_eq_some_iff.mp wi).1
  have et:d8 (trD t) (.tup [j4 b]) S1=.ok (trD (t++[b])) S1:=by
   rw [trD,cat_tup (by simp;omega)]
   show R.ok (D.tup (t.map j4++[j4 b])) S1=.ok (.tup ((t++[b]).map j4)) S1
   rw [List.map_append];rfl
  refine Ok.eq (a:=.bl false) rfl<|Ok.eq rfl<|Ok.neg (by decide)<|Ok.nxt<|Ok.cg (d08 ..)<|Ok.eq (a:=.tup (ws.set i (j4 b))) rfl<|Ok.eq (B4 S1 wi2)<|Ok.nxt<|Ok.cg (c8j ..)<|Ok.eq (a:=j4 b) rfl<|Ok.eq (S1:=S1) (a:=.bl true) (by cases b <;> kernel_rfl)<|Ok.eq rfl<|Ok.pos rfl<|Ok.eq (a:=j4 b) rfl<|Ok.eq et ?_
  exact a8u V hi k S (w':=.out) hn _ _ _ _ S1 hS (by simp;omega)
 cases w with
 | out=>exact stay (some i) cl .ask rfl hst
 | ask=>
  cases cl with
  | true=>exact leave mk true false rfl hst
  | false=>exact stay mk false .close rfl hst
 | close=>exact stay mk true .look rfl hst
 | look=>
  by_cases q:mk=some i
  ·exact stay mk cl .holds (c1f q) (by rw [hst];exact if_pos q)
  ·exact leave mk cl true (b43 q) (by rw [hst];exact if_neg q)
 | holds=>
  have eb:bhD mk cl i .holds ws=.non:=rfl
  rw [eb,hst]
  exact Ok.eq (a:=.bl true) rfl<|Ok.eq rfl<|Ok.pos rfl<|Ok.ret ⟨rfl,hS⟩
omit k S in
theorem VN.step {r':Nst} (e:D2 size r i=some r'):VN size many r':=by
 have put:∀ {n:Nat} {b:Box} {t:List Bool} {w:Wd},t9 size r i n b t w=some r'->(∀ g,b.1=some g->g<many)->VN size many r':=by
  intro n b t w e hb
  unfold t9 at e
  split at e
  ·cases e
  ·rename_i q
   cases e
   refine ⟨V.s5,V.m5,by simp [V.bl],by simp [V.hl],λh hh=>?_,λx hx=>?_⟩
   ·rcases List.mem_or_eq_of_mem_set hh with z | z
    ·exact V.tr h z
    ·rw [z];show t.length<size;omega
   ·rcases List.mem_or_eq_of_mem_set hx with z | z
    ·exact V.mg x z
    ·rw [z];exact hb
 have b4:=V.m5
 cases ha:r.hs[i]? with
 | none=>unfold D2 at e;rw [ha] at e;cases e
 | some h=>
  obtain ⟨t,w⟩:=h
  cases hb:r.bx[m6 t]? with
  | none=>unfold D2 at e;rw [ha] at e;simp only at e;rw [hb] at e;cases e
  | some b=>
   obtain ⟨mk,cl⟩:=b
   have hm:∀ g,mk=some g->g<many:=V.mg (mk,cl) (List.mem_of_getElem? hb)
   rw [b5s ha hb] at e
   cases w with
   | out=>exact put (n:=m6 t) (b:=(some i,cl)) (t:=t) (w:=.ask) e λg z=>by cases z;omega
   | ask=>
    cases cl with
    | true=>exact put (n:=m6 t) (b:=(mk,true)) (t:=t++[false]) (w:=.out) e hm
    | false=>exact put (n:=m6 t) (b:=(mk,false)) (t:=t) (w:=.close) e hm
   | close=>exact put (n:=m6 t) (b:=(mk,true)) (t:=t) (w:=.look) e hm
   | look=>
    by_cases q:mk=some i
    ·exact put (n:=m6 t) (b:=(mk,cl)) (t:=t) (w:=.holds) ((if_pos q).symm.trans e) hm
    ·exact put (n:=m6 t) (b:=(mk,cl)) (t:=t++[true]) (w:=.out) ((if_neg q).symm.trans e) hm
   | holds=>cases e
end
end L3.K12
namespace L3
open PySem PySem.Spec PyProof.Rows L2
theorem c0h (x:Int) (ns:List Int) (S:Sto):b8 .In (.int x) (.lst (ns.map D.int)) S=.ok (.bl (decide (x∈ns))) S:=by
 have e:i9 64 S (.lst (ns.map D.int))=some (.list (ns.map PyData.int)):=by
  show (k7 (i9 63 S) (ns.map D.int)).map PyData.list=_
  rw [a4a 62 S ns];rfl
 show inD false (.int x) (.lst (ns.map D.int)) S=_
 unfold inD
 rw [e]
 show a6l false (.int x) (ns.map PyData.int) S=_
 unfold a6l
 have hd:PyData.depth (.int x)=0:=by simp [PyData.depth]
 rw [if_pos ⟨rfl,a63 ns,by rw [hd];omega⟩,b4o]
 rfl
end L3
namespace L3.K12
open PySem PySem.Spec PyProof.Rows L2 L3.Nt
noncomputable def N0 (size many:Nat):Nst:=⟨List.replicate (tri size) (none,false),List.replicate many ([],.out)⟩
theorem N0.ok {size many:Nat} (h0:0<size) (h5:size<=5) (m5:many<=5):VN size many (N0 size many):=by
 refine ⟨h5,m5,List.length_replicate ..,List.length_replicate ..,λh hh=>?_,λb hb g hg=>?_⟩
 ·have hh:h∈List.replicate many (([],.out):Hnd):=hh
  rw [(List.mem_replicate.mp hh).2];exact h0
 ·have hb:b∈List.replicate (tri size) ((none,false):Box):=hb
  rw [(List.mem_replicate.mp hb).2] at hg;cases hg
theorem a9w {size:Nat} {c:Nat×Nat} (h:c.1+c.2<size):E8 c<tri size:=by
 have:=a67 h
 unfold E8;omega
theorem N0.good {size many:Nat}:GoodN size (N0 size many):=by
 intro c hc
 have w:w7c c ([],.out)=.out:=by
  unfold w7c
  rw [if_neg (λz=>absurd z.1 (by simp))]
  exact ite_self _
 have ws:∀ x∈(N0 size many).hs.map (w7c c),x=.out:=λx hx=>by
  obtain ⟨h,hh,rfl⟩:=List.mem_map.mp hx
  have hh:h∈List.replicate many (([],.out):Hnd):=hh
  rw [(List.mem_replicate.mp hh).2];exact w
 refine ⟨(none,false),?_,λ_ x hx=>(by rw [ws x hx];rfl),λz=>(by cases z),λ_=>ws,λg z=>(by cases z),λg z=>(by cases z),?_⟩
 ·show (List.replicate (tri size) ((none,false):Box))[E8 c]?=_
  rw [List.getElem?_replicate,if_pos (a9w hc)]
 ·rw [List.countP_eq_zero.mpr λx hx=>by rw [ws x hx];decide];omega
theorem d0i {size many:Nat} (h5:size<=5) (h0:0<size) (m0:0<many) (m5:many<=5) (k:Nat) (S:Sto):rn (k+2) c79 [.int (size:Int),.int (many:Int)] S=.ok (N0 size many).d S:=by
 refine i6 ?_
 rw [rn,b7 (fd:=c2y) rfl,c45]
 have l0:m7 (.lst ((r8 size).map cD)) S=.ok (.int (tri size:Int)) S:=by
  show R.ok (D.int (((r8 size).map cD).length:Int)) S=_
  rw [List.length_map,O1 h5]
 refine Ok.eq (a6t h5 h0 k S)<|Ok.eq l0 ?_
 have a:size=1\/size=2\/size=3\/size=4\/size=5:=by omega
 have b:many=1\/many=2\/many=3\/many=4\/many=5:=by omega
 have e1:C9 (.tup [(.tup [.non,(.bl false)])]) (.int (tri size:Int)) S=.ok (.tup ((List.replicate (tri size) ((none,false):Box)).map bxD)) S:=by
  rcases a with rfl | rfl | rfl | rfl | rfl <;> kernel_rfl
 have e2:C9 (.tup [(.tup [(.tup []),(.str "out")])]) (.int (many:Int)) S=.ok (.tup ((List.replicate many (([],.out):Hnd)).map hdD)) S:=by
  rcases b with rfl | rfl | rfl | rfl | rfl <;> kernel_rfl
 exact Ok.eq e1 (Ok.eq e2 (Ok.ret ⟨rfl,rfl⟩))
theorem k8 {ns:List Int} {p N m:Nat} {S:Sto} (h:Fw ns p (N+1) S) (hm:0<m) (hm2:m<1073741824) (k:Nat):Ok (rn (k+1) E3 [.ref p,.int (m:Int)]) S λd S'=>∃ r:Nat,d=.int (r:Int)/\r<m/\Fw ns p N S'/\S'.length=S.length/\∀ q,q≠p->S'[q]?=S[q]?:=by
 rw [rn,b7 (fd:=b20) rfl,b9t]
 exact b5h h hm hm2
theorem a7o {ns:List Int} {p N size many:Nat} {S:Sto} (F:Fw ns p (N+60) S) (h0:0<size) (h5:size<=5) (m0:0<many) (m5:many<=5) (k:Nat):Ok (rn (k+4) c39 [.ref p,.int (size:Int),.int (many:Int)]) S λd S'=>Fw ns p N S'/\∃ r,d=Nst.d r/\VN size many r/\GoodN size r:=by
 rw [rn,b7 (fd:=Ai) rfl,b7w,b7a]
 refine Ok.first<|Ok.cg (c92 ..)<|Ok.eq (d0i h5 h0 m0 m5 (k+1) S)<|Ok.nxt<|Ok.cg (c8c ..)<|nx_bind<|Ok.eq (w9 (by omega) _) ((Ok.comp (n:=many) (λj S' es=>Fw ns p (N+42+(many-j)) S'/\∃ v:List Int,es=v.map D.int/\v.length<=j) (λS' es _=>v5 many S') ?_ ⟨F.less (by omega),[],rfl,Nat.le_refl _⟩).mono ?_)
 ·rintro j S' es hj ⟨Fj,v,rfl,hv⟩
  refine ⟨.int (j:Int),y0 hj S',Ok.bind ((k8 (N:=N+42+(many-(j+1))) (m:=5) (Fj.less (by omega)) (by omega) (by omega) (k+2)).mono ?_)⟩
  rintro _ S1 ⟨r,rfl,_,F1,_,_⟩
  refine Ok.eq (a1l _ _ _)<|Ok.eq (d4 _ _)<|Ok.ret ?_
  split
  ·exact Ok.ret ⟨by rw [List.length_map,sizeLine_eq];omega,F1,v++[(j:Int)],by rw [List.map_append];rfl,by simp;omega⟩
  ·exact ⟨F1,v,rfl,by omega⟩
 rintro _ S1 ⟨F1,v,rfl,_⟩
 have m8:C9 (.int 8) (.int (many:Int)) S1=.ok (.int ((8 * many:Nat):Int)) S1:=by
  have b:many=1\/many=2\/many=3\/many=4\/many=5:=by omega
  rcases b with rfl | rfl | rfl | rfl | rfl <;> kernel_rfl
 refine Ok.nxt<|Ok.cg (c7q ..)<|Ok.eq m8<|Ok.bind ((k8 (N:=N+41) (m:=8 * many) (F1.less (by omega)) (by omega) (by omega) (k+2)).mono ?_)
 rintro _ S2 ⟨n,rfl,hn,F2,_,_⟩
 refine Ok.eq (w9 (by omega) _)<|Ok.bind ((Ok.loop (n:=n) (λi ρ S'=>Fw ns p (N+(n-i)) S'/\∃ (r:Nst) (o5 o7 o8:Option D),VN size many r/\GoodN size r/\ρ=[some (.ref p),some (.int (size:Int)),some (.int (many:Int)),some r.d,o5,some (.lst (v.map D.int)),o7,o8]) (λρ S' _=>v5 n S') ?_ ⟨F2.less (by omega),_,_,_,_,N0.ok h0 h5 m5,N0.good,rfl⟩).mono ?_)
 ·rintro i ρ S3 hi ⟨F3,r,o5,o7,o8,V,G,rfl⟩
  refine ⟨.int (i:Int),_,y0 hi S3,rfl,?_⟩
  unfold a53
  rw [a5t]
  refine Ok.first<|Ok.cg (b1k ..)<|Ok.bind ((k8 (N:=N+(n-(i+1))) (F3.less (by omega)) m0 (by omega) (k+2)).mono ?_)
  rintro _ S4 ⟨h,rfl,hh,F4,_,_⟩
  have last:∀ (o:Option Nst) (S':Sto),Fw ns p (N+(n-(i+1))) S'->(∀ r',o=some r'->VN size many r'/\GoodN size r')->Ok (nxt (evK Rs Γ (rn (k+3)) 39) Q1 [nth A9 2] ret (.nx [some (.ref p),some (.int (size:Int)),some (.int (many:Int)),some r.d,some (.int (h:Int)),some (.lst (v.map D.int)),some (.int (i:Int)),some (gD o)])) S' λfl S'=>∃ ρ',(fl=.nx ρ'\/fl=.ct ρ')/\Fw ns p (N+(n-(i+1))) S'/\∃ (r:Nst) (o5 o7 o8:Option D),VN size many r/\GoodN size r/\ρ'=[some (.ref p),some (.int (size:Int)),some (.int (many:Int)),some r.d,o5,some (.lst (v.map D.int)),o7,o8]:=by
   intro o S' F' ho
   cases o with
   | none=>exact Ok.nxt<|Ok.cg (a2y ..)<|Ok.eq (a:=.bl true) rfl<|Ok.eq rfl<|Ok.pos rfl<|Ok.ret ⟨_,.inl rfl,F',r,_,_,_,V,G,rfl⟩
   | some r'=>exact Ok.nxt<|Ok.cg (a2y ..)<|Ok.eq (a:=.bl false) rfl<|Ok.eq rfl<|Ok.neg (by decide)<|Ok.ret ⟨_,.inl rfl,F',r',_,_,_,(ho r' rfl).1,(ho r' rfl).2,rfl⟩
  have call:∀ {α:Type} (κ:D->M α) (Q:α->Sto->Prop),(∀ S',Fw ns p (N+(n-(i+1))) S'->Ok (κ (gD (D2 size r h))) S' Q)->Ok (bind (rn (k+3) c1g [.int (size:Int),r.d,.int (h:Int)]) κ) S4 Q:=by
   intro α κ Q hq
   refine Ok.bind ((c54 V hh (k+1) S4).mono ?_)
   rintro _ S5 ⟨rfl,R,rfl⟩
   exact hq _ (F4.keep (by rw [List.getElem?_append_left F4.lt]))
  have hst:∀ r',D2 size r h=some r'->VN size many r'/\GoodN size r':=λr' e=>⟨VN.step V hh e,GoodN.step V G e⟩
  refine Ok.nxt<|Ok.cg (b1h ..)<|Ok.eq (c0h _ _ _)<|Ok.eq (d4 _ _)<|Ok.ite (λ_=>Ok.eq (a84 _ _ _)<|Ok.eq (d4 _ _)<|Ok.ite (λ_=>?_) λ_=>?_) λ_=>?_
  ·exact last none S4 F4 (λ_ z=>by cases z)
  ·exact call _ _ λS' F'=>last _ S' F' hst
  ·exact call _ _ λS' F'=>last _ S' F' hst
 ·rintro _ S3 ⟨ρ,rfl,F3,r,o5,o7,o8,V,G,rfl⟩
  exact Ok.nxt<|Ok.cg (c7f ..)<|Ok.ret ⟨F3.less (by omega),r,rfl,V,G⟩
theorem a3j {size:Nat} (h:size<=5):tri size<=15:=by
 have a:size=0\/size=1\/size=2\/size=3\/size=4\/size=5:=by omega
 rcases a with rfl | rfl | rfl | rfl | rfl | rfl <;> decide
theorem c0x {size:Nat} (h0:0<size) (h:size<=5):0<tri size:=by
 have a:size=1\/size=2\/size=3\/size=4\/size=5:=by omega
 rcases a with rfl | rfl | rfl | rfl | rfl <;> decide
theorem b3b {many q:Nat} (hq:q<many+1) (m5:many<=5) (S:Sto):∃ ds:List D,(∀ S',bind (U3 (.int (many:Int))) (λx3=>d8 (.lst [.non]) x3) S'=.ok (.lst ds) S')/\∃ o:Option Nat,ds[q]?=some (oD o)/\∀ g,o=some g->g<many:=by
 have b:many=0\/many=1\/many=2\/many=3\/many=4\/many=5:=by omega
 refine ⟨(D.non :: (rgL many).map D.int),λS'=>?_,?_⟩
 ·rcases b with rfl | rfl | rfl | rfl | rfl | rfl <;> kernel_rfl
 ·cases q with
  | zero=>exact ⟨none,rfl,λg z=>by cases z⟩
  | succ q=>
   refine ⟨some q,?_,λg z=>by cases z;omega⟩
   have c:q=0\/q=1\/q=2\/q=3\/q=4:=by omega
   rcases b with rfl | rfl | rfl | rfl | rfl | rfl <;> rcases c with rfl | rfl | rfl | rfl | rfl <;> first | rfl | omega
theorem b8y {q:Nat} (hq:q<5):∃ w:Wd,([.str "out",.str "ask",.str "close",.str "look",.str "holds"]:List D)[q]?=some w.d:=by
 have:q=0\/q=1\/q=2\/q=3\/q=4:=by omega
 rcases this with rfl | rfl | rfl | rfl | rfl
 ·exact ⟨.out,rfl⟩
 ·exact ⟨.ask,rfl⟩
 ·exact ⟨.close,rfl⟩
 ·exact ⟨.look,rfl⟩
 ·exact ⟨.holds,rfl⟩
theorem c3y {q:Nat} (hq:q<2):∃ b:Bool,([.str "right",.str "down"]:List D)[q]?=some (j4 b):=by
 have:q=0\/q=1:=by omega
 rcases this with rfl | rfl
 ·exact ⟨false,rfl⟩
 ·exact ⟨true,rfl⟩
theorem b5o {α β γ:Type} (m:M α) (f:α->M β) (g:β->M γ):(bind m λx=>bind (f x) g)=bind (bind m f) g:=(a7 ..).symm
theorem Y4 {ns:List Int} {p N size many:Nat} {S:Sto} (F:Fw ns p (N+12) S) {r:Nst} (V:VN size many r) (h0:0<size) (m0:0<many) (k:Nat):Ok (rn (k+2) c52 [.ref p,.int (size:Int),r.d]) S λd S'=>Fw ns p N S'/\∃ r',d=Nst.d r'/\VN size many r':=by
 have b1:=V.bl
 have b2:=V.hl
 have h5:=V.s5
 have m5:=V.m5
 have b5:=a3j h5
 have b6:=c0x h0 h5
 have sz:(1000:Nat)<=sizeLine:=by decide
 have lb:(r.bx.map bxD).length=tri size:=by rw [List.length_map,b1]
 have lh:(r.hs.map hdD).length=many:=by rw [List.length_map,b2]
 have l0:∀ S:Sto,m7 (.tup (r.hs.map hdD)) S=.ok (.int (many:Int)) S:=λS=>(p0 _ S).trans (by rw [lh])
 have l1:∀ S:Sto,m7 (.tup (r.bx.map bxD)) S=.ok (.int (tri size:Int)) S:=λS=>(p0 _ S).trans (by rw [lb])
 rw [rn,b7 (fd:=Ad) rfl,b8f,b80]
 refine Ok.first<|Ok.cg (c9l ..)<|Ok.eq (a:=.nx [some (.ref p),some (.int (size:Int)),some r.d,some (.tup (r.bx.map bxD)),some (.tup (r.hs.map hdD)),none,none,none,none,none,none,none,none]) rfl<|Ok.nxt<|Ok.cg (d0t ..)<|Ok.eq (l0 S)<|Ok.nxt<|Ok.cg (c8b ..)<|Ok.bind ((k8 (N:=N+11) (m:=4) (F.less (by omega)) (by omega) (by omega) k).mono ?_)
 rintro _ S1 ⟨way,rfl,hw,F1,_,_⟩
 refine Ok.nxt<|Ok.cg (d06 ..)<|Ok.eq (l1 S1)<|Ok.bind ((k8 (N:=N+10) (m:=tri size) (F1.less (by omega)) (by omega) (by omega) k).mono ?_)
 rintro _ S2 ⟨n,rfl,hn,F2,_,_⟩
 have hb:r.bx[n]?=some r.bx[n]:=List.getElem?_eq_getElem (by omega)
 have hbm:=V.mg r.bx[n] (List.getElem_mem (by omega))
 generalize r.bx[n]=b at hb hbm
 obtain ⟨mk,cl⟩:=b
 refine Ok.nxt<|Ok.cg (c8r ..)<|Ok.eq (a3a _ _ _)<|Ok.eq (d4 _ _)<|Ok.ite (λ_=>?_) λ_=>?_
 ·
  refine Ok.cg (b5o ..) ?_
  have put:∀ (m:Option Nat) (c:Bool) (S':Sto),Fw ns p N S'->(∀ g,m=some g->g<many)->Fw ns p N S'/\∃ r',D.tup [.tup ((r.bx.map bxD).set n (bxD (m,c))),.tup (r.hs.map hdD)]=Nst.d r'/\VN size many r':=by
   intro m c S' F' hm
   refine ⟨F',⟨r.bx.set n (m,c),r.hs⟩,?_,h5,m5,by simp [b1],b2,V.tr,λx hx=>?_⟩
   ·show _=D.tup [.tup ((r.bx.set n (m,c)).map bxD),.tup (r.hs.map hdD)]
    rw [List.map_set]
   ·rcases List.mem_or_eq_of_mem_set hx with z | z
    ·exact V.mg x z
    ·rw [z];exact hm
  have dr:=k8 (N:=N+9) (m:=many+1) (F2.less (by omega)) (by omega) (by omega) k
  obtain ⟨d,S3,ed,q,rfl,hq,F3,_,_⟩:=dr
  obtain ⟨ds,ea,o,eo,ho⟩:=b3b hq m5 S2
  refine Ok.eq (ea S2)<|Ok.eq (E5 many 1 S2)<|Ok.eq ed<|Ok.eq (b34 S3 eo)<|Ok.eq (B4 S3 (n4 hb))<|Ok.eq (a:=.bl cl) rfl<|Ok.eq (a1l _ _ _)<|Ok.eq (d4 _ _)<|Ok.ite (λ_=>?_) λ_=>?_
  ·refine Ok.eq (B4 S3 (n4 hb))<|Ok.eq (a:=oD mk) rfl<|Ok.eq (B4 S3 (n4 hb))<|Ok.eq (a:=.bl cl) rfl<|Ok.eq (a:=cl) rfl<|Ok.eq (a:=some (n:Int)) rfl<|Ok.eq (T4 (by omega) S3)<|Ok.eq (a:=bxD (mk,!cl)) rfl<|Ok.eq (cat_tup (by simp;omega))<|Ok.eq (a:=.int ((n:Int)+1)) rfl<|Ok.eq (a:=some ((n:Int)+1)) rfl<|Ok.eq (W4 (by omega) S3)<|Ok.eq (cat_tup (by simp;omega)) ?_
   rw [U6 (by omega)]
   exact Ok.ret (put mk (!cl) S3 (F3.less (by omega)) hbm)
  ·refine Ok.eq (a:=some (n:Int)) rfl<|Ok.eq (T4 (by omega) S3)<|Ok.eq (a:=bxD (o,cl)) rfl<|Ok.eq (cat_tup (by simp;omega))<|Ok.eq (a:=.int ((n:Int)+1)) rfl<|Ok.eq (a:=some ((n:Int)+1)) rfl<|Ok.eq (W4 (by omega) S3)<|Ok.eq (cat_tup (by simp;omega)) ?_
   rw [U6 (by omega)]
   exact Ok.ret (put o cl S3 (F3.less (by omega)) ho)
 ·
  refine Ok.nxt<|Ok.cg (c8n ..)<|Ok.bind ((k8 (N:=N+9) (F2.less (by omega)) m0 (by omega) k).mono ?_)
  rintro _ S3 ⟨h,rfl,hh,F3,_,_⟩
  have ha:r.hs[h]?=some r.hs[h]:=List.getElem?_eq_getElem (by omega)
  have htr:=V.tr r.hs[h] (List.getElem_mem (by omega))
  generalize r.hs[h]=x at ha htr
  obtain ⟨t,w⟩:=x
  have htr:t.length<size:=htr
  refine Ok.nxt<|Ok.cg (c72 ..)<|Ok.eq (B4 S3 (n4 ha))<|Ok.eq (a:=.nx [some (.ref p),some (.int (size:Int)),some r.d,some (.tup (r.bx.map bxD)),some (.tup (r.hs.map hdD)),some (.int (many:Int)),some (.int (way:Int)),some (.int (n:Int)),none,some (.int (h:Int)),some (trD t),some w.d,none]) rfl<|Ok.nxt<|Ok.cg (c9s ..)<|Ok.bind ((k8 (N:=N+8) (m:=5) (F3.less (by omega)) (by omega) (by omega) k).mono ?_)
  rintro _ S4 ⟨q,rfl,hq,F4,_,_⟩
  obtain ⟨w',ew⟩:=b8y hq
  refine Ok.eq (b34 S4 ew) ?_
  have last:∀ (t':List Bool) (o:Option D) (S':Sto),t'.length<size->Fw ns p N S'->Ok (nxt (evK Rs Γ (rn (k+1)) 40) K1 [nth Ad.body 9] endD (.nx [some (.ref p),some (.int (size:Int)),some r.d,some (.tup (r.bx.map bxD)),some (.tup (r.hs.map hdD)),some (.int (many:Int)),some (.int (way:Int)),some (.int (n:Int)),none,some (.int (h:Int)),some (trD t'),some w'.d,o])) S' λd S'=>Fw ns p N S'/\∃ r',d=Nst.d r'/\VN size many r':=by
   intro t' o S' ht F'
   refine Ok.nxt<|Ok.cg (c9i ..)<|Ok.eq (a:=some (h:Int)) rfl<|Ok.eq (T4 (by omega) S')<|Ok.eq (cat_tup (by simp;omega))<|Ok.eq (a:=.int ((h:Int)+1)) rfl<|Ok.eq (a:=some ((h:Int)+1)) rfl<|Ok.eq (W4 (by omega) S')<|Ok.eq (cat_tup (by simp;omega)) ?_
   rw [U6 (by omega)]
   refine Ok.ret ⟨F',⟨r.bx,r.hs.set h (t',w')⟩,?_,h5,m5,b1,by simp [b2],λx hx=>?_,V.mg⟩
   ·show D.tup [.tup (r.bx.map bxD),.tup ((r.hs.map hdD).set h (hdD (t',w')))]=D.tup [.tup (r.bx.map bxD),.tup ((r.hs.set h (t',w')).map hdD)]
    rw [List.map_set]
   ·rcases List.mem_or_eq_of_mem_set hx with z | z
    ·exact V.tr x z
    ·rw [z];exact ht
  refine Ok.nxt<|Ok.cg (c83 ..)<|Ok.eq (a1l _ _ _)<|Ok.eq (d4 _ _)<|Ok.ite (λ_=>?_) λ_=>?_
  ·refine nx_bind<|Ok.bind ((k8 (N:=N+7) (m:=size) (F4.less (by omega)) h0 (by omega) k).mono ?_)
   rintro _ S5 ⟨l,rfl,hl,F5,_,_⟩
   refine Ok.eq (w9 (by omega) _) ((Ok.comp (n:=l) (λj S' es=>Fw ns p (N+(l-j)) S'/\∃ v:List Bool,es=v.map j4/\v.length=j) (λS' es _=>v5 l S') ?_ ⟨F5.less (by omega),[],rfl,rfl⟩).mono ?_)
   ·rintro j S' es hj ⟨Fj,v,rfl,hv⟩
    refine ⟨.int (j:Int),y0 hj S',Ok.ret ?_⟩
    rw [if_pos rfl]
    refine Ok.bind ((k8 (N:=N+(l-(j+1))) (m:=2) (Fj.less (by omega)) (by omega) (by omega) k).mono ?_)
    rintro _ S6 ⟨q,rfl,hq,F6,_,_⟩
    obtain ⟨b,eb⟩:=c3y hq
    exact Ok.eq (b34 S6 eb)<|Ok.ret ⟨by rw [List.length_map,sizeLine_eq];omega,F6,v++[b],by rw [List.map_append];rfl,by simp;omega⟩
   ·rintro _ S6 ⟨F6,v,rfl,hv⟩
    exact Ok.eq (a:=trD v) rfl (last v _ S6 (by omega) (F6.less (by omega)))
  ·exact last t _ S4 htr (F4.less (by omega))
end L3.K12
namespace L3
open PySem PySem.Spec PyProof.Rows L2
theorem c0i (ns:List Int) (S:Sto):b8 .NotEq (.lst (ns.map D.int)) (.lst []) S=.ok (.bl (!ns.isEmpty)) S:=by
 have e:i9 64 S (.lst (ns.map D.int))=some (.list (ns.map PyData.int)):=by
  show (k7 (i9 63 S) (ns.map D.int)).map PyData.list=_
  rw [a4a 62 S ns];rfl
 have l:(PyData.list (ns.map PyData.int)).canLay0=true:=by simp only [PyData.canLay0];exact a63 ns
 have v:PyData.eqv (.list (ns.map PyData.int)) (.list [])=ns.isEmpty:=by cases ns <;> rfl
 show eqP true (.lst (ns.map D.int)) (.lst []) S=_
 unfold eqP
 rw [e,show i9 64 S (.lst [])=some (.list []) from rfl]
 simp only
 rw [if_pos ⟨l,rfl,by rw [show PyData.depth (.list [])=1 from rfl];omega⟩,v];rfl
end L3
namespace L3.Nt
open PySem PySem.Spec PyProof.Rows L2
theorem c4y {p:W7->Bool} {t:D->M Bool} {ws:List W7} {S:Sto} (hl:ws.length<=6) (ht:∀ w:W7,t w.d S=.ok (p w) S):nx (bind (A4 (.tup (ws.map W7.d))) λsm=>j6 sm.1 t (λd=>ret d) sm.2 0 []) S=.ok ((ws.filter p).map W7.d) S:=by
 have e:=u0 (l:=ws) (h:=W7.d) (g:=W7.d) (p:=p) (t:=t) (f:=λd=>ret d) (S:=S) (b0j hl) (λa _=>ht a) (λa _ _=>rfl)
 refine d0z ?_
 rw [a8 (A5 _ S)]
 simp only [List.length_map]
 exact e
theorem b22 (ws:List W7):ws.any (λw=>decide (w=.holds))=decide (0<ws.countP λw=>decide (w=.holds)):=by
 induction ws with
 | nil=>rfl
 | cons w ws ih=>
  rw [List.any_cons,List.countP_cons,ih]
  cases w <;> simp
end L3.Nt
namespace L3.K12
open PySem PySem.Spec PyProof.Rows L2 L3.Nt
theorem c6d {mk:Option Nat} {cl:Bool} {ws:List W7} (hl:ws.length<=6) (hm:∀ g,mk=some g->g<ws.length) (k:Nat) (S:Sto):rn (k+1) c1v [.tup [oD mk,.bl cl,.tup (ws.map W7.d)]] S=.ok (.str (amH mk cl ws)) S:=by
 refine i6 ?_
 rw [rn,b7 (fd:=Ac) rfl,c23,c3i]
 refine Ok.first<|Ok.cg (d1v ..)<|Ok.eq (a:=.nx [some (.tup [oD mk,.bl cl,.tup (ws.map W7.d)]),some (oD mk),some (.bl cl),some (.tup (ws.map W7.d)),none]) rfl ?_
 have t1:∀ w:W7,(bind (b8 .In w.d (.tup [(.str "look"),(.str "holds"),(.str "right"),(.str "down")])) λx4=>bind (asB x4) λz5=>ret z5) S=.ok (op4 w) S:=λw=>by cases w <;> kernel_rfl
 have t2:∀ w:W7,(bind (b8 .In w.d (.tup [(.str "look"),(.str "holds"),(.str "down")])) λx4=>bind (asB x4) λz5=>ret z5) S=.ok (cl3 w) S:=λw=>by cases w <;> kernel_rfl
 have t3:∀ w:W7,(bind (b8 .NotEq w.d (.str "out")) λx5=>bind (asB x5) λz6=>ret z6) S=.ok (decide (w≠.out)) S:=λw=>by cases w <;> kernel_rfl
 have rest:(if cl=false/\ws.any op4=true then False else if cl=true/\ws.any cl3=false then False else True)->Ok (nxt (evK Rs Γ (rn k) 40) a18 [nth Ac.body 3,nth Ac.body 4,nth Ac.body 5,nth Ac.body 6,nth Ac.body 7] endD (.nx [some (.tup [oD mk,.bl cl,.tup (ws.map W7.d)]),some (oD mk),some (.bl cl),some (.tup (ws.map W7.d)),none])) S λd S'=>d=.str (amH mk cl ws)/\S'=S:=by
  intro hq
  have q1:¬ (cl=false/\ws.any op4=true):=λz=>by rw [if_pos z] at hq;exact hq
  have q2:¬ (cl=true/\ws.any cl3=false):=λz=>by rw [if_neg q1,if_pos z] at hq;exact hq
  have am:amH mk cl ws=amM ws mk:=by
   unfold amH;rw [if_neg q1,if_neg q2]
  rw [am]
  refine Ok.nxt<|Ok.cg (d2f ..) ?_
  cases mk with
  | none=>
   refine Ok.eq (a:=.bl true) rfl<|Ok.eq rfl<|Ok.pos rfl<|Ok.eq (c4y hl t3)<|Ok.eq (b53 _ S).2<|Ok.eq (d4 _ _) ?_
   rw [filter_nil,Bool.not_not]
   refine Ok.ite (λz=>Ok.ret ⟨?_,rfl⟩) λz=>Ok.ret ⟨?_,rfl⟩
   ·unfold amM;rw [if_pos z]
   ·unfold amM;rw [if_neg z]
  | some g=>
   obtain ⟨w,hg⟩:∃ w,ws[g]?=some w:=⟨_,List.getElem?_eq_getElem (hm g rfl)⟩
   have ae:amM ws (some g)=(if some w=some W7.out\/some w=some .down then ("mark" : Str) else if ws.any (λw=>decide (w=.holds))=true/\(some w=some .close\/some w=some .look) then ("late" : Str) else if 1<ws.countP (λw=>decide (w=.holds)) then ("twice" : Str) else ("" : Str)):=by
    rw [<- hg];rfl
   rw [ae]
   refine Ok.eq (a:=.bl false) rfl<|Ok.eq rfl<|Ok.neg (by decide)<|Ok.nxt<|Ok.cg (d2k ..)<|Ok.eq (B4 S (n4 hg))<|Ok.eq (S1:=S) (a:=.bl (decide (w=.out\/w=.down))) (by cases w <;> kernel_rfl)<|Ok.eq (d4 _ _)<|Ok.ite (λz=>Ok.ret ⟨?_,rfl⟩) λz=>?_
   ·have z:=of_decide_eq_true z
    simp only [Option.some.injEq];rw [if_pos z]
   have z:=of_decide_eq_false (Bool.eq_false_iff.mpr z)
   have ln:m7 (.tup (ws.map W7.d)) S=.ok (.int (ws.length:Int)) S:=(p0 _ S).trans (by rw [List.length_map])
   refine Ok.nxt<|Ok.cg (d3b ..)<|nx_bind<|Ok.eq ln<|Ok.eq (w9 (by omega) _) ((Ok.comp (n:=ws.length) (λj S' es=>S'=S/\∃ v:List Int,es=v.map D.int/\v.length=(ws.take j).countP λw=>decide (w=.holds)) (λS' es _=>v5 _ S') ?_ ⟨rfl,[],rfl,rfl⟩).mono ?_)
   ·rintro j S' es hj ⟨hS,v,rfl,hv⟩
    cases hS
    have hw:ws[j]?=some ws[j]:=List.getElem?_eq_getElem hj
    have ta:ws.take (j+1)=ws.take j++[ws[j]]:=List.take_succ_eq_append_getElem hj
    rw [ta,List.countP_append]
    generalize ws[j]=u at hw
    have lv:v.length<=6:=by
     have:=List.countP_le_length (p:=λw:W7=>decide (w=.holds)) (l:=ws.take j)
     have:=List.length_take_le j ws
     omega
    refine ⟨.int (j:Int),y0 hj S,Ok.eq (B4 S (n4 hw))<|Ok.eq (S1:=S) (a:=.bl (decide (u=.holds))) (by cases u <;> kernel_rfl)<|Ok.eq (d4 _ _)<|Ok.ret ?_⟩
    by_cases z:u=.holds
    ·rw [if_pos (decide_eq_true z)]
     exact Ok.ret ⟨by rw [List.length_map];exact b0j lv,rfl,v++[(j:Int)],by rw [List.map_append];rfl,by simp [z];exact hv⟩
    ·rw [if_neg (by rw [decide_eq_false z];decide)]
     exact ⟨rfl,v,rfl,by simp [z];exact hv⟩
   rintro _ S' ⟨hS,v,rfl,hv⟩
   cases hS
   rw [List.take_length] at hv
   have lst:¬ (ws.any (λw=>decide (w=.holds))=true/\(w=.close\/w=.look))->Ok (nxt (evK Rs Γ (rn k) 40) a18 [nth Ac.body 7] endD (.nx [some (.tup [oD (some g),.bl cl,.tup (ws.map W7.d)]),some (oD (some g)),some (.bl cl),some (.tup (ws.map W7.d)),some (.lst (v.map D.int))])) S λd S'=>d=.str (if some w=some W7.out\/some w=some .down then "mark" else if ws.any (λw=>decide (w=.holds))=true/\(some w=some .close\/some w=some .look) then "late" else if 1<ws.countP (λw=>decide (w=.holds)) then "twice" else "")/\S'=S:=by
    intro y
    refine Ok.nxt<|Ok.cg (d2g ..)<|Ok.eq ((c17 _ S).trans (by rw [List.length_map]))<|Ok.eq (a84 _ _ _)<|Ok.eq (d4 _ _) ?_
    simp only [Option.some.injEq]
    rw [if_neg z,if_neg y,<- hv]
    refine Ok.ite (λx=>Ok.ret ⟨?_,rfl⟩) λx=>Ok.ret ⟨?_,rfl⟩
    ·have x:=of_decide_eq_true x
     rw [if_pos (by omega)]
    ·have x:=of_decide_eq_false (Bool.eq_false_iff.mpr x)
     rw [if_neg (by omega)]
   have va:(!v.isEmpty)=ws.any (λw=>decide (w=.holds)):=by
    rw [b22,<- hv]
    cases v <;> simp
   refine Ok.nxt<|Ok.cg (d2q ..)<|Ok.eq (c0i v S)<|Ok.eq (d4 _ _) ?_
   rw [va]
   refine Ok.ite (λx=>?_) λx=>lst λy=>x y.1
   refine Ok.eq (B4 S (n4 hg))<|Ok.eq (S1:=S) (a:=.bl (decide (w=.close\/w=.look))) (by cases w <;> kernel_rfl)<|Ok.eq (d4 _ _)<|Ok.ite (λy=>Ok.ret ⟨?_,rfl⟩) λy=>lst λy'=>y (decide_eq_true y'.2)
   have y:=of_decide_eq_true y
   simp only [Option.some.injEq]
   rw [if_neg z,if_pos ⟨x,y⟩]
 cases cl with
 | false=>
  refine Ok.nxt<|Ok.cg (c7u ..)<|Ok.eq (a:=false) rfl<|Ok.pos rfl<|Ok.eq (c4y hl t1)<|Ok.eq (b53 _ S).2<|Ok.eq (d4 _ _) ?_
  rw [filter_nil,Bool.not_not]
  refine Ok.ite (λz=>Ok.ret ⟨?_,rfl⟩) λz=>?_
  ·unfold amH;rw [if_pos ⟨rfl,z⟩]
  ·refine Ok.nxt<|Ok.cg (c7w ..)<|Ok.eq (a:=false) rfl<|Ok.neg (by decide)<|rest ?_
   rw [if_neg (λy=>z y.2),if_neg (λy=>by cases y.1)];trivial
 | true=>
  refine Ok.nxt<|Ok.cg (c7u ..)<|Ok.eq (a:=true) rfl<|Ok.neg (by decide)<|Ok.nxt<|Ok.cg (c7w ..)<|Ok.eq (a:=true) rfl<|Ok.pos rfl<|Ok.eq (c4y hl t2)<|Ok.eq (b53 _ S).1<|Ok.eq (d4 _ _) ?_
  rw [filter_nil]
  refine Ok.ite (λz=>Ok.ret ⟨?_,rfl⟩) λz=>rest ?_
  ·unfold amH;rw [if_neg (λy=>by cases y.1),if_pos ⟨rfl,by simpa using z⟩]
  ·rw [if_neg (λy=>by cases y.1),if_neg (λy=>z (by rw [y.2];rfl))];trivial
end L3.K12
namespace L3.Nt
open PySem PySem.Spec PyProof.Rows L2
theorem c9m (mk:Option Nat) (cl:Bool) (ws:List W7):amH mk cl ws = "open"\/amH mk cl ws = "closed"\/amH mk cl ws = "free"\/amH mk cl ws = "mark"\/amH mk cl ws = "late"\/amH mk cl ws = "twice"\/amH mk cl ws = "":=by
 unfold amH
 split
 ·exact .inl rfl
 ·split
  ·exact .inr (.inl rfl)
  ·unfold amM
   split
   ·split
    ·exact .inr (.inr (.inl rfl))
    ·exact .inr (.inr (.inr (.inr (.inr (.inr rfl)))))
   ·split
    ·exact .inr (.inr (.inr (.inl rfl)))
    ·split
     ·exact .inr (.inr (.inr (.inr (.inl rfl))))
     ·split
      ·exact .inr (.inr (.inr (.inr (.inr (.inl rfl)))))
      ·exact .inr (.inr (.inr (.inr (.inr (.inr rfl)))))
end L3.Nt
namespace L3.K12
open PySem PySem.Spec PyProof.Rows L2 L3.Nt
noncomputable def t6 (size:Nat) (r:Nst) (n:Nat):Str:=match r.bx[n]?,(r8 size)[n]? with
 | some b,some c=>amH b.1 b.2 (r.hs.map λh=>K4 (pC h.1 c) h)
 | _,_=>""
theorem a9e (size:Nat) (r:Nst) (n:Nat):t6 size r n = "open"\/t6 size r n = "closed"\/t6 size r n = "free"\/t6 size r n = "mark"\/t6 size r n = "late"\/t6 size r n = "twice"\/t6 size r n = "":=by
 unfold t6
 split
 ·exact c9m _ _ _
 ·exact .inr (.inr (.inr (.inr (.inr (.inr rfl)))))
theorem b4r (size:Nat) (r:Nst) (n:Nat) (S:Sto):b8 .NotEq (.str (t6 size r n)) (.str "") S=.ok (.bl (decide (t6 size r n ≠ ""))) S/\(b8 .Eq (.tup [.str (t6 size r n),.int (n:Int)]) (.tup []) S=.ok (.bl false) S):=by
 rcases a9e size r n with e | e | e | e | e | e | e <;> rw [e] <;> exact ⟨by kernel_rfl,by kernel_rfl⟩
section
variable {size many:Nat} {r:Nst} (V:VN size many r) (h0:0<size) (k:Nat) (S:Sto)
include V h0
theorem c0c {n:Nat} (hn:n<tri size):(bind (rn (k+2) b2l [.int (size:Int),r.d,.int (n:Int)]) λx1=>rn (k+2) c1v [x1]) S=.ok (.str (t6 size r n)) S:=by
 have b1:=V.bl
 have b2:=V.hl
 have h5:=V.s5
 have m5:=V.m5
 have hb:r.bx[n]?=some r.bx[n]:=List.getElem?_eq_getElem (by omega)
 have hbm:=V.mg r.bx[n] (List.getElem_mem (by omega))
 generalize r.bx[n]=b at hb hbm
 obtain ⟨c,hc⟩:∃ c,(r8 size)[n]?=some c:=⟨_,List.getElem?_eq_getElem (by rw [O1 h5];exact hn)⟩
 have el:=i6 (c50 (r:=r) h5 h0 hb hc (by omega) k S)
 have e1:a2e r b (λh=>pC h.1 c)=.tup [oD b.1,.bl b.2,.tup ((r.hs.map λh=>K4 (pC h.1 c) h).map W7.d)]:=by
  have e2:(r.hs.map λh=>j7 (pC h.1 c) h)=(r.hs.map λh=>K4 (pC h.1 c) h).map W7.d:=by
   rw [List.map_map];exact List.map_congr_left λh _=>(a86 _ h).symm
  unfold a2e
  rw [e2]
 rw [e1] at el
 rw [a8 el]
 have ea:t6 size r n=amH b.1 b.2 (r.hs.map λh=>K4 (pC h.1 c) h):=by unfold t6;rw [hb,hc]
 rw [ea]
 exact c6d (by rw [List.length_map];omega) (λg hg=>by rw [List.length_map,b2];exact hbm g hg) (k+1) S
theorem a43:Ok (rn (k+3) c4o [.int (size:Int),r.d]) S λd S'=>S'=S/\((d=.tup []/\∀ n,n<tri size->t6 size r n = "")\/∃ n,n<tri size/\d=.tup [.str (t6 size r n),.int (n:Int)]/\t6 size r n ≠ ""/\∀ j,j<n->t6 size r j = ""):=by
 have b1:=V.bl
 have b5:=a3j V.s5
 have l1:m7 (.tup (r.bx.map bxD)) S=.ok (.int (tri size:Int)) S:=(p0 _ S).trans (by rw [List.length_map,b1])
 rw [rn,b7 (fd:=Ar) rfl,b8q,c01]
 refine Ok.first<|Ok.cg (c6r ..)<|Ok.eq (a:=.tup (r.bx.map bxD)) rfl<|Ok.eq l1<|Ok.eq (w9 (by omega) _)<|Ok.bind ((Ok.for_ (n:=tri size) (λi ρ S'=>S'=S/\(∀ j,j<i->t6 size r j = "")/\∃ o3 o4:Option D,ρ=[some (.int (size:Int)),some r.d,o3,o4]) (λ_ _=>False) (λd S'=>S'=S/\∃ n,n<tri size/\d=.tup [.str (t6 size r n),.int (n:Int)]/\t6 size r n ≠ ""/\∀ j,j<n->t6 size r j = "") (λρ S' _=>v5 _ S') ?_ (tri size) 0 _ _ (by omega) ⟨rfl,λj hj=>by omega,_,_,rfl⟩).mono ?_)
 ·rintro i ρ S' hi ⟨hS,hj,o3,o4,rfl⟩
  cases hS
  refine ⟨.int (i:Int),_,y0 hi S,rfl,?_⟩
  unfold a52
  rw [a5q]
  refine Ok.first<|Ok.cg (b0x ..)<|Ok.cg (b5o ..)<|Ok.eq (c0c V h0 k S hi)<|Ok.nxt<|Ok.cg (b17 ..)<|Ok.eq (b4r size r i S).1<|Ok.eq (d4 _ _)<|Ok.ite (λz=>Ok.ret ?_) λz=>Ok.ret ?_
  ·exact ⟨rfl,i,hi,rfl,of_decide_eq_true z,hj⟩
  ·refine ⟨rfl,λj hj'=>?_,_,_,rfl⟩
   rcases Nat.lt_succ_iff_lt_or_eq.mp hj' with y | y
   ·exact hj j y
   ·rw [y];simpa using z
 ·rintro fl S' hf
  cases fl with
  | nx ρ=>
   rcases hf with ⟨hS,hj,o3,o4,rfl⟩ | hf
   ·cases hS
    exact Ok.nxt<|Ok.cg (c7s ..)<|Ok.ret ⟨rfl,.inl ⟨rfl,hj⟩⟩
   ·exact hf.elim
  | rt d=>exact Ok.ret ⟨hf.1,.inr hf.2⟩
  | bk ρ=>exact hf.elim
  | ct ρ=>exact hf.elim
end
theorem b1v:((List.range 6).all λsize=>(List.range 5).all λa=>(List.range 5).all λb=>!(decide (a+b<size))||decide ((r8 size)[E8 (a,b)]?=some (a,b)))=true:=by decide +kernel
theorem b3t {size:Nat} (h5:size<=5) {c:Nat×Nat} (hc:c.1+c.2<size):(r8 size)[E8 c]?=some c:=by
 have a:=List.all_eq_true.mp b1v size (List.mem_range.mpr (by omega))
 have a:=List.all_eq_true.mp a c.1 (List.mem_range.mpr (by omega))
 have a:=List.all_eq_true.mp a c.2 (List.mem_range.mpr (by omega))
 rw [decide_eq_true hc] at a
 exact of_decide_eq_true (by simpa using a)
theorem c2l {size many:Nat} {r:Nst} (V:VN size many r) (h:∀ n,n<tri size->t6 size r n = ""):GoodN size r:=by
 intro c hc
 have hn:=a9w hc
 have hn2:E8 c<r.bx.length:=by rw [V.bl];exact hn
 have hb:r.bx[E8 c]?=some r.bx[E8 c]:=List.getElem?_eq_getElem hn2
 have hbm:=V.mg r.bx[E8 c] (List.getElem_mem hn2)
 generalize r.bx[E8 c]=b at hb hbm
 have e:=h _ hn
 unfold t6 at e
 rw [hb,b3t V.s5 hc] at e
 have ew:(r.hs.map λh=>K4 (pC h.1 c) h)=r.hs.map (w7c c):=List.map_congr_left λh _=>a9d c h
 simp only at e
 rw [ew] at e
 exact ⟨b,hb,(a3o (λg hg=>by rw [List.length_map,V.hl];exact hbm g hg)).mp e⟩
theorem any_ok {ns:List Int} {p N size many:Nat} {S:Sto} (F:Fw ns p (N+180) S) (h0:0<size) (h5:size<=5) (m0:0<many) (m5:many<=5) (k:Nat):Ok (rn (k+5) c5h [.ref p,.int (size:Int),.int (many:Int)]) S λd S'=>Fw ns p N S'/\∃ r,d=Nst.d r/\VN size many r/\GoodN size r:=by
 rw [rn,b7 (fd:=An) rfl,b8a,b76]
 refine Ok.first<|Ok.cg (d0w ..)<|Ok.bind ((a7o (N:=N+120) (F.less (by omega)) h0 h5 m0 m5 k).mono ?_)
 rintro _ S1 ⟨F1,r,rfl,V,G⟩
 refine Ok.nxt<|Ok.cg (c9j ..)<|Ok.eq (w9 (n:=10) (by omega) _)<|Ok.bind ((Ok.loop (n:=10) (λi ρ S'=>Fw ns p (N+12 * (10-i)) S'/\∃ (r:Nst) (o5 o6:Option D),VN size many r/\GoodN size r/\ρ=[some (.ref p),some (.int (size:Int)),some (.int (many:Int)),some r.d,o5,o6]) (λρ S' _=>v5 10 S') ?_ ⟨F1.less (by omega),r,_,_,V,G,rfl⟩).mono ?_)
 ·rintro i ρ S2 hi ⟨F2,r,o5,o6,V,G,rfl⟩
  refine ⟨.int (i:Int),_,y0 hi S2,rfl,?_⟩
  unfold a5j
  rw [a49]
  refine Ok.first<|Ok.cg (b1e ..)<|Ok.bind ((Y4 (N:=N+12 * (10-(i+1))) (F2.less (by omega)) V h0 m0 (k+2)).mono ?_)
  rintro _ S3 ⟨F3,r',rfl,V'⟩
  refine Ok.nxt<|Ok.cg (b1b ..)<|Ok.bind ((a43 V' h0 (k+1) S3).mono ?_)
  rintro d S4 ⟨hS,hd⟩
  cases hS
  rcases hd with ⟨rfl,hg⟩ | ⟨n,_,rfl,_,_⟩
  ·exact Ok.eq (a:=.bl true) rfl<|Ok.eq rfl<|Ok.pos rfl<|Ok.ret ⟨_,.inl rfl,F3,r',_,_,V',c2l V' hg,rfl⟩
  ·exact Ok.eq (b4r size r' n S3).2<|Ok.eq rfl<|Ok.neg (by decide)<|Ok.ret ⟨_,.inl rfl,F3,r,_,_,V,G,rfl⟩
 ·rintro _ S3 ⟨ρ,rfl,F3,r,o5,o6,V,G,rfl⟩
  exact Ok.nxt<|Ok.cg (c98 ..)<|Ok.ret ⟨F3.less (by omega),r,rfl,V,G⟩
end L3.K12
namespace L3.K12
open PySem PySem.Spec PyProof.Rows L2
def Kp (p:Nat) (S S':Sto):Prop:=S'.length=S.length/\∀ q,q≠p->S'[q]?=S[q]?
theorem Kp.tr {p:Nat} {S T U:Sto} (a:Kp p S T) (b:Kp p T U):Kp p S U:=⟨b.1.trans a.1,λq h=>(b.2 q h).trans (a.2 q h)⟩
theorem N5 {ns:List Int} {p N m:Nat} {S:Sto} {ds:List D} (h:Fw ns p (N+1) S) (hm:0<m) (hl:ds.length=m) (hm2:m<1000000) (k:Nat):Ok (bind (rn (k+1) E3 [.ref p,.int (m:Int)]) λi=>bind (ixD (.lst ds) i) ret) S λd S'=>d∈ds/\Fw ns p N S'/\Kp p S S':=by
 refine Ok.bind ((k8 h hm (by omega) k).mono ?_)
 rintro _ S1 ⟨r,rfl,hr,f1,l1,k1⟩
 have hr':r<ds.length:=by omega
 exact Ok.eq (b34 S1 (List.getElem?_eq_getElem hr')) (Ok.ret ⟨List.getElem_mem hr',f1,l1,k1⟩)
section
variable (C:Cf) (p:D) (ds:List D)
noncomputable def odds:List D:=[.non,.bl true,.bl false,.int (-1),.int 0,.int 1,.int 2,.int 6,.int 1000000000000000000000000000000000000000,.str "",.str "out",.str "ask",.str "holds",.str "down",.tup [],.lst [],.lst [.str "out"],.tup [.str "out"]]
theorem b89:runK Rs Γ C a7v [p]=bind (C E3 [p,.int 18]) λi=>bind (ixD (.lst odds) i) ret:=by kernel_rfl
noncomputable def bIn:M D:=bind (C E3 [p,.int ds.length]) λat_=>bind (y4 at_) λu=>bind (slD (.tup ds) none u) λh=>bind (ixD (.tup ds) at_) λy=>bind (C a7z [p,y]) λy2=>bind (d8 h (.tup [y2])) λh2=>bind (d8 at_ (.int 1)) λa1=>bind (y4 a1) λl=>bind (slD (.tup ds) l none) λr=>bind (d8 h2 r) ret
noncomputable def a8f:M D:=bind (d8 (.tup ds) (.tup (A6 ds (some (-1)) none))) λm2=>bind (d8 (.tup ds) (.tup [.int 0])) λm4=>bind (C D8 [p]) λo=>bind (C E3 [p,.int 8]) λi=>bind (ixD (.lst [.lst ds,.tup (A6 ds (some 1) none),m2,.tup ds.reverse,m4,.tup [],.tup [.tup ds],o]) i) ret
theorem b2s:runK Rs Γ C B6 [p,.tup ds]=bind (b8 .NotEq (.tup ds) (.tup [])) λe=>bind (asB e) λz=>if z=true then (bind (C E3 [p,.int 5]) λq=>bind (b8 .Gt q (.int 0)) λe=>bind (asB e) λz=>if z=true then bIn C p ds else a8f C p ds) else a8f C p ds:=by kernel_rfl
theorem c5z:runK Rs Γ C B6 [p,.bl true]=bind (C D8 [p]) λo=>bind (C E3 [p,.int 3]) λi=>bind (ixD (.lst [.bl false,.int 1,o]) i) ret:=by kernel_rfl
theorem c49:runK Rs Γ C B6 [p,.bl false]=bind (C D8 [p]) λo=>bind (C E3 [p,.int 3]) λi=>bind (ixD (.lst [.bl true,.int 0,o]) i) ret:=by kernel_rfl
theorem b3r:runK Rs Γ C B6 [p,.non]=bind (C D8 [p]) ret:=by kernel_rfl
theorem b3u:runK Rs Γ C B6 [p,.lst ds]=bind (C D8 [p]) ret:=by kernel_rfl
theorem b3v (i:Int):runK Rs Γ C B6 [p,.int i]=bind (b9y (.int i)) λs=>bind (C D8 [p]) λo=>bind (C E3 [p,.int 8]) λn=>bind (ixD (.lst [.int (i+1),.int (i-1),.bl (decide (i=1)),s,.non,.int 5,.int 6,o]) n) ret:=by kernel_rfl
noncomputable def words:List D:=[.str "out",.str "ask",.str "close",.str "look",.str "holds",.str "right",.str "down"]
theorem b3c (x:Str):runK Rs Γ C B6 [p,.str x]=bind (d8 (.str x) (.str "x")) λs1=>bind (a1b (.str x)) λs2=>bind (C D8 [p]) λo=>bind (C E3 [p,.int 10]) λn=>bind (ixD (.lst (words++[s1,s2,o])) n) ret:=by kernel_rfl
end
theorem b3s:odds.all (smB 1 100)=true:=by decide +kernel
theorem Q6 {ns:List Int} {p N:Nat} {S:Sto} (h:Fw ns p (N+1) S) (k:Nat):Ok (rn (k+2) D8 [.ref p]) S λd S'=>(Pln 0 d/\dp d<=1/\sz d<=100)/\Fw ns p N S'/\Kp p S S':=by
 rw [rn,b7 (fd:=a7v) rfl,b89]
 refine (N5 (m:=18) h (by omega) rfl (by omega) k).mono ?_
 rintro d S' ⟨hd,f,g⟩
 exact ⟨y9 (List.all_eq_true.mp b3s d hd),f,g⟩
structure Bt (j:Nat) (d d':D):Prop where
 pl:Pln (j+1) d'
 dp:dp d'<=dp d+1
 sz:sz d'<=2 * sz d+500
theorem Bt.odd {j:Nat} {d o:D} (h:Pln 0 o/\L3.dp o<=1/\L3.sz o<=100):Bt j d o:=⟨h.1.ups,by omega,by omega⟩
theorem a89 {ns:List Int} {p N j:Nat} {S:Sto} {ds:List D} (h:Fw ns p (N+2) S) (pl:Plns j ds) (hz:szs ds<=1000000) (k:Nat):Ok (a8f (rn (k+2)) (.ref p) ds) S λd' S'=>Bt j (.tup ds) d'/\Fw ns p N S'/\Kp p S S':=by
 have len:=a0p ds
 have pu:=Plns.up ds pl
 unfold a8f
 have s1:=a8x ds (some (-1)) none
 have s2:=a8x ds (some 1) none
 have z1:=a99 s1
 have z2:=a99 s2
 have l1:=s1.length_le
 refine Ok.eq (cat_tup (by rw [sizeLine_eq];omega)) (Ok.eq (cat_tup (by rw [sizeLine_eq];simp;omega)) (Ok.bind ((Q6 (N:=N+1) h k).mono ?_)))
 rintro o S1 ⟨ho,f1,g1⟩
 refine (N5 (m:=8) f1 (by omega) rfl (by omega) (k+1)).mono ?_
 rintro d' S2 ⟨hd,f2,g2⟩
 refine ⟨?_,f2,g1.tr g2⟩
 have D0:dp (.tup ds)=dps ds+1:=rfl
 have Z0:sz (.tup ds)=szs ds+3:=rfl
 simp only [List.mem_cons,List.not_mem_nil,or_false] at hd
 rcases hd with rfl | rfl | rfl | rfl | rfl | rfl | rfl | rfl
 ·exact ⟨pu,by show dps ds+1<=_;omega,by show szs ds+3<=_;omega⟩
 ·exact ⟨pu.sub λd hd=>s2.subset hd,by have:=a4x λd hd=>s2.subset hd;show dps _+1<=_;omega,by show szs _+3<=_;omega⟩
 ·have sub:∀ d∈ds++A6 ds (some (-1)) none,d∈ds:=λd hd=>by
   rcases List.mem_append.mp hd with q | q
   ·exact q
   ·exact s1.subset q
  exact ⟨pu.sub sub,by have:=a4x sub;show dps _+1<=_;omega,by show szs _+3<=_;rw [G6];omega⟩
 ·have sub:∀ d∈ds.reverse,d∈ds:=λd hd=>List.mem_reverse.mp hd
  exact ⟨pu.sub sub,by have:=a4x sub;show dps _+1<=_;omega,by show szs _+3<=_;rw [a83];omega⟩
 ·refine ⟨Plns.of λd hd=>?_,?_,?_⟩
  ·rcases List.mem_append.mp hd with q | q
   ·exact pu.mem d q
   ·rw [List.mem_singleton.mp q];exact Nat.zero_le _
  ·have:dps (ds++[.int 0])<=dps ds:=a17 λd hd=>by
    rcases List.mem_append.mp hd with q | q
    ·exact N2 q
    ·rw [List.mem_singleton.mp q];exact Nat.zero_le _
   show dps _+1<=_;omega
  ·show szs _+3<=_
   rw [G6]
   show szs ds+(60+2+0)+3<=_;omega
 ·exact ⟨trivial,by show 0+1<=_;omega,by show 0+3<=_;omega⟩
 ·exact ⟨⟨pu,trivial⟩,by show max (dps ds+1) 0+1<=_;omega,by show szs ds+3+2+0+3<=_;omega⟩
 ·exact Bt.odd ho
theorem a9r {ns:List Int} {p:Nat}:∀ (k:Nat) (d:D) (j N:Nat) (S:Sto),Pln j d->dp d<=k->dp d<=3+j->j<=40->sz d<=1000000->Fw ns p (N+4 * (k+1)) S->Ok (rn (k+3) a7z [.ref p,d]) S λd' S'=>Bt j d d'/\Fw ns p N S'/\Kp p S S'
 | k,.non,j,N,S,pl,hd,hdj,hj,hz,h=>by
  rw [rn,b7 (fd:=B6) rfl,b3r]
  refine Ok.bind ((Q6 (N:=N) (h.less (by omega)) k).mono ?_)
  rintro o S1 ⟨ho,f1,g1⟩
  exact Ok.ret ⟨Bt.odd ho,f1,g1⟩
 | k,.lst ds,j,N,S,pl,hd,hdj,hj,hz,h=>by
  rw [rn,b7 (fd:=B6) rfl,b3u]
  refine Ok.bind ((Q6 (N:=N) (h.less (by omega)) k).mono ?_)
  rintro o S1 ⟨ho,f1,g1⟩
  exact Ok.ret ⟨Bt.odd ho,f1,g1⟩
 | k,.bl b,j,N,S,pl,hd,hdj,hj,hz,h=>by
  have mem:∀ d∈([.bl false,.bl true,.int 0,.int 1]:List D),Bt j (.bl b) d:=λd hd=>Bt.odd (y9 (List.all_eq_true.mp (show ([.bl false,.bl true,.int 0,.int 1]:List D).all (smB 1 100)=true by decide +kernel) d hd))
  cases b with
  | true=>
   rw [rn,b7 (fd:=B6) rfl,c5z]
   refine Ok.bind ((Q6 (N:=N+1) (h.less (by omega)) k).mono ?_)
   rintro o S1 ⟨ho,f1,g1⟩
   refine (N5 (m:=3) f1 (by omega) rfl (by omega) (k+1)).mono ?_
   rintro d' S2 ⟨hd,f2,g2⟩
   refine ⟨?_,f2,g1.tr g2⟩
   simp only [List.mem_cons,List.not_mem_nil,or_false] at hd
   rcases hd with rfl | rfl | rfl
   ·exact mem _ (by simp)
   ·exact mem _ (by simp)
   ·exact Bt.odd ho
  | false=>
   rw [rn,b7 (fd:=B6) rfl,c49]
   refine Ok.bind ((Q6 (N:=N+1) (h.less (by omega)) k).mono ?_)
   rintro o S1 ⟨ho,f1,g1⟩
   refine (N5 (m:=3) f1 (by omega) rfl (by omega) (k+1)).mono ?_
   rintro d' S2 ⟨hd,f2,g2⟩
   refine ⟨?_,f2,g1.tr g2⟩
   simp only [List.mem_cons,List.not_mem_nil,or_false] at hd
   rcases hd with rfl | rfl | rfl
   ·exact mem _ (by simp)
   ·exact mem _ (by simp)
   ·exact Bt.odd ho
 | k,.int i,j,N,S,pl,hd,hdj,hj,hz,h=>by
  rw [rn,b7 (fd:=B6) rfl,b3v]
  have pl:i.natAbs<=G4 j:=pl
  have lg:=of_decide_eq_true (a8y pl (by omega))
  have Z0:sz (.int i)=60:=rfl
  have hl:(Str.ofString (toString i)).length<=41:=by
   have e:=int_text_length_le10 (k:=40) (a:=i) (by decide) (by unfold G4 at pl;omega)
   rw [PySem.ofString_length];omega
  refine Ok.eq (show b9y (.int i) S=.ok (.str (Str.ofString (toString i))) S by
   show (if i.natAbs.log2<1920 then ret (D.str (toString i)) else bad) S=_
   rw [if_pos lg];rfl) (Ok.bind ((Q6 (N:=N+1) (h.less (by omega)) k).mono ?_))
  rintro o S1 ⟨ho,f1,g1⟩
  refine (N5 (m:=8) f1 (by omega) rfl (by omega) (k+1)).mono ?_
  rintro d' S2 ⟨hd,f2,g2⟩
  refine ⟨?_,f2,g1.tr g2⟩
  simp only [List.mem_cons,List.not_mem_nil,or_false] at hd
  rcases hd with rfl | rfl | rfl | rfl | rfl | rfl | rfl | rfl
  ·exact ⟨by show (i+1).natAbs<=G4 (j+1);unfold G4 at *;omega,Nat.zero_le _,by show 60<=_;omega⟩
  ·exact ⟨by show (i-1).natAbs<=G4 (j+1);unfold G4 at *;omega,Nat.zero_le _,by show 60<=_;omega⟩
  ·exact ⟨trivial,Nat.zero_le _,by show 5<=_;omega⟩
  ·exact ⟨⟨by omega,b9x i⟩,Nat.zero_le _,by show 10 * _+2<=_;omega⟩
  ·exact Bt.odd ⟨trivial,Nat.zero_le _,by decide⟩
  ·exact Bt.odd (y9 (by decide +kernel))
  ·exact Bt.odd (y9 (by decide +kernel))
  ·exact Bt.odd ho
 | k,.str x,j,N,S,pl,hd,hdj,hj,hz,h=>by
  rw [rn,b7 (fd:=B6) rfl,b3c]
  have pl:x.length<=45+j/\Asc x:=pl
  obtain ⟨p1,p2⟩:=pl
  have Z0:sz (.str x)=10 * x.length+2:=rfl
  have lx:("x" : Str).length=1:=by decide +kernel
  have ax:Asc ("x" : Str):=by unfold Asc;decide +kernel
  refine Ok.eq (show d8 (.str x) (.str "x") S=.ok (.str (x ++ "x")) S by
   show (if x.length+("x" : Str).length<=sizeLine then ret (D.str (x ++ "x")) else bad) S=_
   rw [if_pos (by rw [lx,sizeLine_eq];omega)];rfl) (Ok.eq (show a1b (.str x) S=.ok (.str (Txt.upper x)) S by
   show (if (Txt.upper x).length<=sizeLine then ret (D.str (Txt.upper x)) else bad) S=_
   rw [if_pos (by rw [(a3v p2).2,sizeLine_eq];omega)];rfl) (Ok.bind ((Q6 (N:=N+1) (h.less (by omega)) k).mono ?_)))
  rintro o S1 ⟨ho,f1,g1⟩
  refine (N5 (m:=10) f1 (by omega) rfl (by omega) (k+1)).mono ?_
  rintro d' S2 ⟨hd,f2,g2⟩
  refine ⟨?_,f2,g1.tr g2⟩
  rcases List.mem_append.mp hd with q | q
  ·exact Bt.odd (y9 (List.all_eq_true.mp (show words.all (smB 1 100)=true by decide +kernel) d' q))
  ·simp only [List.mem_cons,List.not_mem_nil,or_false] at q
   rcases q with rfl | rfl | rfl
   ·exact ⟨⟨by rw [a95,lx];omega,b9f p2 ax⟩,Nat.zero_le _,by show 10 * _+2<=_;rw [a95,lx];omega⟩
   ·exact ⟨⟨by rw [(a3v p2).2];omega,(a3v p2).1⟩,Nat.zero_le _,by show 10 * _+2<=_;rw [(a3v p2).2];omega⟩
   ·exact Bt.odd ho
 | k,.tup ds,j,N,S,pl,hd,hdj,hj,hz,h=>by
  have pl:Plns j ds:=pl
  have hd:dps ds+1<=k:=hd
  have hdj:dps ds+1<=3+j:=hdj
  have hz:szs ds+3<=1000000:=hz
  have len:=a0p ds
  have D0:dp (.tup ds)=dps ds+1:=rfl
  have Z0:sz (.tup ds)=szs ds+3:=rfl
  rw [rn,b7 (fd:=B6) rfl,b2s]
  refine Ok.eq (a7h (j:=j) (N:=1000000) ⟨pl,hdj,hz⟩ hj S) (Ok.eq (d4 _ S) ?_)
  by_cases he:ds=[]
  ·subst he
   rw [if_neg (by simp)]
   exact a89 (h.less (by omega)) pl (by omega) k
  ·have hp:0<ds.length:=List.length_pos_iff.mpr he
   rw [if_pos (by simp [he])]
   refine Ok.bind ((k8 (m:=5) (N:=N+4 * k+3) (h.less (by omega)) (by omega) (by omega) (k+1)).mono ?_)
   rintro _ S1 ⟨q,rfl,hq,f1,l1,k1⟩
   have g1:Kp p S S1:=⟨l1,k1⟩
   refine Ok.eq (show b8 .Gt (.int (q:Int)) (.int 0) S1=.ok (.bl (decide ((0:Int)<(q:Int)))) S1 from rfl) (Ok.eq (d4 _ S1) ?_)
   by_cases hz2:(0:Int)<(q:Int)
   ·rw [decide_eq_true hz2,if_pos rfl]
    unfold bIn
    refine Ok.bind ((k8 (m:=ds.length) (N:=N+4 * k) (f1.less (by omega)) hp (by omega) (k+1)).mono ?_)
    rintro _ S2 ⟨r,rfl,hr,f2,l2,k2⟩
    have g2:Kp p S1 S2:=⟨l2,k2⟩
    have er:ds[r]?=some ds[r]:=List.getElem?_eq_getElem hr
    refine Ok.eq (show y4 (.int (r:Int)) S2=.ok (some (r:Int)) S2 from rfl) (Ok.eq (show slD (.tup ds) none (some (r:Int)) S2=.ok (.tup (ds.take r)) S2 by
     show R.ok (D.tup (A6 ds none (some (r:Int)))) S2=_
     rw [V0 (by omega)]) (Ok.eq (B4 S2 er) ?_))
    obtain ⟨k',rfl⟩:∃ k',k=k'+1:=⟨k-1,by omega⟩
    have hm:=N2 (List.getElem_mem hr)
    have za:=b3l er
    refine Ok.bind ((a9r k' ds[r] j N S2 (pl.mem _ (List.getElem_mem hr)) (by omega) (by omega) hj (by omega) (f2.less (by omega))).mono ?_)
    rintro y S3 ⟨hy,f3,g3⟩
    refine Ok.eq (cat_tup (by rw [List.length_take,sizeLine_eq];simp;omega)) (Ok.eq (a1y _ _ S3) (Ok.eq (show y4 (.int ((r:Int)+1)) S3=.ok (some ((r:Int)+1)) S3 from rfl) (Ok.eq (show slD (.tup ds) (some ((r:Int)+1)) none S3=.ok (.tup (ds.drop (r+1))) S3 by
     show R.ok (D.tup (A6 ds (some ((r:Int)+1)) none)) S3=_
     rw [show (r:Int)+1=((r+1:Nat):Int) by omega,a12 (by omega)]) (Ok.eq (cat_tup (by rw [List.length_append,List.length_take,List.length_drop,sizeLine_eq];simp;omega)) (Ok.ret ⟨?_,f3,g1.tr (g2.tr g3)⟩)))))
    have mem:∀ d∈ds.take r++[y]++ds.drop (r+1),d∈ds\/d=y:=λd hd=>by
     rcases List.mem_append.mp hd with q | q
     ·rcases List.mem_append.mp q with q | q
      ·exact .inl (List.mem_of_mem_take q)
      ·exact .inr (List.mem_singleton.mp q)
     ·exact .inl (List.mem_of_mem_drop q)
    refine ⟨Plns.of λd hd=>?_,?_,?_⟩
    ·rcases mem d hd with q | rfl
     ·exact (pl.mem d q).up
     ·exact hy.pl
    ·have:dps (ds.take r++[y]++ds.drop (r+1))<=dps ds+1:=a17 λd hd=>by
      rcases mem d hd with q | rfl
      ·have:=N2 q;omega
      ·have:=hy.dp;omega
     show dps _+1<=_;omega
    ·have:=hy.sz
     show szs _+3<=_
     rw [G6,G6]
     show szs _+(sz y+2+0)+szs _+3<=_
     omega
   ·rw [decide_eq_false hz2,if_neg Bool.false_ne_true]
    exact (a89 (f1.less (by omega)) pl (by omega) k).mono λd' S' h=>⟨h.1,h.2.1,g1.tr h.2.2⟩
 | _,.scr _,_,_,_,pl,_,_,_,_,_=>pl.elim
 | _,.ref _,_,_,_,pl,_,_,_,_,_=>pl.elim
end L3.K12
namespace L3.K12
open PySem PySem.Spec PyProof.Rows L2 L3.Nt
noncomputable def isW:D->Bool
 | .int _=>true
 | _=>false
noncomputable def a6g:D->Bool
 | .bl _=>true
 | _=>false
noncomputable def whB (lo hi:Int):D->Bool
 | .int i=>decide (lo<=i)&&decide (i<=hi)
 | _=>false
noncomputable def A0 (n:Nat):D->Bool
 | .tup ds=>decide (ds.length=n)
 | _=>false
noncomputable def mkB (m:Nat):D->Bool
 | .non=>true
 | d=>whB 0 ((m:Int)-1) d
noncomputable def els:D->List D
 | .tup ds=>ds
 | _=>[]
noncomputable def two (f g:D->Bool):D->Bool
 | .tup [a,b]=>f a&&g b
 | _=>false
noncomputable def X1:List Str:=["out","ask","close","look","holds"]
noncomputable def Y3:List Str:=["right","down"]
noncomputable def trB (size:Nat):D->Bool
 | .tup ds=>decide (ds.length<size)&&ds.all (inW Y3)
 | _=>false
noncomputable def R3 (m:Nat):D->Bool:=two (mkB m) a6g
noncomputable def D4 (size:Nat):D->Bool:=two (trB size) (inW X1)
noncomputable def c1h (n:Nat) (f:D->Bool) (d:D):Bool:=A0 n d&&(els d).all f
noncomputable def b6m (size m:Nat):D->Bool:=two (c1h (tri size) (R3 m)) (c1h m (D4 size))
theorem a5n:∀ w∈X1,Asc w:=by unfold X1 Asc;decide +kernel
theorem a58:∀ w∈Y3,Asc w:=by unfold Y3 Asc;decide +kernel
theorem a4z {ds:List D} {p:D->Bool} {f:D->M D} {S:Sto} (hl:ds.length<sizeLine) (hf:∀ d∈ds,f d S=.ok (.bl (p d)) S):j6 (M9 ds) (λ_=>ret true) f (ds.length+1) 0 [] S=.ok ((ds.map p).map D.bl) S:=by
 have c:=u0 (l:=ds) (h:=id) (g:=λd=>D.bl (p d)) (p:=λ_=>true) (t:=λ_=>ret true) (f:=f) (S:=S) hl (λ_ _=>rfl) (λd hd _=>hf d hd)
 rw [List.map_id,List.filter_eq_self.mpr (λ_ _=>rfl)] at c
 rw [c,List.map_map];rfl
theorem T5 {m:Nat} {d:D} (h:A0 m d=true):∃ ds,d=.tup ds/\ds.length=m:=by
 cases d with
 | tup ds=>exact ⟨ds,rfl,of_decide_eq_true h⟩
 | _=>cases h
theorem all_map (ds:List D) (p:D->Bool):(ds.map p).all id=ds.all p:=by rw [List.all_map];rfl
section
variable {n N:Nat} {d:D} (h:Any n N d) (hn:n<=40) (k:Nat) (S:Sto)
include h
theorem b9l:rn (k+1) c47 [d] S=.ok (.bl (isW d)) S:=by
 have pl:=h.pl
 rw [rn,b7 (fd:=b30) rfl,b7n]
 cases d <;> first | exact pl.elim | rfl
omit h in
theorem T3 (a b:Nat):decide ((a:Int)=(b:Int))=decide (a=b):=by
 by_cases q:a=b
 ·rw [decide_eq_true q,decide_eq_true (by omega)]
 ·rw [decide_eq_false q,decide_eq_false (by omega)]
theorem W3 (m:Nat):rn (k+1) c6t [d,.int (m:Int)] S=.ok (.bl (A0 m d)) S:=by
 have pl:=h.pl
 refine i6 ?_
 rw [rn,b7 (fd:=c2z) rfl,c5a]
 cases d with
 | tup ds=>exact Ok.eq (a:=.bl true) rfl<|Ok.eq (a:=true) rfl<|Ok.pos rfl<|Ok.eq (d0u)<|Ok.eq (a1l _ _ S)<|Ok.ret ⟨congrArg D.bl (T3 ..),rfl⟩
 | scr _=>exact pl.elim
 | ref _=>exact pl.elim
 | _=>exact ⟨_,_,rfl,rfl,rfl⟩
theorem c26 (m:Nat):rn (k+2) c2b [.int (m:Int),d] S=.ok (.bl (mkB m d)) S:=by
 have pl:=h.pl
 have w:=b9l h k S
 refine i6 ?_
 rw [rn,b7 (fd:=b6v) rfl,b8p]
 cases d with
 | non=>exact ⟨_,_,rfl,rfl,rfl⟩
 | int i=>
  refine Ok.eq (a:=.bl false) rfl<|Ok.eq (a:=false) rfl<|Ok.neg (by decide)<|Ok.eq w<|Ok.eq (a:=true) rfl<|Ok.pos rfl<|Ok.eq (c1q 0 i S)<|Ok.eq (d4 _ S) ?_
  by_cases q:0<=i
  ·rw [decide_eq_true q]
   refine Ok.pos rfl<|Ok.eq (a3a i m S)<|Ok.ret ⟨?_,rfl⟩
   show _=D.bl (decide (0<=i)&&decide (i<=(m:Int)-1))
   rw [decide_eq_true q,Bool.true_and]
   congr 1
   by_cases z:i<(m:Int)
   ·rw [decide_eq_true z,decide_eq_true (by omega)]
   ·rw [decide_eq_false z,decide_eq_false (by omega)]
  ·rw [decide_eq_false q]
   exact Ok.neg (by decide)<|Ok.ret ⟨by show _=D.bl (decide (0<=i)&&decide (i<=(m:Int)-1));rw [decide_eq_false q];rfl,rfl⟩
 | scr _=>exact pl.elim
 | ref _=>exact pl.elim
 | _=>exact Ok.eq (a:=.bl false) rfl<|Ok.eq (a:=false) rfl<|Ok.neg (by decide)<|Ok.eq w<|Ok.eq (a:=false) rfl<|Ok.neg (by decide)<|Ok.ret ⟨rfl,rfl⟩
end
theorem m3 {n N:Nat} {ds:List D} (h:Any n N (.tup ds)) {d:D} (hd:d∈ds):Any n N d:=by
 refine ⟨Plns.mem h.pl d hd,?_,?_⟩
 ·have:=N2 hd
  have:dps ds+1<=3+n:=h.dp
  omega
 ·have z:szs ds+3<=N:=h.sz
  obtain ⟨i,hi,e⟩:=List.getElem_of_mem hd
  have:=b3l (xs:=ds) (i:=i) (d:=d) (by rw [List.getElem?_eq_getElem hi,e])
  omega
theorem Q4 {f g:D->Bool} {d:D} (h:A0 2 d=false):two f g d=false:=by
 cases d with
 | tup ds=>
  match ds with
  | [a,b]=>cases h
  | []=>rfl
  | [_]=>rfl
  | _ :: _ :: _ :: _=>rfl
 | _=>rfl
theorem G8 {d:D} (h:A0 2 d=true):∃ a b,d=.tup [a,b]:=by
 obtain ⟨ds,rfl,hl⟩:=T5 h
 match ds,hl with
 | [a,b],_=>exact ⟨a,b,rfl⟩
theorem B7 (b:Bool) (S:Sto):d9 (.bl b) S=.ok b S:=rfl
section
variable {n N:Nat} {d:D} (h:Any n N d) (hn:n<=40) (hN:N<=10000000) (k:Nat) (S:Sto)
include h hn hN
theorem b65 (size:Nat):rn (k+1) c6g [.int (size:Int),d] S=.ok (.bl (trB size d)) S:=by
 have pl:=h.pl
 refine i6 ?_
 rw [rn,b7 (fd:=b35) rfl,b9d]
 cases d with
 | tup ds=>
  have lt:m7 (.tup ds) S=.ok (.int (ds.length:Int)) S:=p0 _ S
  refine Ok.eq (a:=.bl true) rfl<|Ok.eq (a:=true) rfl<|Ok.pos rfl<|Ok.eq lt<|Ok.eq (a3a _ _ S)<|Ok.eq (B7 _ S) ?_
  have ed:decide ((ds.length:Int)<(size:Int))=decide (ds.length<size):=by rw [decide_eq_decide];omega
  show Ok _ _ λd' S'=>d'=D.bl (decide (ds.length<size)&&ds.all (inW Y3))/\S'=S
  rw [ed]
  have ln:=h.len
  have c1:=a4z (ds:=ds) (p:=inW Y3) (f:=λd1=>bind (b8 .In d1 (.tup [(.str "right"),(.str "down")])) λx3=>ret x3) (S:=S) (by rw [sizeLine_eq];omega) (λd hd=>(a8 (a69 (m3 h hd) hn a58 S)).trans rfl)
  cases decide (ds.length<size) with
  | false=>exact Ok.neg (by decide)<|Ok.ret ⟨rfl,rfl⟩
  | true=>
   refine Ok.pos rfl<|nx_bind<|Ok.eq (A5 _ S)<|Ok.of c1<|Ok.eq (a7f _ S) ?_
   rw [all_map]
   exact Ok.ret ⟨rfl,rfl⟩
 | scr _=>exact pl.elim
 | ref _=>exact pl.elim
 | _=>exact ⟨_,_,rfl,rfl,rfl⟩
theorem d0g (m:Nat):rn (k+3) b6s [.int (m:Int),d] S=.ok (.bl (R3 m d)) S:=by
 have t:=W3 h (k+1) S 2
 refine i6 ?_
 rw [rn,b7 (fd:=b2k) rfl,b69]
 refine Ok.eq t<|Ok.eq (B7 _ S) ?_
 cases z:A0 2 d with
 | false=>exact Ok.neg (by decide)<|Ok.ret ⟨congrArg D.bl (Q4 z).symm,rfl⟩
 | true=>
  obtain ⟨a,b,rfl⟩:=G8 z
  have ha:=m3 h (d:=a) (by simp)
  have hb:=(m3 h (d:=b) (by simp)).pl
  refine Ok.pos rfl<|Ok.eq (a:=a) (B4 (i:=0) S rfl)<|Ok.eq (c26 ha k S m)<|Ok.eq (B7 _ S) ?_
  show Ok _ _ λd' S'=>d'=D.bl (mkB m a&&a6g b)/\S'=S
  cases mkB m a with
  | false=>exact Ok.neg (by decide)<|Ok.ret ⟨rfl,rfl⟩
  | true=>
   have e:z0 "bool" (λ_=>false) b S=.ok (.bl (a6g b)) S:=by cases b <;> first | exact hb.elim | rfl
   exact Ok.pos rfl<|Ok.eq (a:=b) (B4 (i:=1) S rfl)<|Ok.eq e<|Ok.ret ⟨rfl,rfl⟩
theorem c5b (size:Nat):rn (k+2) c13 [.int (size:Int),d] S=.ok (.bl (D4 size d)) S:=by
 have t:=W3 h k S 2
 refine i6 ?_
 rw [rn,b7 (fd:=c2i) rfl,c5s]
 refine Ok.eq t<|Ok.eq (B7 _ S) ?_
 cases z:A0 2 d with
 | false=>exact Ok.neg (by decide)<|Ok.ret ⟨congrArg D.bl (Q4 z).symm,rfl⟩
 | true=>
  obtain ⟨a,b,rfl⟩:=G8 z
  have ha:=m3 h (d:=a) (by simp)
  have hb:=m3 h (d:=b) (by simp)
  refine Ok.pos rfl<|Ok.eq (a:=a) (B4 (i:=0) S rfl)<|Ok.eq (b65 ha hn hN k S size)<|Ok.eq (B7 _ S) ?_
  show Ok _ _ λd' S'=>d'=D.bl (trB size a&&inW X1 b)/\S'=S
  cases trB size a with
  | false=>exact Ok.neg (by decide)<|Ok.ret ⟨rfl,rfl⟩
  | true=>exact Ok.pos rfl<|Ok.eq (a:=b) (B4 (i:=1) S rfl)<|Ok.eq (a69 hb hn a5n S)<|Ok.ret ⟨rfl,rfl⟩
theorem a8q {size m:Nat} (h5:size<=5):rn (k+4) c97 [.int (size:Int),.int (m:Int),d] S=.ok (.bl (b6m size m d)) S:=by
 have t:=W3 h (k+2) S 2
 refine i6 ?_
 rw [rn,b7 (fd:=Aj) rfl,c5m,c4w]
 refine Ok.first<|Ok.cg (d2a ..)<|Ok.eq t<|Ok.eq (B7 _ S) ?_
 cases z:A0 2 d with
 | false=>exact Ok.pos rfl<|Ok.ret ⟨congrArg D.bl (Q4 z).symm,rfl⟩
 | true=>
  obtain ⟨b,hd,rfl⟩:=G8 z
  have hb:=m3 h (d:=b) (by simp)
  have hh:=m3 h (d:=hd) (by simp)
  refine Ok.neg (by decide)<|Ok.nxt<|Ok.cg (d1t ..)<|Ok.eq (a:=.nx [some (.int (size:Int)),some (.int (m:Int)),some (.tup [b,hd]),some b,some hd]) rfl ?_
  refine Ok.nxt<|Ok.cg (d3j ..)<|Ok.eq (a3y size (by omega) (k+2) S)<|Ok.eq (W3 hb (k+2) S (tri size))<|Ok.eq (B7 _ S) ?_
  show Ok _ _ λd' S'=>d'=D.bl ((A0 (tri size) b&&(els b).all (R3 m))&&(A0 m hd&&(els hd).all (D4 size)))/\S'=S
  cases tb:A0 (tri size) b with
  | false=>exact Ok.pos rfl<|Ok.ret ⟨by simp,rfl⟩
  | true=>
  refine Ok.neg (by decide)<|Ok.eq (W3 hh (k+2) S m)<|Ok.eq (B7 _ S) ?_
  cases th:A0 m hd with
  | false=>exact Ok.pos rfl<|Ok.ret ⟨by simp,rfl⟩
  | true=>
  obtain ⟨bs,rfl,lb⟩:=T5 tb
  obtain ⟨hs,rfl,lh⟩:=T5 th
  have n1:=hb.len
  have n2:=hh.len
  have c1:=a4z (ds:=bs) (p:=R3 m) (f:=λd1=>bind (rn (k+3) b6s [.int (m:Int),d1]) λx3=>ret x3) (S:=S) (by rw [sizeLine_eq];omega) (λd hd=>(a8 (d0g (m3 hb hd) hn hN k S m)).trans rfl)
  have c2:=a4z (ds:=hs) (p:=D4 size) (f:=λd1=>bind (rn (k+3) c13 [.int (size:Int),d1]) λx3=>ret x3) (S:=S) (by rw [sizeLine_eq];omega) (λd hd=>(a8 (c5b (m3 hh hd) hn hN (k+1) S size)).trans rfl)
  refine Ok.neg (by decide)<|Ok.nxt<|Ok.cg (d15 ..)<|nx_bind<|Ok.eq (A5 _ S)<|Ok.of c1<|Ok.eq (a7f _ S)<|Ok.eq (B7 _ S) ?_
  show Ok _ _ λd' S'=>d'=D.bl ((true&&bs.all (R3 m))&&(true&&hs.all (D4 size)))/\S'=S
  rw [all_map]
  cases bs.all (R3 m) with
  | false=>exact Ok.neg (by decide)<|Ok.ret ⟨rfl,rfl⟩
  | true=>
   refine Ok.pos rfl<|nx_bind<|Ok.eq (A5 _ S)<|Ok.of c2<|Ok.eq (a7f _ S) ?_
   rw [all_map]
   exact Ok.ret ⟨by simp,rfl⟩
end
theorem a0j {ds:List D} {tg:D->L3.Env->Option L3.Env} {body:L3.Env->M Fl} {p:D->Bool} {I:L3.Env->Prop} {S:Sto} (hb:∀ d∈ds,∀ ρ,I ρ->∃ ρ1,tg d ρ=some ρ1/\Ok (body ρ1) S λfl S'=>S'=S/\((p d=true/\∃ ρ',fl=.nx ρ'/\I ρ')\/(p d=false/\fl=.rt (.bl false)))) {ρ:L3.Env} (h:I ρ):Ok (p9 (M9 ds) tg body (ds.length+1) 0 ρ) S λfl S'=>S'=S/\((ds.all p=true/\∃ ρ',fl=.nx ρ'/\I ρ')\/(ds.all p=false/\fl=.rt (.bl false))):=by
 refine (Ok.for_ (n:=ds.length) (λi ρ S'=>S'=S/\I ρ/\∀ j (hj:j<ds.length),j<i->p ds[j]=true) (λ_ _=>False) (λd S'=>S'=S/\d=.bl false/\ds.all p=false) (λρ S' _=>by show some ds[ds.length]?=some none;simp) ?_ ds.length 0 _ _ (by omega) ⟨rfl,h,λj _ hj=>by omega⟩).mono ?_
 ·rintro i ρ S' hi ⟨hS,hI,hj⟩
  subst hS
  obtain ⟨ρ1,e1,e2⟩:=hb ds[i] (List.getElem_mem hi) ρ hI
  refine ⟨ds[i],ρ1,by show some ds[i]?=_;rw [List.getElem?_eq_getElem hi],e1,e2.mono ?_⟩
  rintro fl S2 ⟨hS,⟨pd,ρ',rfl,hI'⟩ | ⟨pd,rfl⟩⟩
  ·refine ⟨hS,hI',λj hj' hji=>?_⟩
   rcases Nat.lt_succ_iff_lt_or_eq.mp hji with y | y
   ·exact hj j hj' y
   ·subst y;exact pd
  ·exact ⟨hS,rfl,List.all_eq_false.mpr ⟨_,List.getElem_mem hi,by rw [pd];decide⟩⟩
 ·rintro fl S' hf
  cases fl with
  | nx ρ'=>
   rcases hf with ⟨hS,hI,hj⟩ | hf
   ·refine ⟨hS,.inl ⟨List.all_eq_true.mpr λx hx=>?_,_,rfl,hI⟩⟩
    obtain ⟨j,hj',rfl⟩:=List.getElem_of_mem hx
    exact hj j hj' hj'
   ·exact hf.elim
  | rt d=>exact ⟨hf.1,.inr ⟨hf.2.2,by rw [hf.2.1]⟩⟩
  | bk ρ=>exact hf.elim
  | ct ρ=>exact hf.elim
theorem a1t {j N:Nat} {d:D} (h:Any j N d) (hj:j<=40) {ws:List Str} (hw:∀ w∈ws,Asc w) (S:Sto):b8 .NotIn d (.lst (ws.map D.str)) S=.ok (.bl (!inW ws d)) S:=by
 show inD true d (.lst (ws.map D.str)) S=_
 unfold inD
 have e:i9 64 S (.lst (ws.map D.str))=some (.list (ws.map PyData.str)):=by
  show (k7 (i9 63 S) (ws.map D.str)).map PyData.list=_
  rw [N7 62 S ws];rfl
 rw [V6 S d 64 h.pl (by have:=h.dp;omega),e]
 show a6l true (py d) (ws.map PyData.str) S=_
 unfold a6l
 have hd:=T6 d
 rw [if_pos ⟨a37 d h.pl,V4 ws hw,by have:=h.dp;omega⟩,c1j h.pl]
 rfl
theorem b55 {f g:D->Bool} {d:D} (h:two f g d=true):A0 2 d=true:=by
 cases z:A0 2 d with
 | true=>rfl
 | false=>rw [Q4 z] at h;cases h
noncomputable def a9t:D->Bool
 | .str _=>true
 | _=>false
theorem a88 {j:Nat} {d:D} (h:Pln j d) (S:Sto):z0 "str" (λ_=>false) d S=.ok (.bl (a9t d)) S:=by cases d <;> first | exact h.elim | rfl
theorem c34 {j:Nat} {d:D} (h:Pln j d) (S:Sto):z0 "bool" (λ_=>false) d S=.ok (.bl (a6g d)) S:=by cases d <;> first | exact h.elim | rfl
noncomputable def b39:D->Bool
 | .tup _=>true
 | _=>false
theorem a1s {j:Nat} {d:D} (h:Pln j d) (S:Sto):z0 "tuple" (λ_=>false) d S=.ok (.bl (b39 d)) S:=by cases d <;> first | exact h.elim | rfl
theorem a9v {ws:List Str} {d:D} (h:a9t d=false):inW ws d=false:=by cases d <;> first | rfl | cases h
section
variable {n N:Nat} {d:D} (h:Any n N d) (hn:n<=40) (hN:N<=8000000) (k:Nat) (S:Sto)
include h
theorem c36 (m:Nat):rn (k+1) c8h [d,.int (m:Int)] S=.ok (.bl (whB 0 ((m:Int)-1) d)) S:=by
 have pl:=h.pl
 refine i6 ?_
 rw [rn,b7 (fd:=c44) rfl,c43]
 cases d with
 | int i=>
  refine Ok.eq (a:=.bl true) rfl<|Ok.eq (a:=true) rfl<|Ok.pos rfl<|Ok.eq (a:=.bl false) rfl<|Ok.eq (a:=false) rfl<|Ok.eq (a:=true) rfl<|Ok.pos rfl<|Ok.eq (c1q 0 i S)<|Ok.eq (d4 _ S) ?_
  show Ok _ _ λd' S'=>d'=D.bl (decide (0<=i)&&decide (i<=(m:Int)-1))/\S'=S
  cases decide (0<=i) with
  | true=>
   refine Ok.pos rfl<|Ok.eq (a3a i m S)<|Ok.ret ⟨?_,rfl⟩
   rw [Bool.true_and]
   congr 1
   rw [decide_eq_decide];omega
  | false=>exact Ok.neg (by decide)<|Ok.ret ⟨rfl,rfl⟩
 | bl b=>exact ⟨_,_,rfl,rfl,rfl⟩
 | scr _=>exact pl.elim
 | ref _=>exact pl.elim
 | _=>exact ⟨_,_,rfl,rfl,rfl⟩
noncomputable def eN (size m:Nat) (t b hd:D) (o5 o6 o7 o8 o9 o10:Option D):L3.Env:=[some (.int (size:Int)),some (.int (m:Int)),some t,some b,some hd,o5,o6,o7,o8,o9,o10]
def InN (size m:Nat) (t b hd:D) (ρ:L3.Env):Prop:=∃ o5 o6 o7 o8 o9 o10,ρ=eN size m t b hd o5 o6 o7 o8 o9 o10
include hn hN
theorem b42 {size m:Nat} (h5:size<=5):rn (k+2) c4b [.int (size:Int),.int (m:Int),d] S=.ok (.bl (b6m size m d)) S:=by
 have pl:=h.pl
 refine i6 ?_
 rw [rn,b7 (fd:=Af) rfl,c07,b77]
 refine Ok.first<|Ok.cg (c89 ..)<|Ok.eq (a1s pl S)<|Ok.eq (B7 _ S) ?_
 cases d with
 | scr _=>exact pl.elim
 | ref _=>exact pl.elim
 | tup ds=>
  refine Ok.neg Bool.false_ne_true<|Ok.eq (p0 _ S)<|Ok.eq (a91 _ _ S)<|Ok.eq (d4 _ S)<|Ok.ite (λz=>Ok.ret ⟨?_,rfl⟩) λz=>?_
  ·have nz:A0 2 (.tup ds)=false:=by
    show decide (ds.length=2)=false
    apply decide_eq_false
    intro e
    rw [e] at z;exact absurd z (by decide)
   exact congrArg D.bl (Q4 nz).symm
  ·have z2:A0 2 (.tup ds)=true:=by
    show decide (ds.length=2)=true
    apply decide_eq_true
    have:((ds.length:Int)=2):=by simpa using z
    omega
   obtain ⟨b,hd,e⟩:=G8 z2
   cases e
   have hb:=m3 h (d:=b) (by simp)
   have hh:=m3 h (d:=hd) (by simp)
   show Ok _ _ λd' S'=>d'=D.bl ((A0 (tri size) b&&(els b).all (R3 m))&&(A0 m hd&&(els hd).all (D4 size)))/\S'=S
   refine Ok.nxt<|Ok.cg (c6u ..)<|Ok.eq (a:=.nx (eN size m (.tup [b,hd]) b hd none none none none none none)) rfl ?_
   refine Ok.nxt<|Ok.cg (c88 ..)<|Ok.eq (a1s hb.pl S)<|Ok.eq (B7 _ S) ?_
   cases tb:b39 b with
   | false=>
    have:A0 (tri size) b=false:=by cases b <;> first | rfl | cases tb
    exact Ok.pos rfl<|Ok.ret ⟨by rw [this];rfl,rfl⟩
   | true=>
   obtain ⟨bs,rfl⟩:∃ bs,b=.tup bs:=by cases b <;> first | exact ⟨_,rfl⟩ | cases tb
   have fd:K2 (.int ((size:Int) * ((size:Int)+1))) (.int 2) S=.ok (.int (tri size:Int)) S:=by
    have:size=0\/size=1\/size=2\/size=3\/size=4\/size=5:=by omega
    rcases this with rfl | rfl | rfl | rfl | rfl | rfl <;> kernel_rfl
   refine Ok.neg (by decide)<|Ok.eq (p0 _ S)<|Ok.eq (S1:=S) (a:=.int ((size:Int)+1)) rfl<|Ok.eq (T9 (.inl ⟨by omega,by omega⟩) S)<|Ok.eq fd<|Ok.eq (a91 _ _ S)<|Ok.eq (d4 _ S) ?_
   rw [T3]
   show Ok _ _ λd' S'=>d'=D.bl ((decide (bs.length=tri size)&&bs.all (R3 m))&&(A0 m hd&&(els hd).all (D4 size)))/\S'=S
   cases decide (bs.length=tri size) with
   | false=>exact Ok.pos rfl<|Ok.ret ⟨rfl,rfl⟩
   | true=>
   refine Ok.neg (by decide)<|Ok.nxt<|Ok.cg (c90 ..)<|Ok.eq (a1s hh.pl S)<|Ok.eq (B7 _ S) ?_
   cases th:b39 hd with
   | false=>
    have:A0 m hd=false:=by cases hd <;> first | rfl | cases th
    exact Ok.pos rfl<|Ok.ret ⟨by rw [this];simp,rfl⟩
   | true=>
   obtain ⟨hs,rfl⟩:∃ bs,hd=.tup bs:=by cases hd <;> first | exact ⟨_,rfl⟩ | cases th
   refine Ok.neg (by decide)<|Ok.eq (p0 _ S)<|Ok.eq (a91 _ _ S)<|Ok.eq (d4 _ S) ?_
   rw [T3]
   show Ok _ _ λd' S'=>d'=D.bl ((true&&bs.all (R3 m))&&(decide (hs.length=m)&&hs.all (D4 size)))/\S'=S
   cases decide (hs.length=m) with
   | false=>exact Ok.pos rfl<|Ok.ret ⟨by simp,rfl⟩
   | true=>
   have n1:=hb.len
   have n2:=hh.len
   rw [Bool.true_and,Bool.true_and]
   refine Ok.neg (by decide)<|Ok.nxt<|Ok.cg (c77 ..)<|Ok.eq (cat_tup (by rw [sizeLine_eq];omega))<|Ok.eq (A5 _ S) ?_
   have l4:=a0j (ds:=bs++hs) (tg:=λd ρ=>some (ρ.set 5 (some d))) (body:=a0v (rn (k+1))) (p:=A0 2) (I:=InN size m (.tup [.tup bs,.tup hs]) (.tup bs) (.tup hs)) (S:=S) (λx hx ρ ⟨o5,o6,o7,o8,o9,o10,e⟩=>by
    subst e
    refine ⟨_,rfl,?_⟩
    have hx':Any n N x:=(List.mem_append.mp hx).elim (m3 hb) (m3 hh)
    unfold a0v
    rw [a5h]
    refine Ok.first<|Ok.cg (b16 ..)<|Ok.eq (a1s hx'.pl S)<|Ok.eq (B7 _ S) ?_
    cases tx:b39 x with
    | false=>exact Ok.pos rfl<|Ok.ret ⟨rfl,.inr ⟨(by cases x <;> first | rfl | cases tx),rfl⟩⟩
    | true=>
     obtain ⟨xs,rfl⟩:∃ bs,x=.tup bs:=by cases x <;> first | exact ⟨_,rfl⟩ | cases tx
     refine Ok.neg (by decide)<|Ok.eq (p0 _ S)<|Ok.eq (a91 _ _ S)<|Ok.eq (d4 _ S) ?_
     rw [show decide ((xs.length:Int)=2)=decide (xs.length=2) from T3 xs.length 2]
     show Ok _ _ λfl S'=>S'=S/\((decide (xs.length=2)=true/\_)\/(decide (xs.length=2)=false/\_))
     cases decide (xs.length=2) with
     | false=>exact Ok.pos rfl<|Ok.ret ⟨rfl,.inr ⟨rfl,rfl⟩⟩
     | true=>exact Ok.neg (by decide)<|Ok.ret ⟨rfl,.inl ⟨rfl,_,rfl,_,_,_,_,_,_,rfl⟩⟩) ⟨none,none,none,none,none,none,rfl⟩
   refine Ok.bind (l4.mono ?_)
   rintro fl S' ⟨hS,⟨a2,ρ',rfl,o5,o6,o7,o8,o9,o10,rfl⟩ | ⟨a2,rfl⟩⟩
   rotate_left
   ·refine Ok.ret ⟨?_,hS⟩
    obtain ⟨x,hx,px⟩:=List.all_eq_false.mp a2
    have px:A0 2 x=false:=by simpa using px
    rcases List.mem_append.mp hx with hx | hx
    ·have:bs.all (R3 m)=false:=List.all_eq_false.mpr ⟨x,hx,by rw [show R3 m x=false from Q4 px];decide⟩
     rw [this];rfl
    ·have:hs.all (D4 size)=false:=List.all_eq_false.mpr ⟨x,hx,by rw [show D4 size x=false from Q4 px];decide⟩
     rw [this];simp
   subst hS
   have a2:=List.all_eq_true.mp a2
   refine Ok.nxt<|Ok.cg (c9b ..)<|Ok.eq (A5 _ S') ?_
   have l5:=a0j (ds:=bs) (tg:=k5 [6,7]) (body:=a04 (rn (k+1))) (p:=R3 m) (I:=InN size m (.tup [.tup bs,.tup hs]) (.tup bs) (.tup hs)) (S:=S') (λx hx ρ ⟨o5,o6,o7,o8,o9,o10,e⟩=>by
    subst e
    obtain ⟨u,v,rfl⟩:=G8 (a2 x (List.mem_append_left _ hx))
    refine ⟨_,rfl,?_⟩
    have hx':=m3 hb hx
    have hu:=m3 hx' (d:=u) (by simp)
    have hv:=m3 hx' (d:=v) (by simp)
    unfold a04
    rw [a5f]
    refine Ok.first<|Ok.cg (b0z ..)<|Ok.eq (c34 hv.pl S')<|Ok.eq (B7 _ S') ?_
    show Ok _ _ λfl S''=>S''=S'/\(((mkB m u&&a6g v)=true/\_)\/((mkB m u&&a6g v)=false/\_))
    cases a6g v with
    | false=>exact Ok.pos rfl<|Ok.ret ⟨rfl,.inr ⟨by simp,rfl⟩⟩
    | true=>
     refine Ok.neg (by decide) ?_
     by_cases q:u=.non
     ·subst q
      exact Ok.eq (a:=.bl false) rfl<|Ok.eq (d4 _ S')<|Ok.neg (by decide)<|Ok.ret ⟨rfl,.inl ⟨rfl,_,rfl,_,_,_,_,_,_,rfl⟩⟩
     ·have e:mkB m u=whB 0 ((m:Int)-1) u:=by cases u <;> first | exact absurd rfl q | rfl
      have e0:b8 .IsNot u .non S'=.ok (.bl true) S':=by
       have pu:=hu.pl
       cases u <;> first | exact absurd rfl q | exact pu.elim | rfl
      rw [e]
      refine Ok.eq e0<|Ok.eq (d4 _ S')<|Ok.pos rfl<|Ok.eq (c36 hu k S' m)<|Ok.eq (B7 _ S') ?_
      cases whB 0 ((m:Int)-1) u with
      | false=>exact Ok.pos rfl<|Ok.ret ⟨rfl,.inr ⟨rfl,rfl⟩⟩
      | true=>exact Ok.neg (by decide)<|Ok.ret ⟨rfl,.inl ⟨rfl,_,rfl,_,_,_,_,_,_,rfl⟩⟩) ⟨o5,o6,o7,o8,o9,o10,rfl⟩
   refine Ok.bind (l5.mono ?_)
   rintro fl S2 ⟨hS,⟨ab,ρ',rfl,o5,o6,o7,o8,o9,o10,rfl⟩ | ⟨ab,rfl⟩⟩
   rotate_left
   ·exact Ok.ret ⟨by rw [ab];rfl,hS⟩
   subst hS
   rw [ab,Bool.true_and]
   refine Ok.nxt<|Ok.cg (d1b ..)<|Ok.eq (A5 _ S2) ?_
   have l6:=a0j (ds:=hs) (tg:=k5 [8,9]) (body:=a02 (rn (k+1))) (p:=D4 size) (I:=InN size m (.tup [.tup bs,.tup hs]) (.tup bs) (.tup hs)) (S:=S2) (λx hx ρ ⟨o5,o6,o7,o8,o9,o10,e⟩=>by
    subst e
    obtain ⟨u,v,rfl⟩:=G8 (a2 x (List.mem_append_right _ hx))
    refine ⟨_,rfl,?_⟩
    have hx':=m3 hh hx
    have hu:=m3 hx' (d:=u) (by simp)
    have hv:=m3 hx' (d:=v) (by simp)
    unfold a02
    rw [a5k]
    show Ok _ _ λfl S''=>S''=S2/\(((trB size u&&inW X1 v)=true/\_)\/((trB size u&&inW X1 v)=false/\_))
    refine Ok.first<|Ok.cg (b1y ..)<|Ok.eq (a1s hu.pl S2)<|Ok.eq (B7 _ S2) ?_
    cases tx:b39 u with
    | false=>
     have:trB size u=false:=by cases u <;> first | rfl | cases tx
     exact Ok.pos rfl<|Ok.ret ⟨rfl,.inr ⟨by rw [this];rfl,rfl⟩⟩
    | true=>
    obtain ⟨xs,rfl⟩:∃ bs,u=.tup bs:=by cases u <;> first | exact ⟨_,rfl⟩ | cases tx
    refine Ok.neg (by decide)<|Ok.eq (p0 _ S2)<|Ok.eq (c1p _ _ S2)<|Ok.eq (d4 _ S2) ?_
    show Ok _ _ λfl S''=>S''=S2/\((((decide (xs.length<size)&&xs.all (inW Y3))&&inW X1 v)=true/\_)\/(((decide (xs.length<size)&&xs.all (inW Y3))&&inW X1 v)=false/\_))
    by_cases ql:xs.length<size
    rotate_left
    ·rw [decide_eq_true (show (size:Int)<=(xs.length:Int) by omega),decide_eq_false ql]
     exact Ok.pos rfl<|Ok.ret ⟨rfl,.inr ⟨rfl,rfl⟩⟩
    rw [decide_eq_false (show ¬ (size:Int)<=(xs.length:Int) by omega),decide_eq_true ql,Bool.true_and]
    refine Ok.neg (by decide)<|Ok.eq (a88 hv.pl S2)<|Ok.eq (B7 _ S2) ?_
    cases sv:a9t v with
    | false=>exact Ok.pos rfl<|Ok.ret ⟨rfl,.inr ⟨by rw [a9v sv];simp,rfl⟩⟩
    | true=>
    refine Ok.neg (by decide)<|Ok.nxt<|Ok.cg (b0w ..)<|Ok.eq (a1t hv hn a5n S2)<|Ok.eq (d4 _ S2) ?_
    cases inW X1 v with
    | false=>exact Ok.pos rfl<|Ok.ret ⟨rfl,.inr ⟨by simp,rfl⟩⟩
    | true=>
    rw [Bool.and_true]
    refine Ok.neg (by decide)<|Ok.nxt<|Ok.cg (b19 ..)<|Ok.eq (A5 _ S2) ?_
    have l7:=a0j (ds:=xs) (tg:=λd ρ=>some (ρ.set 10 (some d))) (body:=J6 (rn (k+1))) (p:=inW Y3) (I:=λρ=>∃ o10,ρ=eN size m (.tup [.tup bs,.tup hs]) (.tup bs) (.tup hs) o5 o6 o7 (some (.tup xs)) (some v) o10) (S:=S2) (λy hy ρ ⟨o10,e⟩=>by
     subst e
     refine ⟨_,rfl,?_⟩
     have hy':=m3 hu hy
     unfold J6
     rw [Z9]
     refine Ok.first<|Ok.cg (a2j ..)<|Ok.eq (a88 hy'.pl S2)<|Ok.eq (B7 _ S2) ?_
     cases sy:a9t y with
     | false=>exact Ok.pos rfl<|Ok.ret ⟨rfl,.inr ⟨a9v sy,rfl⟩⟩
     | true=>
     refine Ok.neg (by decide)<|Ok.eq (a1t hy' hn a58 S2)<|Ok.eq (d4 _ S2) ?_
     cases inW Y3 y with
     | false=>exact Ok.pos rfl<|Ok.ret ⟨rfl,.inr ⟨rfl,rfl⟩⟩
     | true=>exact Ok.neg (by decide)<|Ok.ret ⟨rfl,.inl ⟨rfl,_,rfl,_,rfl⟩⟩) ⟨o10,rfl⟩
    refine Ok.bind (l7.mono ?_)
    rintro fl S3 ⟨hS,⟨ax,ρ',rfl,o10,rfl⟩ | ⟨ax,rfl⟩⟩
    ·exact Ok.ret ⟨hS,.inl ⟨ax,_,rfl,_,_,_,_,_,_,rfl⟩⟩
    ·exact Ok.ret ⟨hS,.inr ⟨ax,rfl⟩⟩) ⟨o5,o6,o7,o8,o9,o10,rfl⟩
   refine Ok.bind (l6.mono ?_)
   rintro fl S3 ⟨hS,⟨ah,ρ',rfl,o5,o6,o7,o8,o9,o10,rfl⟩ | ⟨ah,rfl⟩⟩
   ·exact Ok.nxt<|Ok.cg (c93 ..)<|Ok.ret ⟨by rw [ah],hS⟩
   ·exact Ok.ret ⟨by rw [ah],hS⟩
 | _=>exact Ok.pos rfl<|Ok.ret ⟨rfl,rfl⟩
end
end L3.K12
namespace L3.Nt
open PySem PySem.Spec PyProof.Rows L2
theorem b0c:∀ ws:List W7,v9 (ws.map W7.d)=some (ws.map W7.s)
 | []=>rfl
 | w :: ws=>by
  show (v9 (ws.map W7.d)).map (w.s :: ·)=_
  rw [b0c ws];rfl
theorem b26 (x:W7):∀ ws:List W7,countIn (.str x.s) ((ws.map W7.s).map PyData.str)=((ws.countP λw=>decide (w=x):Nat):Int)
 | []=>rfl
 | w :: ws=>by
  have e:countIn (.str x.s) (((w :: ws).map W7.s).map PyData.str)=(if w=x then 1 else 0)+countIn (.str x.s) ((ws.map W7.s).map PyData.str):=by
   cases x <;> cases w <;> rfl
  rw [e,b26 x ws,List.countP_cons]
  by_cases q:w=x
  ·rw [if_pos q,if_pos (decide_eq_true q)];omega
  ·rw [if_neg q,if_neg (by rw [decide_eq_false q];decide)];omega
theorem a8n (x:W7) (ws:List W7) (S:Sto):countT (.tup (ws.map W7.d)) [.str x.s] S=.ok (.int ((ws.countP λw=>decide (w=x):Nat):Int)) S:=by
 show (match v9 (ws.map W7.d) with
  | some ys=>ret (D.int (countIn (.str x.s) (ys.map PyData.str)))
  | none=>bad) S=_
 rw [b0c]
 show R.ok (D.int (countIn (.str x.s) ((ws.map W7.s).map PyData.str))) S=_
 rw [b26]
theorem b4x {ws:List W7} (S:Sto):b8 .In (.str "holds") (.tup (ws.map W7.d)) S=.ok (.bl (ws.any λw=>decide (w=.holds))) S:=by
 have sm:Sml 0 60 (.str "holds"):=Sml.w
 rw [c1d,a69 (sm.any (by decide)) (by decide) (λw hw=>by
  obtain ⟨x,_,rfl⟩:=List.mem_map.mp hw
  exact x.asc) S]
 congr 2
 show decide (("holds" : Str)∈ws.map W7.s)=_
 induction ws with
 | nil=>rfl
 | cons w ws ih=>
  rw [List.any_cons,<- ih,List.map_cons]
  by_cases q:w=.holds
  ·rw [q];simp [W7.s]
  ·rw [decide_eq_false q,Bool.false_or]
   have ne:("holds" : Str)≠w.s:=by cases w <;> first | exact absurd rfl q | decide
   simp [ne]
end L3.Nt
namespace L3
open PySem PySem.Spec PyProof.Rows L2
theorem Xn.for_ {src:Src} {tg:D->L3.Env->Option L3.Env} {body:L3.Env->M Fl} {P:Nat->Sto->Prop} {i0:Nat} (I:Nat->L3.Env->Sto->Prop)
  (step:∀ i ρ S,i<i0->I i ρ S->∃ d ρ1,src i S=some (some d)/\tg d ρ=some ρ1/\Ok (body ρ1) S λfl S'=>∃ ρ',fl=.nx ρ'/\I (i+1) ρ' S')
  (stop:∀ ρ S,I i0 ρ S->∃ d ρ1,src i0 S=some (some d)/\tg d ρ=some ρ1/\Xn (body ρ1) S P) :
  ∀ (k i:Nat) (ρ:L3.Env) (S:Sto),i<=i0->i0<k+i->I i ρ S->Xn (p9 src tg body k i ρ) S P
 | 0,i,ρ,S,h1,h2,_=>by omega
 | k+1,i,ρ,S,h1,h2,h=>by
  have un:∀ d ρ1,src i S=some (some d)->tg d ρ=some ρ1->p9 src tg body (k+1) i ρ S=L3.bind (body ρ1) (λfl=>match fl with
    | .nx ρ2=>p9 src tg body k (i+1) ρ2
    | .ct ρ2=>p9 src tg body k (i+1) ρ2
    | .bk ρ2=>L3.ret (.nx ρ2)
    | .rt d=>L3.ret (.rt d)) S:=λd ρ1 e1 e2=>by
   conv=>lhs;unfold p9
   simp only [e1,e2]
   all_goals rfl
  by_cases z:i=i0
  ·subst z
   obtain ⟨d,ρ1,e1,e2,x⟩:=stop ρ S h
   exact Xn.cgS (un d ρ1 e1 e2) (Xn.bind x)
  ·obtain ⟨d,ρ1,e1,e2,x⟩:=step i ρ S (by omega) h
   refine Xn.cgS (un d ρ1 e1 e2) (Xn.ok (x.mono ?_))
   rintro _ S1 ⟨ρ',rfl,q⟩
   exact Xn.for_ I step stop k (i+1) ρ' S1 (by omega) (by omega) q
end L3
namespace L3.K12
open PySem PySem.Spec PyProof.Rows L2 L3.Nt
theorem O7 {ws:List W7} {ds:List D} {p:W7->Bool} (hl:ws.length<=6) (S:Sto) (hp:∀ w:W7,b8 .In w.d (.tup ds) S=.ok (.bl (p w)) S) (k:Nat):rn (k+1) c4d [.tup (ws.map W7.d),.tup ds] S=.ok (.bl (ws.any p)) S:=by
 refine i6 ?_
 rw [rn,b7 (fd:=b64) rfl,c0t]
 have c:=u0 (l:=ws) (h:=W7.d) (g:=λw=>D.bl (p w)) (p:=λ_=>true) (t:=λ_=>ret true) (f:=λd1=>bind (b8 .In d1 (.tup ds)) λx3=>ret x3) (S:=S) (b0j hl) (λ_ _=>rfl) (λa _ _=>by rw [a8 (hp a)];rfl)
 rw [List.filter_eq_self.mpr (λ_ _=>rfl)] at c
 refine nx_bind<|Ok.eq (A5 _ S) ?_
 simp only [List.length_map]
 refine Ok.of c ?_
 rw [show (ws.map λw=>D.bl (p w))=(ws.map p).map D.bl by rw [List.map_map];rfl]
 refine Ok.eq (L3.any_ok _ S)<|Ok.ret ⟨?_,rfl⟩
 rw [List.any_map];rfl
theorem b2w (w:W7) (S:Sto):b8 .In w.d (.tup [(.str "look"),(.str "holds"),(.str "right"),(.str "down")]) S=.ok (.bl (op4 w)) S:=by cases w <;> kernel_rfl
theorem b2q (w:W7) (S:Sto):b8 .In w.d (.tup [(.str "look"),(.str "holds"),(.str "down")]) S=.ok (.bl (cl3 w)) S:=by cases w <;> kernel_rfl
theorem b00 {ws:List W7} {w:W7} {mk:Nat} {cl:Bool} (G:GoodL (some mk) cl ws) (hw:ws[mk]?=some w) (n:D) (k:Nat) (S:Sto):rn (k+1) c1e [w.d,.tup (ws.map W7.d),n] S=.ok .non S:=by
 obtain ⟨w',hw',w1,w2⟩:=G.g4 mk rfl
 rw [hw] at hw'
 cases hw'
 have i1:b8 .In w.d (.tup [(.str "out"),(.str "down")]) S=.ok (.bl false) S:=by
  cases w <;> first | exact absurd rfl w1 | exact absurd rfl w2 | kernel_rfl
 have i2:b8 .In w.d (.tup [(.str "close"),(.str "look")]) S=.ok (.bl (decide (w=.close\/w=.look))) S:=by cases w <;> kernel_rfl
 refine i6 ?_
 rw [rn,b7 (fd:=Am) rfl,a4k,a4w]
 refine Ok.first<|Ok.cg (b9g ..)<|Ok.eq i1<|Ok.eq (a:=false) rfl<|Ok.neg (by decide)<|Ok.nxt<|Ok.cg (c3q ..)<|Ok.eq i2<|Ok.eq (d4 _ _)<|Ok.ite (λz=>?_) λ_=>Ok.ret ⟨rfl,rfl⟩
 have z:=of_decide_eq_true z
 have nh:=G.g5 mk rfl (by rw [hw];exact z.imp (congrArg some) (congrArg some))
 have an:(ws.any λw=>decide (w=.holds))=false:=List.any_eq_false.mpr λv hv=>by rw [decide_eq_false (nh v hv)];decide
 refine Ok.eq (b4x S)<|Ok.eq (d4 _ _) ?_
 rw [an]
 exact Ok.neg (by decide)<|Ok.ret ⟨rfl,rfl⟩
theorem b5y {ws:List W7} {mk:Option Nat} {cl:Bool} (G:GoodL mk cl ws) (hl:ws.length<=6) (n:D) (k:Nat) (S:Sto):rn (k+2) b62 [.tup [oD mk,.bl cl,.tup (ws.map W7.d)],n] S=.ok .non S:=by
 refine i6 ?_
 rw [rn,b7 (fd:=Ab) rfl,b2o,b6k]
 have g6:=G.g6
 have last:Ok (nxt (evK Rs Γ (rn (k+1)) 40) a2m [nth Ab.body 5] endD (.nx [some (.tup [oD mk,.bl cl,.tup (ws.map W7.d)]),some n,some (oD mk),some (.bl cl),some (.tup (ws.map W7.d))])) S λd S'=>d=.non/\S'=S:=by
  exact Ok.nxt<|Ok.cg (c9c ..)<|Ok.eq (a:=ws.map W7.d) rfl<|Ok.eq (a8n .holds ws S)<|Ok.eq (a84 _ _ S)<|Ok.eq (d4 _ _)<|Ok.neg (by rw [decide_eq_false (by omega)];decide)<|Ok.ret ⟨rfl,rfl⟩
 have mid:Ok (nxt (evK Rs Γ (rn (k+1)) 40) a2m [nth Ab.body 3,nth Ab.body 4,nth Ab.body 5] endD (.nx [some (.tup [oD mk,.bl cl,.tup (ws.map W7.d)]),some n,some (oD mk),some (.bl cl),some (.tup (ws.map W7.d))])) S λd S'=>d=.non/\S'=S:=by
  refine Ok.nxt<|Ok.cg (c9y ..) ?_
  cases mk with
  | none=>
   have c:(ws.countP λw=>decide (w=.out))=ws.length:=List.countP_eq_length.mpr λw hw=>decide_eq_true (G.g3 rfl w hw)
   have l1:m7 (.tup (ws.map W7.d)) S=.ok (.int (ws.length:Int)) S:=(p0 _ S).trans (by rw [List.length_map])
   have ct:=a8n .out ws S
   rw [c] at ct
   exact Ok.eq (a:=.bl true) rfl<|Ok.eq (a:=true) rfl<|Ok.pos rfl<|Ok.eq (a:=ws.map W7.d) rfl<|Ok.eq ct<|Ok.eq l1<|Ok.eq (a3a _ _ S)<|Ok.eq (d4 _ _)<|Ok.neg (by rw [decide_eq_false (by omega)];decide)<|Ok.nxt<|Ok.cg (c2c ..)<|Ok.eq (a:=.bl false) rfl<|Ok.eq (a:=false) rfl<|Ok.neg (by decide)<|last
  | some g=>
   obtain ⟨w,hw,_,_⟩:=G.g4 g rfl
   exact Ok.eq (a:=.bl false) rfl<|Ok.eq (a:=false) rfl<|Ok.neg (by decide)<|Ok.nxt<|Ok.cg (c2c ..)<|Ok.eq (a:=.bl true) rfl<|Ok.eq (a:=true) rfl<|Ok.pos rfl<|Ok.eq (B4 S (n4 hw))<|Ok.eq (b00 G hw n k S)<|last
 refine Ok.first<|Ok.cg (d09 ..)<|Ok.eq (a:=.nx [some (.tup [oD mk,.bl cl,.tup (ws.map W7.d)]),some n,some (oD mk),some (.bl cl),some (.tup (ws.map W7.d))]) rfl<|Ok.nxt<|Ok.cg (c4s ..)<|Ok.eq (a:=cl) rfl ?_
 cases cl with
 | false=>
  have a1:ws.any op4=false:=List.any_eq_false.mpr λw hw=>by rw [G.g1 rfl w hw];decide
  have e:=O7 (p:=op4) hl S (λw=>b2w w S) k
  rw [a1] at e
  exact Ok.pos rfl<|Ok.eq e<|Ok.eq (a:=false) rfl<|Ok.neg (by decide)<|Ok.nxt<|Ok.cg (c0u ..)<|Ok.eq (a:=false) rfl<|Ok.neg (by decide)<|mid
 | true=>
  obtain ⟨w,hw,e3⟩:=G.g2 rfl
  have a1:ws.any cl3=true:=List.any_eq_true.mpr ⟨w,hw,e3⟩
  have e:=O7 (p:=cl3) hl S (λw=>b2q w S) k
  rw [a1] at e
  exact Ok.neg (by decide)<|Ok.nxt<|Ok.cg (c0u ..)<|Ok.eq (a:=true) rfl<|Ok.pos rfl<|Ok.eq e<|Ok.eq (a:=true) rfl<|Ok.neg (by decide)<|mid
theorem c86 {lo hi:Int} {d:D} (h:whB lo hi d=true):∃ i,d=.int i/\lo<=i/\i<=hi:=by
 cases d with
 | int i=>
  have h:(decide (lo<=i)&&decide (i<=hi))=true:=h
  rw [Bool.and_eq_true,decide_eq_true_eq,decide_eq_true_eq] at h
  exact ⟨i,rfl,h⟩
 | _=>cases h
theorem b6t {ws:List Str} {d:D} (h:inW ws d=true):∃ w,d=.str w/\w∈ws:=by
 cases d with
 | str w=>exact ⟨w,rfl,of_decide_eq_true h⟩
 | _=>cases h
theorem a32 {β:Type} {p:D->Bool} {f:β->D} {q:β->Prop} (h:∀ d,p d=true->∃ b,f b=d/\q b):∀ {ds:List D},ds.all p=true->∃ bs:List β,bs.map f=ds/\∀ b∈bs,q b
 | [],_=>⟨[],rfl,λb z=>by cases z⟩
 | d :: ds,e=>by
  rw [List.all_cons,Bool.and_eq_true] at e
  obtain ⟨b,rfl,hb⟩:=h d e.1
  obtain ⟨bs,rfl,hs⟩:=a32 h e.2
  exact ⟨b :: bs,rfl,λx hx=>by
   rcases List.mem_cons.mp hx with rfl | z
   ·exact hb
   ·exact hs x z⟩
theorem a71 {w:Str} {n:Nat} {S:Sto} (hn:n<100) (hw:D3 S (.str w)=true):([.str w,.int (n:Int)]:List D).all (D3 S)=true:=by
 simp only [List.all_cons,List.all_nil,Bool.and_true,hw,Bool.true_and]
 exact c5u ⟨by omega,by omega⟩
theorem c2s {m:Nat} (d:D) (h:R3 m d=true):∃ b:Box,bxD b=d/\∀ g,b.1=some g->g<m:=by
 obtain ⟨u,v,rfl⟩:=G8 (b55 h)
 have h:(mkB m u&&a6g v)=true:=h
 rw [Bool.and_eq_true] at h
 obtain ⟨c,rfl⟩:∃ c,v=.bl c:=by
  have hv:=h.2
  cases v <;> first | exact ⟨_,rfl⟩ | cases hv
 by_cases q:u=.non
 ·subst q;exact ⟨(none,c),rfl,λg z=>by cases z⟩
 ·have e:mkB m u=whB 0 ((m:Int)-1) u:=by cases u <;> first | exact absurd rfl q | rfl
  rw [e] at h
  obtain ⟨i,rfl,h1,h2⟩:=c86 h.1
  obtain ⟨g,rfl⟩:=Int.eq_ofNat_of_zero_le h1
  exact ⟨(some g,c),rfl,λg' z=>by cases z;omega⟩
theorem c3h (d:D) (h:inW Y3 d=true):∃ b:Bool,j4 b=d/\True:=by
 obtain ⟨w,rfl,hw⟩:=b6t h
 rcases List.mem_cons.mp hw with rfl | hw
 ·exact ⟨false,rfl,trivial⟩
 ·rw [List.mem_singleton.mp hw];exact ⟨true,rfl,trivial⟩
theorem b8k {size:Nat} (d:D) (h:D4 size d=true):∃ a:Hnd,hdD a=d/\a.1.length<size:=by
 obtain ⟨u,v,rfl⟩:=G8 (b55 h)
 have h:(trB size u&&inW X1 v)=true:=h
 rw [Bool.and_eq_true] at h
 have hw:∃ w:Wd,w.d=v:=by
  obtain ⟨w,rfl,hw⟩:=b6t h.2
  unfold X1 at hw
  simp only [List.mem_cons,List.not_mem_nil,or_false] at hw
  rcases hw with rfl | rfl | rfl | rfl | rfl
  ·exact ⟨.out,rfl⟩
  ·exact ⟨.ask,rfl⟩
  ·exact ⟨.close,rfl⟩
  ·exact ⟨.look,rfl⟩
  ·exact ⟨.holds,rfl⟩
 obtain ⟨w,rfl⟩:=hw
 obtain ⟨ds,rfl⟩:∃ ds,u=.tup ds:=by
  have hu:=h.1
  cases u <;> first | exact ⟨_,rfl⟩ | cases hu
 have h1:(decide (ds.length<size)&&ds.all (inW Y3))=true:=h.1
 rw [Bool.and_eq_true] at h1
 obtain ⟨t,rfl,_⟩:=a32 c3h h1.2
 exact ⟨(t,w),rfl,by have:=of_decide_eq_true h1.1;rw [List.length_map] at this;exact this⟩
theorem c4t {size m:Nat} (h5:size<=5) (m5:m<=5) {d:D} (h:b6m size m d=true):∃ r:Nst,d=r.d/\VN size m r:=by
 obtain ⟨u,v,rfl⟩:=G8 (b55 h)
 have h:((A0 (tri size) u&&(els u).all (R3 m))&&(A0 m v&&(els v).all (D4 size)))=true:=h
 rw [Bool.and_eq_true,Bool.and_eq_true,Bool.and_eq_true] at h
 obtain ⟨⟨h1,h2⟩,h3,h4⟩:=h
 obtain ⟨bs,rfl,lb⟩:=T5 h1
 obtain ⟨hs,rfl,lh⟩:=T5 h3
 obtain ⟨bx,rfl,qb⟩:=a32 c2s h2
 obtain ⟨hx,rfl,qh⟩:=a32 b8k h4
 rw [List.length_map] at lb lh
 exact ⟨⟨bx,hx⟩,rfl,h5,m5,lb,lh,qh,qb⟩
theorem b8v (b:Bool):inW Y3 (j4 b)=true:=by cases b <;> decide +kernel
theorem c0g (w:Wd):inW X1 w.d=true:=by cases w <;> decide +kernel
theorem b6a {size m:Nat} {r:Nst} (V:VN size m r):b6m size m r.d=true:=by
 show ((decide ((r.bx.map bxD).length=tri size)&&(r.bx.map bxD).all (R3 m))&&(decide ((r.hs.map hdD).length=m)&&(r.hs.map hdD).all (D4 size)))=true
 rw [List.length_map,List.length_map,decide_eq_true V.bl,decide_eq_true V.hl,List.all_eq_true.mpr,List.all_eq_true.mpr]
 ·rfl
 ·intro x hx
  obtain ⟨h,hh,rfl⟩:=List.mem_map.mp hx
  show ((decide ((h.1.map j4).length<size)&&(h.1.map j4).all (inW Y3))&&inW X1 h.2.d)=true
  rw [List.length_map,decide_eq_true (V.tr h hh),c0g,List.all_eq_true.mpr]
  ·rfl
  ·intro y hy
   obtain ⟨b,_,rfl⟩:=List.mem_map.mp hy
   exact b8v b
 ·intro x hx
  obtain ⟨⟨o,c⟩,hb,rfl⟩:=List.mem_map.mp hx
  have mg:=V.mg _ hb
  show (mkB m (oD o)&&true)=true
  rw [Bool.and_true]
  cases o with
  | none=>rfl
  | some g=>
   have:=mg g rfl
   show (decide ((0:Int)<=(g:Int))&&decide ((g:Int)<=(m:Int)-1))=true
   rw [decide_eq_true (by omega),decide_eq_true (by omega)];rfl
noncomputable def exN (x:Str×Nat):O:=.exc 3 [("word",.str x.1),("at",.int (x.2:Int))]
def Rz (x:Str×Nat) (S:Sto) (n:Nat) (S':Sto):Prop:=n=S.length/\S'=S++[exN x]
section
variable {mk:Option Nat} {cl:Bool} {ws:List W7} {k n:Nat} {S:Sto} {P:Nat->Sto->Prop}
noncomputable def lD (mk:Option Nat) (cl:Bool) (ws:List W7):D:=.tup [oD mk,.bl cl,.tup (ws.map W7.d)]
noncomputable def cE (mk:Option Nat) (cl:Bool) (ws:List W7) (n:Nat):L3.Env:=[some (lD mk cl ws),some (.int (n:Int)),some (oD mk),some (.bl cl),some (.tup (ws.map W7.d))]
noncomputable def cT (k j:Nat) (e:L3.Env):M D:=nxt (evK Rs Γ (rn (k+1)) 40) a2m (([nth Ab.body 1,nth Ab.body 2,nth Ab.body 3,nth Ab.body 4,nth Ab.body 5]:List Stmt).drop j) endD (.nx e)
theorem c96 (h:Xn (cT k 0 (cE mk cl ws n)) S P):Xn (rn (k+2) b62 [lD mk cl ws,.int (n:Int)]) S P:=by
 rw [rn,b7 (fd:=Ab) rfl,b2o,b6k]
 exact Xn.first<|Xn.cg (d09 ..)<|Xn.eq (a:=.nx (cE mk cl ws n)) (S1:=S) rfl (by exact h)
variable (hl:ws.length<=6)
include hl
theorem c_1 (no:¬ (cl=false/\ws.any op4=true)) (h:Xn (cT k 1 (cE mk cl ws n)) S P):Xn (cT k 0 (cE mk cl ws n)) S P:=by
 refine Xn.nxt<|Xn.cg (c4s ..)<|Xn.eq (a:=cl) (S1:=S) rfl ?_
 cases cl with
 | true=>exact Xn.neg (by decide) h
 | false=>
  have a:ws.any op4=false:=by
   cases z:ws.any op4 with
   | false=>rfl
   | true=>exact absurd ⟨rfl,z⟩ no
  have e:=O7 (p:=op4) hl S (λw=>b2w w S) k
  rw [a] at e
  exact Xn.pos rfl<|Xn.eq e<|Xn.eq (a:=false) rfl<|Xn.neg (by decide) h
theorem c_2 (no:¬ (cl=true/\ws.any cl3=false)) (h:Xn (cT k 2 (cE mk cl ws n)) S P):Xn (cT k 1 (cE mk cl ws n)) S P:=by
 refine Xn.nxt<|Xn.cg (c0u ..)<|Xn.eq (a:=cl) (S1:=S) rfl ?_
 cases cl with
 | false=>exact Xn.neg (by decide) h
 | true=>
  have a:ws.any cl3=true:=by
   cases z:ws.any cl3 with
   | true=>rfl
   | false=>exact absurd ⟨rfl,z⟩ no
  have e:=O7 (p:=cl3) hl S (λw=>b2q w S) k
  rw [a] at e
  exact Xn.pos rfl<|Xn.eq e<|Xn.eq (a:=true) rfl<|Xn.neg (by decide) h
theorem b4i (hm:∀ g,mk=some g->g<ws.length) (hn:n<100) (nw:amH mk cl ws ≠ ""):Xn (rn (k+2) b62 [lD mk cl ws,.int (n:Int)]) S (Rz (amH mk cl ws,n) S):=by
 refine c96 ?_
 by_cases a1:cl=false/\ws.any op4=true
 ·have e:amH mk cl ws = "open":=by unfold amH;rw [if_pos a1]
  rw [e]
  obtain ⟨rfl,a⟩:=a1
  have e:=O7 (p:=op4) hl S (λw=>b2w w S) k
  rw [a] at e
  exact Xn.nxt<|Xn.cg (c4s ..)<|Xn.eq (a:=false) (S1:=S) rfl<|Xn.pos rfl<|Xn.eq e<|Xn.eq (a:=true) rfl<|Xn.pos rfl<|raise_k rfl (a71 hn (by kernel_rfl))
 refine c_1 hl a1 ?_
 by_cases a2:cl=true/\ws.any cl3=false
 ·have e:amH mk cl ws = "closed":=by unfold amH;rw [if_neg a1,if_pos a2]
  rw [e]
  obtain ⟨rfl,a⟩:=a2
  have e:=O7 (p:=cl3) hl S (λw=>b2q w S) k
  rw [a] at e
  exact Xn.nxt<|Xn.cg (c0u ..)<|Xn.eq (a:=true) (S1:=S) rfl<|Xn.pos rfl<|Xn.eq e<|Xn.eq (a:=false) rfl<|Xn.pos rfl<|raise_k rfl (a71 hn (by kernel_rfl))
 refine c_2 hl a2 ?_
 have e:amH mk cl ws=amM ws mk:=by unfold amH;rw [if_neg a1,if_neg a2]
 rw [e] at nw ⊢
 have l1:m7 (.tup (ws.map W7.d)) S=.ok (.int (ws.length:Int)) S:=(p0 _ S).trans (by rw [List.length_map])
 refine Xn.nxt<|Xn.cg (c9y ..) ?_
 cases mk with
 | none=>
  have an:ws.any (λw=>decide (w≠.out))=true:=by
   cases z:ws.any (λw=>decide (w≠.out)) with
   | true=>rfl
   | false=>exact absurd (show amM ws none = "" by unfold amM;rw [if_neg (by rw [z];decide)]) nw
  have e:amM ws none = "free":=by unfold amM;rw [if_pos an]
  rw [e]
  have lt:(ws.countP λw=>decide (w=.out))<ws.length:=by
   have le:=List.countP_le_length (p:=λw=>decide (w=W7.out)) (l:=ws)
   have ne:(ws.countP λw=>decide (w=.out))≠ws.length:=λz=>by
    obtain ⟨w,hw,e⟩:=List.any_eq_true.mp an
    exact (of_decide_eq_true e) (of_decide_eq_true (List.countP_eq_length.mp z w hw))
   omega
  exact Xn.eq (a:=.bl true) (S1:=S) rfl<|Xn.eq (a:=true) (S1:=S) rfl<|Xn.pos rfl<|Xn.eq (a:=ws.map W7.d) (S1:=S) rfl<|Xn.eq (a8n .out ws S)<|Xn.eq l1<|Xn.eq (a3a _ _ S)<|Xn.eq (d4 _ _)<|Xn.pos (by rw [decide_eq_true (by omega)])<|raise_k rfl (a71 hn (by kernel_rfl))
 | some g=>
  have hg:=hm g rfl
  have hw:ws[g]?=some ws[g]:=List.getElem?_eq_getElem hg
  generalize ws[g]=w at hw
  refine Xn.eq (a:=.bl false) (S1:=S) rfl<|Xn.eq (a:=false) (S1:=S) rfl<|Xn.neg (by decide)<|Xn.nxt<|Xn.cg (c2c ..)<|Xn.eq (a:=.bl true) (S1:=S) rfl<|Xn.eq (a:=true) (S1:=S) rfl<|Xn.pos rfl<|Xn.eq (B4 S (n4 hw)) ?_
  have i1:b8 .In w.d (.tup [(.str "out"),(.str "down")]) S=.ok (.bl (decide (w=.out\/w=.down))) S:=by cases w <;> kernel_rfl
  have i2:b8 .In w.d (.tup [(.str "close"),(.str "look")]) S=.ok (.bl (decide (w=.close\/w=.look))) S:=by cases w <;> kernel_rfl
  have em:amM ws (some g)=if w=.out\/w=.down then ("mark" : Str) else if ws.any (λw=>decide (w=.holds))=true/\(w=.close\/w=.look) then ("late" : Str) else if 1<ws.countP (λw=>decide (w=.holds)) then ("twice" : Str) else ("" : Str):=by
   show (if ws[g]?=some .out\/ws[g]?=some .down then _ else _)=_
   rw [hw]
   simp only [Option.some.injEq]
  rw [em] at nw ⊢
  by_cases b1:w=.out\/w=.down
  ·rw [if_pos b1]
   refine Xn.bind ?_
   rw [rn,b7 (fd:=Am) rfl,a4k,a4w]
   exact Xn.first<|Xn.cg (b9g ..)<|Xn.eq i1<|Xn.eq (d4 _ _)<|Xn.pos (decide_eq_true b1)<|raise_k rfl (a71 hn (by kernel_rfl))
  rw [if_neg b1] at nw ⊢
  by_cases b2:ws.any (λw=>decide (w=.holds))=true/\(w=.close\/w=.look)
  ·rw [if_pos b2]
   refine Xn.bind ?_
   rw [rn,b7 (fd:=Am) rfl,a4k,a4w]
   refine Xn.first<|Xn.cg (b9g ..)<|Xn.eq i1<|Xn.eq (d4 _ _)<|Xn.neg (by rw [decide_eq_false b1];decide)<|Xn.nxt<|Xn.cg (c3q ..)<|Xn.eq i2<|Xn.eq (d4 _ _)<|Xn.pos (decide_eq_true b2.2)<|Xn.eq (b4x S)<|Xn.eq (d4 _ _) ?_
   rw [b2.1]
   exact Xn.pos rfl<|raise_k rfl (a71 hn (by kernel_rfl))
  rw [if_neg b2] at nw ⊢
  have b3:1<ws.countP (λw=>decide (w=.holds)):=by
   by_cases z:1<ws.countP (λw=>decide (w=.holds))
   ·exact z
   ·exact absurd (if_neg z) nw
  rw [if_pos b3]
  have em:rn (k+1) c1e [w.d,.tup (ws.map W7.d),.int (n:Int)] S=.ok .non S:=by
   refine i6 ?_
   rw [rn,b7 (fd:=Am) rfl,a4k,a4w]
   refine Ok.first<|Ok.cg (b9g ..)<|Ok.eq i1<|Ok.eq (d4 _ _)<|Ok.neg (by rw [decide_eq_false b1];decide)<|Ok.nxt<|Ok.cg (c3q ..)<|Ok.eq i2<|Ok.eq (d4 _ _)<|Ok.ite (λz=>?_) λ_=>Ok.ret ⟨rfl,rfl⟩
   have an:(ws.any λw=>decide (w=.holds))=false:=by
    cases y:(ws.any λw=>decide (w=.holds)) with
    | false=>rfl
    | true=>exact absurd ⟨y,of_decide_eq_true z⟩ b2
   refine Ok.eq (b4x S)<|Ok.eq (d4 _ _) ?_
   rw [an]
   exact Ok.neg (by decide)<|Ok.ret ⟨rfl,rfl⟩
  exact Xn.eq em<|Xn.nxt<|Xn.cg (c9c ..)<|Xn.eq (a:=ws.map W7.d) (S1:=S) rfl<|Xn.eq (a8n .holds ws S)<|Xn.eq (a84 _ _ S)<|Xn.eq (d4 _ _)<|Xn.pos (by rw [decide_eq_true (by omega)])<|raise_k rfl (a71 hn (by kernel_rfl))
end
theorem c1u {P:Nat->Prop} [DecidablePred P]:∀ N:Nat,(∀ n,n<N->¬ P n)\/∃ n,n<N/\P n/\∀ j,j<n->¬ P j
 | 0=>.inl λn h=>by omega
 | N+1=>by
  rcases c1u (P:=P) N with h | ⟨n,h1,h2,h3⟩
  ·by_cases q:P N
   ·exact .inr ⟨N,by omega,q,h⟩
   ·refine .inl λn hn=>?_
    by_cases e:n=N
    ·rw [e];exact q
    ·exact h n (by omega)
  ·exact .inr ⟨n,by omega,h2,h3⟩
noncomputable def a6b:Option (Str×Nat)->D
 | none=>.bl true
 | some x=>.tup [.str x.1,.int (x.2:Int)]
def Fst (size:Nat) (r:Nst) (o:Option (Str×Nat)):Prop:=(o=none/\∀ n,n<tri size->t6 size r n = "")\/∃ n,n<tri size/\o=some (t6 size r n,n)/\t6 size r n ≠ ""/\∀ j,j<n->t6 size r j = ""
theorem c3b (size:Nat) (r:Nst):∃ o,Fst size r o:=by
 rcases c1u (P:=λn=>t6 size r n ≠ "") (tri size) with h | ⟨n,h1,h2,h3⟩
 ·exact ⟨none,.inl ⟨rfl,λn hn=>by
   by_cases q:t6 size r n = ""
   ·exact q
   ·exact absurd q (h n hn)⟩⟩
 ·exact ⟨_,.inr ⟨n,h1,rfl,h2,λj hj=>by
   by_cases q:t6 size r j = ""
   ·exact q
   ·exact absurd q (h3 j hj)⟩⟩
section
variable {size many:Nat} {r:Nst} (V:VN size many r) (k:Nat) (S:Sto)
include V
theorem c1a {n:Nat} (hn:n<tri size):∃ (b:Box) (ws:List W7),rn (k+4) b51 [.int (size:Int),r.d,.int (n:Int)] S=.ok (lD b.1 b.2 ws) S/\t6 size r n=amH b.1 b.2 ws/\ws.length<=6/\∀ g,b.1=some g->g<ws.length:=by
 have h5:=V.s5
 have m5:=V.m5
 have b1:=V.bl
 have b2:=V.hl
 have hb:r.bx[n]?=some r.bx[n]:=List.getElem?_eq_getElem (by omega)
 have hbm:=V.mg r.bx[n] (List.getElem_mem (by omega))
 generalize r.bx[n]=b at hb hbm
 obtain ⟨c,hc⟩:∃ c,(r8 size)[n]?=some c:=⟨_,List.getElem?_eq_getElem (by rw [O1 h5];exact hn)⟩
 have el:=i6 (b29 (r:=r) hb (λh hh=>by have:=V.tr h hh;omega) (by omega) (.int (size:Int)) k S)
 rw [b4a h5 hc V.tr] at el
 have e1:a2e r b (λh=>pC h.1 c)=lD b.1 b.2 (r.hs.map λh=>K4 (pC h.1 c) h):=by
  have e2:(r.hs.map λh=>j7 (pC h.1 c) h)=(r.hs.map λh=>K4 (pC h.1 c) h).map W7.d:=by
   rw [List.map_map];exact List.map_congr_left λh _=>(a86 _ h).symm
  unfold a2e lD
  rw [e2]
 rw [e1] at el
 exact ⟨b,_,el,by unfold t6;rw [hb,hc],by rw [List.length_map];omega,λg hg=>by rw [List.length_map,b2];exact hbm g hg⟩
theorem a4s {n N:Nat} (hn:n<=40) (hN:N<=8000000) (A:Any n N r.d) {o:Option (Str×Nat)} (F:Fst size r o):(o=none->rn (k+5) a4h [.int (size:Int),.int (many:Int),r.d] S=.ok (.bl true) S)/\∀ y,o=some y->Xn (rn (k+5) a4h [.int (size:Int),.int (many:Int),r.d]) S (Rz y S):=by
 have h5:=V.s5
 have b5:=a3j h5
 have st:=a8q A hn (by omega) k S (m:=many) h5
 rw [b6a V] at st
 have good:∀ i,i<tri size->t6 size r i = ""->∀ o4:Option D,Ok (U8 (rn (k+4)) [some (.int (size:Int)),some (.int (many:Int)),some r.d,some (.int (i:Int))]) S λfl S'=>∃ ρ',fl=.nx ρ'/\S'=S/\∃ o4:Option D,ρ'=[some (.int (size:Int)),some (.int (many:Int)),some r.d,o4]:=λi hi ea o4=>by
  obtain ⟨b,ws,el,e,wl,wm⟩:=c1a V k S hi
  rw [e] at ea
  unfold U8
  rw [Y7]
  exact Ok.first<|Ok.cg (a3n ..)<|Ok.eq el<|Ok.eq (b5y ((a3o wm).mp ea) wl _ (k+2) S)<|Ok.ret ⟨_,rfl,rfl,_,rfl⟩
 constructor
 ·intro e
  subst e
  rcases F with ⟨_,F⟩ | ⟨n,_,e,_⟩
  ·refine i6 ?_
   rw [rn,b7 (fd:=Ah) rfl,a3r,a38]
   refine Ok.first<|Ok.cg (b56 ..)<|Ok.eq st<|Ok.eq (a:=true) rfl<|Ok.neg (by decide)<|Ok.nxt<|Ok.cg (c1c ..)<|Ok.eq (a3y size (by omega) (k+3) S)<|Ok.eq (w9 (by omega) _)<|Ok.bind ((Ok.loop (n:=tri size) (λi ρ S'=>S'=S/\∃ o4:Option D,ρ=[some (.int (size:Int)),some (.int (many:Int)),some r.d,o4]) (λρ S' _=>v5 _ S') ?_ ⟨rfl,_,rfl⟩).mono ?_)
   ·rintro i ρ S' hi ⟨hS,o4,rfl⟩
    subst hS
    refine ⟨.int (i:Int),_,y0 hi S',rfl,(good i hi (F i hi) o4).mono ?_⟩
    rintro fl S2 ⟨ρ',rfl,h⟩
    exact ⟨ρ',.inl rfl,h⟩
   ·rintro _ S' ⟨ρ,rfl,hS,o4,rfl⟩
    exact Ok.nxt<|Ok.cg (c64 ..)<|Ok.ret ⟨rfl,hS⟩
  ·cases e
 ·intro y e
  subst e
  rcases F with ⟨e,_⟩ | ⟨i0,h1,e,ne,F⟩
  ·cases e
  ·cases e
   rw [rn,b7 (fd:=Ah) rfl,a3r,a38]
   refine Xn.first<|Xn.cg (b56 ..)<|Xn.eq st<|Xn.eq (a:=true) rfl<|Xn.neg (by decide)<|Xn.nxt<|Xn.cg (c1c ..)<|Xn.eq (a3y size (by omega) (k+3) S)<|Xn.eq (w9 (by omega) _)<|Xn.bind (Xn.for_ (i0:=i0) (λi ρ S'=>S'=S/\∃ o4:Option D,ρ=[some (.int (size:Int)),some (.int (many:Int)),some r.d,o4]) ?_ ?_ (tri size+1) 0 _ _ (by omega) (by omega) ⟨rfl,_,rfl⟩)
   ·rintro i ρ S' hi ⟨hS,o4,rfl⟩
    subst hS
    exact ⟨.int (i:Int),_,y0 (by omega) S',rfl,good i (by omega) (F i hi) o4⟩
   ·rintro ρ S' ⟨hS,o4,rfl⟩
    subst hS
    refine ⟨.int (i0:Int),_,y0 h1 S',rfl,?_⟩
    obtain ⟨b,ws,el,e,wl,wm⟩:=c1a V k S' h1
    rw [e] at ne ⊢
    unfold U8
    rw [Y7]
    exact Xn.first<|Xn.cg (a3n ..)<|Xn.eq el<|Xn.bind (b4i (k:=k+2) wl wm (by omega) ne)
theorem c7l {n N:Nat} (hn:n<=40) (hN:N<=8000000) (A:Any n N r.d) (h0:0<size) {o:Option (Str×Nat)} (F:Fst size r o):rn (k+4) b0a [.int (size:Int),.int (many:Int),r.d] S=.ok (a6b o) S:=by
 have st:=b42 A hn hN (k+1) S (m:=many) V.s5
 rw [b6a V] at st
 refine i6 ?_
 rw [rn,b7 (fd:=a34) rfl,a5d]
 refine Ok.eq st<|Ok.eq (B7 _ S)<|Ok.neg (by decide)<|Ok.bind ((a43 V h0 k S).mono ?_)
 rintro d S' ⟨hS,⟨rfl,hg⟩ | ⟨i,hi,rfl,ni,li⟩⟩
 ·subst hS
  rcases F with ⟨rfl,_⟩ | ⟨j,hj,_,nj,_⟩
  ·exact Ok.eq (a:=.bl true) rfl<|Ok.eq rfl<|Ok.pos rfl<|Ok.ret ⟨rfl,rfl⟩
  ·exact absurd (hg j hj) nj
 ·subst hS
  rcases F with ⟨_,hg⟩ | ⟨j,hj,rfl,nj,lj⟩
  ·exact absurd (hg i hi) ni
  ·have:i=j:=by
    rcases Nat.lt_trichotomy i j with z | z | z
    ·exact absurd (lj i z) ni
    ·exact z
    ·exact absurd (li j z) nj
   subst this
   exact Ok.eq (b4r size r i S').2<|Ok.eq rfl<|Ok.neg (by decide)<|Ok.ret ⟨rfl,rfl⟩
end
theorem a36 {size many:Nat} {d:D} {o:Option (Str×Nat)} (k:Nat) (S:Sto) (g:o=none->rn (k+5) a4h [.int (size:Int),.int (many:Int),d] S=.ok (.bl true) S) (x:∀ y,o=some y->Xn (rn (k+5) a4h [.int (size:Int),.int (many:Int),d]) S (Rz y S)):Ok (rn (k+6) a7x [.int (size:Int),.int (many:Int),d]) S λt S'=>t=a6b o/\∃ R,S'=S++R:=by
 rw [rn,b7 (fd:=Ak) rfl,c09,c06]
 refine Ok.first<|Ok.cg (c8l ..)<|Ok.nxt<|Ok.cg (d1a ..)<|Ok.bind ?_
 cases o with
 | none=>
  refine Ok.try_ ?_
  rw [a1f]
  exact Ok.eq (g rfl)<|Ok.ret<|Ok.nxt<|Ok.cg (c1l ..)<|Ok.ret ⟨rfl,[],by simp⟩
 | some y=>
  refine Ok.caught ?_
  rw [a1f]
  refine Xn.bind ((x y rfl).mono ?_)
  rintro n S1 ⟨rfl,rfl⟩
  refine ⟨3,[("word",.str y.1),("at",.int (y.2:Int))],by simp [exN],rfl,?_⟩
  show Ok (j0 (evK Rs Γ _ 39) (K5 P9) J7 [some (.int (size:Int)),some (.int (many:Int)),some d,some .non,some (.ref S.length)] ret) _ _
  rw [a5g]
  have eo:(S++[exN y])[S.length]?=some (.exc 3 [("word",.str y.1),("at",.int (y.2:Int))]):=by simp [exN]
  have i:∀ (sx:Nat->Bool),B9 sx (.ref S.length) (S++[exN y])=.ok (.bl (sx 3)) (S++[exN y]):=λsx=>by
   unfold B9
   simp only [eo]
  refine Ok.first<|Ok.cg (b2a ..)<|Ok.nxt<|Ok.cg (b0o ..)<|Ok.eq (i _)<|Ok.eq (B7 _ _)<|Ok.pos (by decide)<|Ok.eq (i _)<|Ok.eq (B7 _ _)<|Ok.pos rfl<|Ok.eq (i _)<|Ok.eq (B7 _ _)<|Ok.pos (by decide) ?_
  refine Ok.eq (a:=.str y.1) (S1:=S++[exN y]) (by simp only [a5u,eo];rfl)<|Ok.eq (a:=.int (y.2:Int)) (S1:=S++[exN y]) (by simp only [a5u,eo];rfl) ?_
  exact Ok.ret<|Ok.nxt<|Ok.cg (c1l ..)<|Ok.ret ⟨rfl,_,rfl⟩
theorem d3e {size many:Nat} (h0:0<size) (h5:size<=5) (m5:many<=5) {n N:Nat} (hn:n<=40) (hN:N<=8000000) {d:D} (h:Any n N d):∃ o,(∀ k S,rn (k+4) b0a [.int (size:Int),.int (many:Int),d] S=.ok (a6b o) S)/\(∀ k S,Ok (rn (k+6) a7x [.int (size:Int),.int (many:Int),d]) S λt S'=>t=a6b o/\∃ R,S'=S++R)/\(o=none\/o=some (("shape" : Str),0)\/∃ r,d=Nst.d r/\VN size many r/\Fst size r o):=by
 cases z:b6m size many d with
 | true=>
  obtain ⟨r,rfl,V⟩:=c4t h5 m5 z
  obtain ⟨o,F⟩:=c3b size r
  exact ⟨o,λk S=>c7l V k S hn hN h h0 F,λk S=>a36 k S (a4s V k S hn hN h F).1 (a4s V k S hn hN h F).2,.inr (.inr ⟨r,rfl,V,F⟩)⟩
 | false=>
  refine ⟨some (("shape" : Str),0),λk S=>i6 ?_,λk S=>a36 k S (λe=>by cases e) λy e=>?_,.inr (.inl rfl)⟩
  ·have st:=b42 h hn hN (k+1) S (m:=many) h5
   rw [z] at st
   rw [rn,b7 (fd:=a34) rfl,a5d]
   exact Ok.eq st<|Ok.eq (B7 _ S)<|Ok.pos rfl<|Ok.ret ⟨rfl,rfl⟩
  ·cases e
   have st:=a8q h hn (by omega) k S (m:=many) h5
   rw [z] at st
   rw [rn,b7 (fd:=Ah) rfl,a3r,a38]
   exact Xn.first<|Xn.cg (b56 ..)<|Xn.eq st<|Xn.eq (a:=false) rfl<|Xn.pos rfl<|raise_k rfl (a71 (n:=0) (by omega) (by kernel_rfl))
theorem b70 {size many:Nat} (h5:size<=5) {d:D} {o:Option (Str×Nat)} (h:o=none\/o=some (("shape" : Str),0)\/∃ r,d=Nst.d r/\VN size many r/\Fst size r o):∃ n N,n<=40/\N<=8000000/\Any n N (a6b o):=by
 have b5:=a3j h5
 have go:∀ (w:Str) (n:Nat),n<100->(w = "open"\/w = "closed"\/w = "free"\/w = "mark"\/w = "late"\/w = "twice"\/w = ""\/w = "shape")->∃ n' N,n'<=40/\N<=8000000/\Any n' N (a6b (some (w,n))):=λw n hn hw=>by
  have sa:Sml 0 100 (.str w):=by
   rcases hw with rfl | rfl | rfl | rfl | rfl | rfl | rfl | rfl <;> exact Sml.w
  have s:Sml 1 400 (a6b (some (w,n))):=(Sml.tup (n:=0) (N:=100) (m:=2) (.cons sa (.cons (Sml.nat (by omega)) .nil)) (Nat.le_refl _)).mono (by decide) (by decide)
  exact ⟨40,400,by omega,by omega,s.any (by decide)⟩
 rcases h with rfl | rfl | ⟨r,_,_,⟨rfl,_⟩ | ⟨n,hn,rfl,_,_⟩⟩
 ·exact ⟨0,100,by omega,by omega,a9f (by decide +kernel)⟩
 ·exact go "shape" 0 (by omega) (by simp)
 ·exact ⟨0,100,by omega,by omega,a9f (by decide +kernel)⟩
 ·refine go _ n (by omega) ?_
  rcases a9e size r n with e | e | e | e | e | e | e <;> simp [e]
theorem V8 {size many:Nat} (h0:0<size) (h5:size<=5) (m5:many<=5) {n N:Nat} (hn:n<=40) (hN:N<=8000000) {d:D} (h:Any n N d) (k:Nat) (S:Sto):Ok (rn (k+7) c3l [.int (size:Int),.int (many:Int),d]) S λt S'=>t=.bl true/\∃ R,S'=S++R:=by
 obtain ⟨o,e1,e2,ho⟩:=d3e h0 h5 m5 hn hN h
 obtain ⟨n',N',hn',hN',ha⟩:=b70 h5 ho
 rw [rn,b7 (fd:=b4l) rfl,b8x]
 refine Ok.eq (R8 h hn (by omega) S)<|Ok.bind ((e2 k S).mono ?_)
 rintro _ S1 ⟨rfl,R,rfl⟩
 refine Ok.eq (R8 ha hn' (by omega) _)<|Ok.eq (e1 (k+2) _)<|Ok.eq (R8 ha hn' (by omega) _)<|Ok.eq (a9g _ _)<|Ok.eq (a:=true) rfl<|Ok.pos rfl<|Ok.eq (R8 h hn (by omega) _)<|Ok.eq (a9g _ _)<|Ok.ret ⟨rfl,R,rfl⟩
theorem b11:((List.range 6).all λsize=>(List.range 15).all λn=>match (r8 size)[n]? with
  | some c=>decide (c.1+c.2<size)&&decide (E8 c=n)
  | none=>decide (tri size<=n))=true:=by decide +kernel
theorem b1g {size n:Nat} (h5:size<=5) (hn:n<tri size):∃ c:Nat×Nat,(r8 size)[n]?=some c/\c.1+c.2<size/\E8 c=n:=by
 have t:=a3j h5
 have a:=List.all_eq_true.mp b11 size (List.mem_range.mpr (by omega))
 have a:=List.all_eq_true.mp a n (List.mem_range.mpr (by omega))
 split at a
 ·rename_i c hc
  rw [Bool.and_eq_true] at a
  exact ⟨c,hc,of_decide_eq_true a.1,of_decide_eq_true a.2⟩
 ·have:=of_decide_eq_true a;omega
theorem c9e {h:Hnd} (ht:h.1.length<=5):Sml 2 900 (hdD h):=by
 obtain ⟨t,w⟩:=h
 have a:Sml 1 400 (trD t):=(Sml.tup (n:=0) (N:=60) (m:=5) (.map λb _=>by cases b <;> exact Sml.w) (by rw [List.length_map];exact ht)).up
 have b:Sml 1 400 w.d:=by cases w <;> exact Sml.w
 exact (Sml.tup (n:=1) (N:=400) (m:=2) (.cons a (.cons b .nil)) (Nat.le_refl _)).mono (by decide) (by decide)
theorem d0y {b:Box} {m:Nat} (h:∀ g,b.1=some g->g<m) (m5:m<=5):Sml 2 900 (bxD b):=by
 obtain ⟨o,c⟩:=b
 have a:Sml 0 100 (oD o):=by
  cases o with
  | none=>exact Sml.w
  | some g=>exact Sml.nat (by have:=h g rfl;omega)
 have b:Sml 0 100 (.bl c):=by cases c <;> exact Sml.w
 exact (Sml.tup (n:=0) (N:=100) (m:=2) (.cons a (.cons b .nil)) (Nat.le_refl _)).mono (by decide) (by decide)
theorem a0o {size many:Nat} {r:Nst} (V:VN size many r):Any 1 30000 r.d:=by
 have h5:=V.s5
 have m5:=V.m5
 have b5:=a3j h5
 have bl:=V.bl
 have hl:=V.hl
 have a:Sml 3 13600 (.tup (r.bx.map bxD)):=(Sml.tup (n:=2) (N:=900) (m:=15) (.map λb hb=>d0y (V.mg b hb) m5) (by rw [List.length_map];omega)).mono (by decide) (by decide)
 have b:Sml 3 13600 (.tup (r.hs.map hdD)):=(Sml.tup (n:=2) (N:=900) (m:=5) (.map λh hh=>c9e (by have:=V.tr h hh;omega)) (by rw [List.length_map];omega)).mono (by decide) (by decide)
 have s:Sml 4 30000 r.d:=(Sml.tup (n:=3) (N:=13600) (m:=2) (.cons a (.cons b .nil)) (Nat.le_refl _)).mono (by decide) (by decide)
 exact ⟨s.pl.ups,by have:=s.dp;omega,s.sz⟩
theorem a8g {size many:Nat} {r:Nst} (V:VN size many r) (G:GoodN size r):Fst size r none:=by
 refine .inl ⟨rfl,λn hn=>?_⟩
 obtain ⟨c,hc,cs,nc⟩:=b1g V.s5 hn
 obtain ⟨b,hb,g⟩:=G c cs
 rw [nc] at hb
 have hbm:=V.mg b (List.mem_of_getElem? hb)
 have ew:(r.hs.map λh=>K4 (pC h.1 c) h)=r.hs.map (w7c c):=List.map_congr_left λh _=>a9d c h
 unfold t6
 rw [hb,hc]
 simp only
 rw [ew]
 exact (a3o (λg hg=>by rw [List.length_map,V.hl];exact hbm g hg)).mpr g
theorem a4f {size many:Nat} {r:Nst} (V:VN size many r) {o:Option (Str×Nat)} (F:Fst size r o) (k:Nat) (S:Sto):Ok (rn (k+6) a7x [.int (size:Int),.int (many:Int),r.d]) S λt S'=>t=a6b o/\∃ R,S'=S++R:=
 a36 k S (a4s V k S (by omega) (by omega) (a0o V) F).1 (a4s V k S (by omega) (by omega) (a0o V) F).2
theorem b4v {S:Sto} {n m:Nat} {kvs more:List (Key×D)} (e1:S[n]?=some (.dct kvs)) (e2:S[m]?=some (.dct more)) (h:n≠m) (hl:kvs.length+more.length<=100):updD (.ref n) [.ref m] S=.ok .non (S.set n (.dct (Q8 kvs more))):=by
 simp only [updD,e1,e2]
 rw [if_pos ⟨h,by rw [sizeLine_eq];omega⟩]
theorem c8z {S:Sto} {n:Nat} {kvs:List (Key×D)} (e1:S[n]?=some (.dct kvs)):dctOf (.ref n) S=.ok () S:=by simp only [dctOf,e1]
theorem c8m {S:Sto} {n:Nat} {kvs:List (Key×D)} {w:Str} {d:D} (e1:S[n]?=some (.dct kvs)) (e:M8 kvs (.inr w)=some d):ixD (.ref n) (.str w) S=.ok d S:=by
 show (match S[n]? with
  | some (.lst _)=>_
  | some (.dct kvs)=>a03 ((B1 (.str w)).bind (M8 kvs)) S
  | _=>_)=_
 rw [e1]
 show a03 (M8 kvs (.inr w)) S=_
 rw [e];rfl
noncomputable def k1:List (Key×D):=[(.inr "open",.tup [bxD (some 0,false),.tup [Wd.look.d,Wd.out.d]]),(.inr "closed",.tup [bxD (some 1,true),.tup [Wd.out.d,Wd.close.d]])]
noncomputable def k2:List (Key×D):=[(.inr "free",.tup [bxD (none,false),.tup [Wd.ask.d,Wd.out.d]]),(.inr "mark",.tup [bxD (some 0,false),.tup [Wd.out.d,Wd.ask.d]])]
noncomputable def k3:List (Key×D):=[(.inr "late",.tup [bxD (some 0,true),.tup [Wd.close.d,Wd.holds.d]]),(.inr "twice",.tup [bxD (some 1,true),.tup [Wd.holds.d,Wd.holds.d]])]
noncomputable def k6:List (Key×D):=k1++k2++k3
noncomputable def alN (b:Box) (u v:Wd):Nst:=⟨[b,(none,false),(none,false)],[([],u),([],v)]⟩
theorem b5d {w:Str} {b:Box} {u v:Wd} (e:M8 k6 (.inr w)=some (.tup [bxD b,.tup [u.d,v.d]])) (k:Nat) (S:Sto):Ok (rn (k+1) c20 [.str w]) S λd _=>d=(alN b u v).d:=by
 rw [rn,b7 (fd:=Ag) rfl,b83,b7d]
 refine Ok.first<|Ok.cg (d1f ..)<|Ok.eq (a:=.ref S.length) (S1:=S++[.dct k1]) rfl ?_
 have a1:(S++[O.dct k1])[S.length]?=some (.dct k1):=by simp
 have a2:(S++[O.dct k1]++[O.dct k2])[S.length]?=some (.dct k1):=by simp
 have a3:(S++[O.dct k1]++[O.dct k2])[(S++[O.dct k1]).length]?=some (.dct k2):=by simp
 refine Ok.nxt<|Ok.cg (c9w ..)<|Ok.eq (c8z a1)<|Ok.eq (a:=.ref (S++[O.dct k1]).length) (S1:=S++[.dct k1]++[.dct k2]) rfl<|Ok.eq (b4v a2 a3 (by simp) (by decide)) ?_
 have e1:Q8 k1 k2=k1++k2:=by kernel_rfl
 rw [e1]
 have b1:((S++[O.dct k1]++[O.dct k2]).set S.length (.dct (k1++k2)))[S.length]?=some (.dct (k1++k2)):=List.getElem?_set_self (by simp)
 generalize (S++[O.dct k1]++[O.dct k2]).set S.length (.dct (k1++k2))=T at b1
 have b2:(T++[O.dct k3])[S.length]?=some (.dct (k1++k2)):=by rw [List.getElem?_append_left (List.getElem?_eq_some_iff.mp b1).1];exact b1
 have b3:(T++[O.dct k3])[T.length]?=some (.dct k3):=by simp
 have b4:S.length≠T.length:=Nat.ne_of_lt (List.getElem?_eq_some_iff.mp b1).1
 refine Ok.nxt<|Ok.cg (c69 ..)<|Ok.eq (c8z b1)<|Ok.eq (a:=.ref T.length) (S1:=T++[.dct k3]) rfl<|Ok.eq (b4v b2 b3 b4 (by decide)) ?_
 have e2:Q8 (k1++k2) k3=k6:=by kernel_rfl
 rw [e2]
 have c1:((T++[O.dct k3]).set S.length (.dct k6))[S.length]?=some (.dct k6):=List.getElem?_set_self (List.getElem?_eq_some_iff.mp b2).1
 generalize (T++[O.dct k3]).set S.length (.dct k6)=U at c1
 refine Ok.nxt<|Ok.cg (c8f ..)<|Ok.eq (c8m c1 e)<|Ok.eq (a:=.nx [some (.str w),some (.ref S.length),some (bxD b),some (.tup [u.d,v.d])]) (S1:=U) rfl ?_
 exact Ok.nxt<|Ok.cg (c7b ..)<|Ok.eq (a:=u.d) (B4 (i:=0) U rfl)<|Ok.eq (a:=v.d) (B4 (i:=1) U rfl)<|Ok.ret rfl
theorem a4g {ns:List Int} {p N:Nat} {S E:Sto} (F:Fw ns p N S):Fw ns p N (S++E):=F.keep (by rw [List.getElem?_append_left F.lt])
theorem b8h (ns:List Int) (S:Sto) (k:Nat):∃ ms:List Int,rn (k+1) c5l [.scr (ns.map D.int)] S=.ok (.ref S.length) (S++[j5 ms 0 0 0]):=by
 obtain ⟨ms,em⟩:=b6p ns
 refine ⟨ms,?_⟩
 rw [rn,b7 (fd:=b3n) rfl,c0q,a8 (show slD (.scr (ns.map D.int)) none (some 63) S=.ok (.lst (A6 (ns.map D.int) none (some 63))) S from rfl),em]
 kernel_rfl
theorem c7z (S:Sto):b8 .IsNot (.bl true) (.bl true) S=.ok (.bl false) S:=by kernel_rfl
theorem O0 {w:Str} {b:Box} {u v:Wd} (e:M8 k6 (.inr w)=some (.tup [bxD b,.tup [u.d,v.d]])) (V:VN 2 2 (alN b u v)) (ea:t6 2 (alN b u v) 0=w) (nw:w ≠ "") (q:∀ S,b8 .NotEq (.tup [.str w,.int 0]) (.tup [.str w,.int 0]) S=.ok (.bl false) S) (ρ:List (Option D)) (o1 o2 o3 o4 o5 o6 o7 o8 o9 o10 o12 o13:Option D) (S:Sto):Ok (U9 (rn 8) [o1,o2,o3,o4,o5,o6,o7,o8,o9,o10,some (.str w),o12,o13]) S λfl _=>fl=.nx [o1,o2,o3,o4,o5,o6,o7,o8,o9,o10,some (.str w),o12,o13]:=by
 unfold U9
 rw [a50]
 refine Ok.first<|Ok.cg (b1a ..)<|Ok.bind ((b5d e 7 S).mono ?_)
 rintro _ S1 rfl
 have F:Fst 2 (alN b u v) (some (w,0)):=.inr ⟨0,by decide,by rw [ea],by rw [ea];exact nw,λj hj=>by omega⟩
 refine Ok.bind ((a4f V F 2 S1).mono ?_)
 rintro _ S2 ⟨rfl,_⟩
 exact Ok.eq (q S2)<|Ok.eq (a:=false) rfl<|Ok.neg (by decide)<|Ok.ret rfl
theorem a3i {b:Box} {u v:Wd} (h:∀ g,b.1=some g->g<2):VN 2 2 (alN b u v):=by
 refine ⟨by decide,by decide,rfl,rfl,λx hx=>?_,λx hx g e=>?_⟩
 ·have:x=([],u)\/x=([],v):=by simpa [alN] using hx
  rcases this with rfl | rfl <;> exact Nat.zero_lt_two
 ·have:x=b\/x=(none,false):=by simpa [alN] using hx
  rcases this with rfl | rfl
  ·exact h g e
  ·cases e
noncomputable def a7g:List D:=[.str "open",.str "closed",.str "free",.str "mark",.str "late",.str "twice"]
theorem c6k {d:D} (hd:d∈a7g) (o1 o2 o3 o4 o5 o6 o7 o8 o9 o10 o12 o13:Option D) (S:Sto):Ok (U9 (rn 8) [o1,o2,o3,o4,o5,o6,o7,o8,o9,o10,some d,o12,o13]) S λfl _=>fl=.nx [o1,o2,o3,o4,o5,o6,o7,o8,o9,o10,some d,o12,o13]:=by
 unfold a7g at hd
 simp only [List.mem_cons,List.not_mem_nil,or_false] at hd
 rcases hd with rfl | rfl | rfl | rfl | rfl | rfl
 ·exact O0 (b:=(some 0,false)) (u:=.look) (v:=.out) (by kernel_rfl) (a3i (λg z=>by cases z;decide)) (by decide +kernel) (by decide +kernel) (λS=>by kernel_rfl) [] ..
 ·exact O0 (b:=(some 1,true)) (u:=.out) (v:=.close) (by kernel_rfl) (a3i (λg z=>by cases z;decide)) (by decide +kernel) (by decide +kernel) (λS=>by kernel_rfl) [] ..
 ·exact O0 (b:=(none,false)) (u:=.ask) (v:=.out) (by kernel_rfl) (a3i (λg z=>by cases z)) (by decide +kernel) (by decide +kernel) (λS=>by kernel_rfl) [] ..
 ·exact O0 (b:=(some 0,false)) (u:=.out) (v:=.ask) (by kernel_rfl) (a3i (λg z=>by cases z;decide)) (by decide +kernel) (by decide +kernel) (λS=>by kernel_rfl) [] ..
 ·exact O0 (b:=(some 0,true)) (u:=.close) (v:=.holds) (by kernel_rfl) (a3i (λg z=>by cases z;decide)) (by decide +kernel) (by decide +kernel) (λS=>by kernel_rfl) [] ..
 ·exact O0 (b:=(some 1,true)) (u:=.holds) (v:=.holds) (by kernel_rfl) (a3i (λg z=>by cases z;decide)) (by decide +kernel) (by decide +kernel) (λS=>by kernel_rfl) [] ..
noncomputable def things:List D:=[.non,.tup [],.lst [],.tup [.tup [],.tup []],.str "",.int 0,.tup [.tup [.tup [.non,.bl false]],.lst [.tup [.tup [],.str "out"]]],.tup [.tup [.tup [.non,.bl false]],.tup [.tup [.lst [],.str "out"]]]]
theorem a7m:things.all (smB 4 1000)=true:=by decide +kernel
theorem b04 {d:D} (hd:d∈things):Any 1 1000 d:=by
 have h:=y9 (List.all_eq_true.mp a7m d hd)
 exact ⟨h.1.ups,by have:=h.2.1;omega,h.2.2⟩
theorem c7i {ns:List Int} {p N j Z:Nat} {d:D} {S:Sto} (F:Fw ns p (N+24) S) (h:Any j Z d) (hj:j<=2) (hZ:Z<=1000000):Ok (rn 8 a7z [.ref p,d]) S λd' S'=>Any (j+1) (2 * Z+500) d'/\Fw ns p N S':=by
 have dp:=h.dp
 refine (a9r 5 d j N S h.pl (by omega) dp (by omega) (Nat.le_trans h.sz hZ) F).mono ?_
 rintro d' S' ⟨b,F',_⟩
 have sz:=h.sz
 exact ⟨⟨b.pl,by have:=b.dp;omega,by have:=b.sz;omega⟩,F'⟩
theorem c5f (ns:List Int):∃ S',rn 9 b6g [.scr (ns.map D.int)] []=.ok (.bl true) S':=by
 suffices h:Ok (rn 9 b6g [.scr (ns.map D.int)]) [] λd _=>d=.bl true by
  obtain ⟨d,S',e,rfl⟩:=h
  exact ⟨S',e⟩
 rw [rn,b7 (fd:=law_F) rfl,b67,b94]
 obtain ⟨ms,ew⟩:=b8h ns [] 7
 refine Ok.first<|Ok.cg (c8v ..)<|Ok.eq ew ?_
 have F0:Fw ms 0 5000 ([]++[j5 ms 0 0 0]):=⟨0,0,0,by simp,by omega,by omega,by omega,by omega⟩
 generalize ([]++[j5 ms 0 0 0]:Sto)=S0 at F0
 show Ok (nxt _ _ _ _ (.nx [some (.scr (ns.map D.int)),some (.ref 0),none,none,none,none,none,none,none,none,none,none,none])) S0 _
 refine Ok.nxt<|Ok.cg (c6m ..)<|Ok.eq (w9 (n:=4) (by omega) _)<|Ok.bind ((Ok.loop (n:=4) (λi ρ S'=>Fw ms 0 (1000 * (4-i)) S'/\∃ (o3 o4 o5 o6 o7 o8 o9 o10 o11 o12 o13:Option D),ρ=[some (.scr (ns.map D.int)),some (.ref 0),o3,o4,o5,o6,o7,o8,o9,o10,o11,o12,o13]) (λρ S' _=>v5 4 S') ?_ ⟨F0.less (by omega),_,_,_,_,_,_,_,_,_,_,_,rfl⟩).mono ?_)
 ·rintro i ρ S hi ⟨F,o3,o4,o5,o6,o7,o8,o9,o10,o11,o12,o13,rfl⟩
  refine ⟨.int (i:Int),_,y0 hi S,rfl,?_⟩
  unfold a5a
  rw [a5x]
  refine Ok.first<|Ok.cg (b07 ..)<|Ok.bind ((k8 (N:=1000 * (4-(i+1))+950) (m:=5) (F.less (by omega)) (by omega) (by omega) 7).mono ?_)
  rintro _ S1 ⟨s0,rfl,hs,F1,_,_⟩
  refine Ok.eq (E5 1 s0 S1)<|Ok.nxt<|Ok.cg (b0y ..)<|Ok.bind ((k8 (N:=1000 * (4-(i+1))+900) (m:=1+s0) (F1.less (by omega)) (by omega) (by omega) 7).mono ?_)
  rintro _ S2 ⟨m0,rfl,hm,F2,_,_⟩
  refine Ok.eq (E5 1 m0 S2) ?_
  generalize hsz:1+s0=size at hm ⊢
  generalize hmn:1+m0=many at ⊢
  have h0:0<size:=by omega
  have h5:size<=5:=by omega
  have n0:0<many:=by omega
  have m5:many<=5:=by omega
  refine Ok.nxt<|Ok.cg (b09 ..)<|Ok.bind ((any_ok (N:=1000 * (4-(i+1))+600) (F2.less (by omega)) h0 h5 n0 m5 3).mono ?_)
  rintro _ S3 ⟨F3,r,rfl,V,G⟩
  refine Ok.nxt<|Ok.cg (b0p ..)<|Ok.bind ((a4f V (a8g V G) 2 S3).mono ?_)
  rintro _ S4 ⟨rfl,R4,rfl⟩
  have F4:Fw ms 0 (1000 * (4-(i+1))+600) (S3++R4):=a4g F3
  generalize S3++R4=S4 at F4
  refine Ok.eq (c7z _)<|Ok.eq (a:=false) rfl<|Ok.neg (by decide) ?_
  refine Ok.nxt<|Ok.cg (b14 ..)<|Ok.eq (w9 (n:=5) (by omega) _)<|Ok.bind ((Ok.loop (n:=5) (λj ρ S'=>Fw ms 0 (1000 * (4-(i+1))+100 * (5-j)) S'/\∃ (o7 o8 o9 o10 o11 o12 o13:Option D),ρ=[some (.scr (ns.map D.int)),some (.ref 0),some (.int (i:Int)),some (.int (size:Int)),some (.int (many:Int)),some r.d,o7,o8,o9,o10,o11,o12,o13]) (λρ S' _=>v5 5 S') ?_ ⟨F4.less (by omega),_,_,_,_,_,_,_,rfl⟩).mono ?_)
  ·rintro j ρ S5 hj ⟨F5,o7,o8,o9,o10,o11,o12,o13,rfl⟩
   refine ⟨.int (j:Int),_,y0 hj S5,rfl,?_⟩
   unfold R5
   rw [a0a]
   refine Ok.first<|Ok.cg (a2l ..)<|Ok.bind ((Y4 (N:=1000 * (4-(i+1))+100 * (5-(j+1))+88) (F5.less (by omega)) V h0 n0 6).mono ?_)
   rintro _ S6 ⟨F6,r1,rfl,V1⟩
   refine Ok.nxt<|Ok.cg (a2g ..)<|Ok.bind ((k8 (N:=1000 * (4-(i+1))+100 * (5-(j+1))+84) (m:=3) (F6.less (by omega)) (by omega) (by omega) 7).mono ?_)
   rintro _ S7 ⟨q,rfl,hq,F7,_,_⟩
   refine Ok.eq (w9 (n:=q) (by omega) _)<|Ok.bind ((Ok.loop (n:=q) (λl ρ S'=>Fw ms 0 (1000 * (4-(i+1))+100 * (5-(j+1))+50+12 * (q-l)) S'/\∃ (r1:Nst) (o9:Option D),VN size many r1/\ρ=[some (.scr (ns.map D.int)),some (.ref 0),some (.int (i:Int)),some (.int (size:Int)),some (.int (many:Int)),some r.d,some (.int (j:Int)),some r1.d,o9,o10,o11,o12,o13]) (λρ S' _=>v5 q S') ?_ ⟨F7.less (by omega),r1,_,V1,rfl⟩).mono ?_)
   ·rintro l ρ S8 hl ⟨F8,r1,o9,V1,rfl⟩
    refine ⟨.int (l:Int),_,y0 hl S8,rfl,?_⟩
    unfold E6
    rw [P6]
    refine Ok.first<|Ok.cg (T1 ..)<|Ok.bind ((Y4 (N:=1000 * (4-(i+1))+100 * (5-(j+1))+50+12 * (q-(l+1))) (F8.less (by omega)) V1 h0 n0 6).mono ?_)
    rintro _ S9 ⟨F9,r2,rfl,V2⟩
    exact Ok.ret ⟨_,.inl rfl,F9,r2,_,V2,rfl⟩
   ·rintro _ S8 ⟨ρ,rfl,F8,r1,o9,V1,rfl⟩
    refine Ok.nxt<|Ok.cg (a2f ..)<|Ok.bind ((c7i (N:=1000 * (4-(i+1))+100 * (5-(j+1))+26) (F8.less (by omega)) (a0o V1) (by omega) (by omega)).mono ?_)
    rintro d1 S9 ⟨A1,F9⟩
    refine Ok.nxt<|Ok.cg (a2d ..)<|Ok.bind ((V8 h0 h5 m5 (by omega) (by omega) (a0o V1) 1 S9).mono ?_)
    rintro _ S10 ⟨rfl,R10,rfl⟩
    have F10:=a4g (E:=R10) F9
    generalize S9++R10=S10 at F10
    refine Ok.eq (a:=true) rfl<|Ok.neg (by decide)<|Ok.bind ((V8 h0 h5 m5 (by omega) (by omega) A1 1 S10).mono ?_)
    rintro _ S11 ⟨rfl,R11,rfl⟩
    have F11:=a4g (E:=R11) F10
    generalize S10++R11=S11 at F11
    refine Ok.eq (a:=true) rfl<|Ok.neg (by decide) ?_
    refine Ok.nxt<|Ok.cg (a2i ..)<|Ok.bind ((c7i (N:=1000 * (4-(i+1))+100 * (5-(j+1))) (F11.less (by omega)) A1 (by omega) (by omega)).mono ?_)
    rintro d2 S12 ⟨A2,F12⟩
    refine Ok.bind ((V8 h0 h5 m5 (by omega) (by omega) A2 1 S12).mono ?_)
    rintro _ S13 ⟨rfl,R13,rfl⟩
    exact Ok.eq (a:=true) rfl<|Ok.neg (by decide)<|Ok.ret ⟨_,.inl rfl,a4g (F12.less (by omega)),_,_,_,_,_,_,_,rfl⟩
  ·rintro _ S' ⟨ρ,rfl,F',o7,o8,o9,o10,o11,o12,o13,rfl⟩
   exact Ok.ret ⟨_,.inl rfl,F'.less (by omega),_,_,_,_,_,_,_,_,_,_,_,rfl⟩
 ·rintro _ S' ⟨ρ,rfl,_,o3,o4,o5,o6,o7,o8,o9,o10,o11,o12,o13,rfl⟩
  refine Ok.nxt<|Ok.cg (c8s ..)<|Ok.eq (S1:=S') (a:=(M9 a7g,7)) rfl<|Ok.bind ((Ok.loop (n:=6) (λi ρ _=>∃ o11:Option D,ρ=[some (.scr (ns.map D.int)),some (.ref 0),o3,o4,o5,o6,o7,o8,o9,o10,o11,o12,o13]) (λρ S' _=>rfl) ?_ ⟨_,rfl⟩).mono ?_)
  ·rintro i ρ S2 hi ⟨o11,rfl⟩
   have ex:a7g[i]?=some a7g[i]:=List.getElem?_eq_getElem hi
   refine ⟨a7g[i],_,by show some a7g[i]?=_;rw [ex],rfl,(c6k (List.getElem_mem hi) ..).mono ?_⟩
   rintro fl S3 rfl
   exact ⟨_,.inl rfl,_,rfl⟩
  ·rintro _ S2 ⟨ρ,rfl,o11,rfl⟩
   refine Ok.nxt<|Ok.cg (c70 ..)<|Ok.nxt<|Ok.cg (d0h ..)<|Ok.eq (S1:=S2) (a:=(M9 things,9)) rfl<|Ok.bind ((Ok.loop (n:=8) (λi ρ _=>∃ o13:Option D,ρ=[some (.scr (ns.map D.int)),some (.ref 0),o3,o4,o5,o6,o7,o8,o9,o10,o11,some (.lst things),o13]) (λρ S' _=>rfl) ?_ ⟨_,rfl⟩).mono ?_)
   ·rintro i ρ S3 hi ⟨o13,rfl⟩
    have ex:things[i]?=some things[i]:=List.getElem?_eq_getElem hi
    refine ⟨things[i],_,by show some things[i]?=_;rw [ex],rfl,?_⟩
    unfold a5l
    rw [a57]
    refine Ok.first<|Ok.cg (b0u ..)<|Ok.bind ((V8 (size:=1) (many:=1) (by omega) (by omega) (by omega) (by omega) (by omega) (b04 (List.getElem_mem hi)) 1 S3).mono ?_)
    rintro _ S4 ⟨rfl,_⟩
    exact Ok.eq (a:=true) rfl<|Ok.neg (by decide)<|Ok.ret ⟨_,.inl rfl,_,rfl⟩
   ·rintro _ S3 ⟨ρ,rfl,o13,rfl⟩
    have V:=N0.ok (size:=1) (many:=1) (by omega) (by omega) (by omega)
    refine Ok.nxt<|Ok.cg (c6o ..)<|Ok.bind ((a4f V (a8g V N0.good) 2 S3).mono ?_)
    rintro _ S4 ⟨rfl,_⟩
    exact Ok.eq (a:=.bl true) rfl<|Ok.ret rfl
end L3.K12
namespace L3.K12
open PySem L2 Hn
noncomputable abbrev iHE:Stmt:=O2 (top 1) 0
noncomputable abbrev iNS:Stmt:=O2 (top 2) 0
noncomputable abbrev iNP:Stmt:=O2 (top 3) 0
noncomputable abbrev iND:Stmt:=O2 (top 4) 0
noncomputable abbrev iTM:Stmt:=O2 (top 5) 0
noncomputable abbrev iNT:Stmt:=O2 (top 6) 0
section
variable {P:Program} {w:World} {K:PySem.W.Frag} {mg:Str->Option Value} {base:Heap} {f fB B:Addr} {fd fdB:FuncData}
theorem d2z:FnScope ["self","text"] ["self","text"] (b9 iHE):=⟨rfl,rfl,rfl,by decide +kernel,rfl,by decide +kernel,by decide +kernel⟩
theorem a3k (F:Fun K "__init__" "HandError.__init__" iHE f fd) (T:TxE K mg B fB):FnOk P w K mg base CX0 1 f fd ["self","text"] (spHE K):=by
 refine F.ok d2z (λvs H Q E h=>?_) (λcdv A outer s H vs Q E hr h=>?_)
 ·obtain ⟨x,y,C,d,rfl,_⟩:=h
  rfl
 ·obtain ⟨x,y,C,d,rfl,M,e0,k⟩:=h
  refine ⟨_,N6 (G9 (b5k rfl T.mV T.fV (i7 (pv 0) (i7 (pv 1) B8)))),?_⟩
  exact ⟨_,rfl,_,rfl,x,C,d,y,rfl,M,e0,k⟩
theorem d22:FnScope ["self","hand"] ["self","hand"] (b9 iNS):=⟨rfl,rfl,rfl,by decide +kernel,rfl,by decide +kernel,by decide +kernel⟩
theorem c84 (F:Fun K "__init__" "NoStep.__init__" iNS f fd) (T:TxE K mg B fB) (FB:Fun K "__init__" "HandError.__init__" iHE fB fdB) (bB:Binds K fdB ["self","text"] []):FnOk P w K mg base CX0 2 f fd ["self","hand"] (sp1 K "hand"):=by
 have G:FnOk P w K mg base CX0 1 fB fdB ["self","text"] (spHE K):=a3k FB T
 refine F.ok d22 (λvs H Q E h=>?_) (λcdv A outer s H vs Q E hr h=>?_)
 ·obtain ⟨x,v,C,dv,rfl,_⟩:=h
  rfl
 ·obtain ⟨x,v,C,dv,rfl,M,na,e0,ft,k⟩:=h
  have hu:(A.deeper (PyProof.Rows.envOfC "NoStep.__init__" (b9 iNS) s.heap.objs.size f cdv)).units+80<cLine:=by have:=hr.un;omega
  refine ⟨_,y7 (G9 (L5 rfl T.mB T.sB T.rB T.cB T.kB G hr bB Z1 (i7 (pv 0) (i7 (V5 (D5 (J0 hr.gd hu (pv 1) (D5 V9))) (by decide)) B8))))
   (N6 (J8 (pv 0) (pv 1) rfl)),?_⟩
  refine ⟨_,rfl,_,rfl,dv,ft.at_,ft.sh,ft.l1,ft.l2,λz hz=>?_⟩
  refine ⟨x,.str z,C,none,rfl,M,e0,?_⟩
  refine ⟨_,rfl,_,rfl,x,C,rfl,M,na,.inl ⟨e0,λd hd=>?_⟩⟩
  have ne:d≠x:=λq=>by rw [q,e0] at hd;cases hd
  exact k _ ⟨d,hd,ne,c8,by rw [a9 ne,c8],λb hb hb2=>by rw [a9 hb,a9 hb2]⟩
theorem d27:FnScope ["self","word","at"] ["self","word","at"] (b9 iNP):=⟨rfl,rfl,rfl,by decide +kernel,rfl,by decide +kernel,by decide +kernel⟩
theorem c6z (F:Fun K "__init__" "NoPaper.__init__" iNP f fd) (T:TxE K mg B fB) (FB:Fun K "__init__" "HandError.__init__" iHE fB fdB) (bB:Binds K fdB ["self","text"] []):FnOk P w K mg base CX0 2 f fd ["self","word","at"] (sp2 K "word" "at"):=by
 have G:FnOk P w K mg base CX0 1 fB fdB ["self","text"] (spHE K):=a3k FB T
 refine F.ok d27 (λvs H Q E h=>?_) (λcdv A outer s H vs Q E hr h=>?_)
 ·obtain ⟨x,v,u,C,dv,du,rfl,_⟩:=h
  rfl
 ·obtain ⟨x,v,u,C,dv,du,rfl,M,na,nb,e0,ft,fu,k⟩:=h
  have hu:(A.deeper (PyProof.Rows.envOfC "NoPaper.__init__" (b9 iNP) s.heap.objs.size f cdv)).units+80<cLine:=by have:=hr.un;omega
  refine ⟨_,y7 (G9 (L5 rfl T.mB T.sB T.rB T.cB T.kB G hr bB Z1 (i7 (pv 0) (i7 (V5 (D5 (J0 hr.gd hu (pv 1) (D5 (J0 hr.gd hu (pv 2) V9)))) (by decide)) B8))))
   (y7 (J8 (pv 0) (pv 1) rfl) (N6 (J8 (pv 0) (pv 2) rfl))),?_⟩
  refine ⟨_,rfl,_,rfl,dv,ft.at_,ft.sh,ft.l1,ft.l2,_,rfl,du,fu.at_,fu.sh,fu.l1,fu.l2,λz hz=>?_⟩
  refine ⟨x,.str z,C,none,rfl,M,e0,?_⟩
  refine ⟨_,rfl,_,rfl,x,C,rfl,M,na,.inl ⟨e0,λd hd=>?_⟩⟩
  have ne:d≠x:=λq=>by rw [q,e0] at hd;cases hd
  refine ⟨_,rfl,_,rfl,x,C,rfl,M,nb,.inr ⟨d,_,ne,c8,by rw [a9 ne,c8],by show 1<900;decide,?_⟩⟩
  refine k _ ⟨d,hd,ne,by rw [a9 ne.symm,c8],by rw [c8,a9u],λb hb hb2=>by rw [a9 hb2,a9 hb,a9 hb2]⟩
theorem d1s:FnScope ["self","word","at"] ["self","word","at"] (b9 iND):=⟨rfl,rfl,rfl,by decide +kernel,rfl,by decide +kernel,by decide +kernel⟩
theorem c9p (F:Fun K "__init__" "NoStand.__init__" iND f fd) (T:TxE K mg B fB) (FB:Fun K "__init__" "HandError.__init__" iHE fB fdB) (bB:Binds K fdB ["self","text"] []):FnOk P w K mg base CX0 2 f fd ["self","word","at"] (sp2 K "word" "at"):=by
 have G:FnOk P w K mg base CX0 1 fB fdB ["self","text"] (spHE K):=a3k FB T
 refine F.ok d1s (λvs H Q E h=>?_) (λcdv A outer s H vs Q E hr h=>?_)
 ·obtain ⟨x,v,u,C,dv,du,rfl,_⟩:=h
  rfl
 ·obtain ⟨x,v,u,C,dv,du,rfl,M,na,nb,e0,ft,fu,k⟩:=h
  have hu:(A.deeper (PyProof.Rows.envOfC "NoStand.__init__" (b9 iND) s.heap.objs.size f cdv)).units+80<cLine:=by have:=hr.un;omega
  refine ⟨_,y7 (G9 (L5 rfl T.mB T.sB T.rB T.cB T.kB G hr bB Z1 (i7 (pv 0) (i7 (V5 (D5 (J0 hr.gd hu (pv 1) (D5 (J0 hr.gd hu (pv 2) V9)))) (by decide)) B8))))
   (y7 (J8 (pv 0) (pv 1) rfl) (N6 (J8 (pv 0) (pv 2) rfl))),?_⟩
  refine ⟨_,rfl,_,rfl,dv,ft.at_,ft.sh,ft.l1,ft.l2,_,rfl,du,fu.at_,fu.sh,fu.l1,fu.l2,λz hz=>?_⟩
  refine ⟨x,.str z,C,none,rfl,M,e0,?_⟩
  refine ⟨_,rfl,_,rfl,x,C,rfl,M,na,.inl ⟨e0,λd hd=>?_⟩⟩
  have ne:d≠x:=λq=>by rw [q,e0] at hd;cases hd
  refine ⟨_,rfl,_,rfl,x,C,rfl,M,nb,.inr ⟨d,_,ne,c8,by rw [a9 ne,c8],by show 1<900;decide,?_⟩⟩
  refine k _ ⟨d,hd,ne,by rw [a9 ne.symm,c8],by rw [c8,a9u],λb hb hb2=>by rw [a9 hb2,a9 hb,a9 hb2]⟩
theorem d2y:FnScope ["self","word"] ["self","word"] (b9 iTM):=⟨rfl,rfl,rfl,by decide +kernel,rfl,by decide +kernel,by decide +kernel⟩
theorem c9t (F:Fun K "__init__" "TooMany.__init__" iTM f fd) (T:TxE K mg B fB) (FB:Fun K "__init__" "HandError.__init__" iHE fB fdB) (bB:Binds K fdB ["self","text"] []):FnOk P w K mg base CX0 2 f fd ["self","word"] (sp1 K "word"):=by
 have G:FnOk P w K mg base CX0 1 fB fdB ["self","text"] (spHE K):=a3k FB T
 refine F.ok d2y (λvs H Q E h=>?_) (λcdv A outer s H vs Q E hr h=>?_)
 ·obtain ⟨x,v,C,dv,rfl,_⟩:=h
  rfl
 ·obtain ⟨x,v,C,dv,rfl,M,na,e0,ft,k⟩:=h
  have hu:(A.deeper (PyProof.Rows.envOfC "TooMany.__init__" (b9 iTM) s.heap.objs.size f cdv)).units+80<cLine:=by have:=hr.un;omega
  refine ⟨_,y7 (G9 (L5 rfl T.mB T.sB T.rB T.cB T.kB G hr bB Z1 (i7 (pv 0) (i7 (V5 (D5 (J0 hr.gd hu (pv 1) V9)) (by decide)) B8))))
   (N6 (J8 (pv 0) (pv 1) rfl)),?_⟩
  refine ⟨_,rfl,_,rfl,dv,ft.at_,ft.sh,ft.l1,ft.l2,λz hz=>?_⟩
  refine ⟨x,.str z,C,none,rfl,M,e0,?_⟩
  refine ⟨_,rfl,_,rfl,x,C,rfl,M,na,.inl ⟨e0,λd hd=>?_⟩⟩
  have ne:d≠x:=λq=>by rw [q,e0] at hd;cases hd
  exact k _ ⟨d,hd,ne,c8,by rw [a9 ne,c8],λb hb hb2=>by rw [a9 hb,a9 hb2]⟩
theorem d11:FnScope ["self","type_here"] ["self","type_here"] (b9 iNT):=⟨rfl,rfl,rfl,by decide +kernel,rfl,by decide +kernel,by decide +kernel⟩
theorem c99 (F:Fun K "__init__" "NoType.__init__" iNT f fd) (T:TxE K mg B fB) (FB:Fun K "__init__" "HandError.__init__" iHE fB fdB) (bB:Binds K fdB ["self","text"] []):FnOk P w K mg base CX0 2 f fd ["self","type_here"] (sp1 K "type_here"):=by
 have G:FnOk P w K mg base CX0 1 fB fdB ["self","text"] (spHE K):=a3k FB T
 refine F.ok d11 (λvs H Q E h=>?_) (λcdv A outer s H vs Q E hr h=>?_)
 ·obtain ⟨x,v,C,dv,rfl,_⟩:=h
  rfl
 ·obtain ⟨x,v,C,dv,rfl,M,na,e0,ft,k⟩:=h
  have hu:(A.deeper (PyProof.Rows.envOfC "NoType.__init__" (b9 iNT) s.heap.objs.size f cdv)).units+80<cLine:=by have:=hr.un;omega
  refine ⟨_,y7 (G9 (L5 rfl T.mB T.sB T.rB T.cB T.kB G hr bB Z1 (i7 (pv 0) (i7 (V5 (D5 (J0 hr.gd hu (pv 1) V9)) (by decide)) B8))))
   (N6 (J8 (pv 0) (pv 1) rfl)),?_⟩
  refine ⟨_,rfl,_,rfl,dv,ft.at_,ft.sh,ft.l1,ft.l2,λz hz=>?_⟩
  refine ⟨x,.str z,C,none,rfl,M,e0,?_⟩
  refine ⟨_,rfl,_,rfl,x,C,rfl,M,na,.inl ⟨e0,λd hd=>?_⟩⟩
  have ne:d≠x:=λq=>by rw [q,e0] at hd;cases hd
  exact k _ ⟨d,hd,ne,c8,by rw [a9 ne,c8],λb hb hb2=>by rw [a9 hb,a9 hb2]⟩
end
end L3.K12
section
namespace L3.K12
open PySem PySem.Spec PyProof.Rows L2 Hn
theorem all_mk {l:PySem.W.OpenLaw} {w:World} {K:PySem.W.Frag} {h:Heap} {mg:Str->Option Value} {fa B fB C1 f1 C2 f2 C3 f3 C4 f4 C5 f5 C6 g0 g1 g2 g3 g4 g5 g6 g7 g8 g9 g10 g11 g12 g13 g14 g15 g16 g17 g18 g19 g20 g21 g22 g23 g24 g25 g26 g27 g28 g29 g30 g31 g32 g33 g34 g35 g36 g37 g38:Addr} (X:K.In h) (G:h.Ns mainGlobals mg) (hfa:mg "law" = some (.ref fa))
  {odHE anHE odNS anNS odNP anNP odND anND odTM anTM odNT anNT:Option Addr} {slHE slNS slNP slND slTM slNT:Array (Option Value)} {ocHE kVHE dcHE pmHE cdHE ctHE ocNS kVNS dcNS pmNS cdNS ctNS ocNP kVNP dcNP pmNP cdNP ctNP ocND kVND dcND pmND cdND ctND ocTM kVTM dcTM pmTM cdTM ctTM ocNT kVNT dcNT pmNT cdNT ctNT:Value} {Zc0:Addr} {tC0_0 tC0_1 tC0_2 tC0_3 tC0_4:Tok} {nC0:Nat} {slC0:Array (Option Value)}
  (aHE:PySem.W.nsIn K mainGlobals "HandError" = some (some (.ref B))) (iHE_:PySem.W.findIn K (.ref B) "__init__" = some (some (.ref fB))) (nHE:PySem.W.isFn K (.ref fB)=true) (lHE:K.lookup fB=some ⟨ocHE,odHE,.func (PySem.W.fnOf "__init__" "HandError.__init__" (o0 (iHE)) (i8 (iHE)) (b9 (iHE)) .none kVHE dcHE pmHE anHE cdHE ctHE),slHE⟩) (cHE:PySem.W.codeIn K cdHE "HandError.__init__" = true) (kHE:PySem.W.keepIn K (.ref fB)=true)
  (aNS:PySem.W.nsIn K mainGlobals "NoStep" = some (some (.ref C1))) (iNS_:PySem.W.findIn K (.ref C1) "__init__" = some (some (.ref f1))) (nNS:PySem.W.isFn K (.ref f1)=true) (lNS:K.lookup f1=some ⟨ocNS,odNS,.func (PySem.W.fnOf "__init__" "NoStep.__init__" (o0 (iNS)) (i8 (iNS)) (b9 (iNS)) .none kVNS dcNS pmNS anNS cdNS ctNS),slNS⟩) (cNS:PySem.W.codeIn K cdNS "NoStep.__init__" = true) (kNS:PySem.W.keepIn K (.ref f1)=true)
  (aNP:PySem.W.nsIn K mainGlobals "NoPaper" = some (some (.ref C2))) (iNP_:PySem.W.findIn K (.ref C2) "__init__" = some (some (.ref f2))) (nNP:PySem.W.isFn K (.ref f2)=true) (lNP:K.lookup f2=some ⟨ocNP,odNP,.func (PySem.W.fnOf "__init__" "NoPaper.__init__" (o0 (iNP)) (i8 (iNP)) (b9 (iNP)) .none kVNP dcNP pmNP anNP cdNP ctNP),slNP⟩) (cNP:PySem.W.codeIn K cdNP "NoPaper.__init__" = true) (kNP:PySem.W.keepIn K (.ref f2)=true)
  (aND:PySem.W.nsIn K mainGlobals "NoStand" = some (some (.ref C3))) (iND_:PySem.W.findIn K (.ref C3) "__init__" = some (some (.ref f3))) (nND:PySem.W.isFn K (.ref f3)=true) (lND:K.lookup f3=some ⟨ocND,odND,.func (PySem.W.fnOf "__init__" "NoStand.__init__" (o0 (iND)) (i8 (iND)) (b9 (iND)) .none kVND dcND pmND anND cdND ctND),slND⟩) (cND:PySem.W.codeIn K cdND "NoStand.__init__" = true) (kND:PySem.W.keepIn K (.ref f3)=true)
  (aTM:PySem.W.nsIn K mainGlobals "TooMany" = some (some (.ref C4))) (iTM_:PySem.W.findIn K (.ref C4) "__init__" = some (some (.ref f4))) (nTM:PySem.W.isFn K (.ref f4)=true) (lTM:K.lookup f4=some ⟨ocTM,odTM,.func (PySem.W.fnOf "__init__" "TooMany.__init__" (o0 (iTM)) (i8 (iTM)) (b9 (iTM)) .none kVTM dcTM pmTM anTM cdTM ctTM),slTM⟩) (cTM:PySem.W.codeIn K cdTM "TooMany.__init__" = true) (kTM:PySem.W.keepIn K (.ref f4)=true)
  (aNT:PySem.W.nsIn K mainGlobals "NoType" = some (some (.ref C5))) (iNT_:PySem.W.findIn K (.ref C5) "__init__" = some (some (.ref f5))) (nNT:PySem.W.isFn K (.ref f5)=true) (lNT:K.lookup f5=some ⟨ocNT,odNT,.func (PySem.W.fnOf "__init__" "NoType.__init__" (o0 (iNT)) (i8 (iNT)) (b9 (iNT)) .none kVNT dcNT pmNT anNT cdNT ctNT),slNT⟩) (cNT:PySem.W.codeIn K cdNT "NoType.__init__" = true) (kNT:PySem.W.keepIn K (.ref f5)=true)
  (aNR:PySem.W.nsIn K mainGlobals "NoRow" = some (some (.ref C6))) (iNR:PySem.W.findIn K (.ref C6) "__init__" = some (some (.ref fB)))
  (fV:PySem.W.findCls K (.type "ValueError") (.type "type") "__init__" = some (.val (.builtin "ValueError.__init__"))) (sB:PySem.W.specialIn K (.ref B) "__getattribute__" = some (some (.builtin "type.__getattribute__"))) (rB:PySem.W.readsIn K B (.type "type")=true) (cB:PySem.W.findCls K (.ref B) (.type "type") "__init__" = some (.val (.ref fB)))
  (rxc:[B,C1,C2,C3,C4,C5,C6].all (xcB K)=true)
  (rjk:Z3 K fB=false)
  (rsub:((List.range [B,C1,C2,C3,C4,C5,C6].length).all λc=>(List.range [B,C1,C2,C3,C4,C5,C6].length).all λc0=>isB (PySem.W.kitOne K (.ref (a0w [B,C1,C2,C3,C4,C5,C6] fB c)) (.ref (a0w [B,C1,C2,C3,C4,C5,C6] fB c0))) (Γ.sub c c0))=true)
  (rsV:([B,C1,C2,C3,C4,C5,C6].all λC=>isB (PySem.W.kitOne K (.ref C) (.type "ValueError")) true)=true)
  (rsT:([B,C1,C2,C3,C4,C5,C6].all λC=>tys.all λt=>isB (PySem.W.kitOne K (.ref C) (.type t)) false)=true)
  (rfl_:(Γ.flds.all λg=>[B,C1,C2,C3,C4,C5,C6].all λC=>isNo (PySem.W.findIn K (.ref C) g))=true)
  (rbl:(bnames.all λx=>(Γ.gl.lookup x).isSome||isNo (PySem.W.nsIn K mainGlobals x))=true)
  (dg0:GF K "is_whole" (top 9) g0)
  (dg1:GF K "is_tuple_of" (top 10) g1)
  (dg2:GF K "triangle" (top 11) g2)
  (dg3:GF K "is_mark" (top 13) g3)
  (dg4:GF K "end_of" (top 15) g4)
  (dg5:GF K "number_of" (top 16) g5)
  (dg6:GF K "local_at" (top 17) g6)
  (dg7:GF K "word_at" (top 18) g7)
  (dg8:GF K "lets_net" (top 21) g8)
  (dg9:GF K "is_net_stand" (top 22) g9)
  (dg10:GF K "is_box" (top 23) g10)
  (dg11:GF K "is_hand_here" (top 24) g11)
  (dg12:GF K "is_trail" (top 25) g12)
  (dg13:GF K "check_local" (top 26) g13)
  (dg14:GF K "check_marked" (top 27) g14)
  (dg15:GF K "some_at" (top 28) g15)
  (dg16:GF K "_law_feed" (top 30) g16)
  (dg17:GF K "_law_draw" (top 31) g17)
  (dg18:GF K "_law_behind" (top 32) g18)
  (dg19:GF K "_law_cells" (top 33) g19)
  (dg20:GF K "_law_word_at" (top 34) g20)
  (dg21:GF K "_law_local" (top 35) g21)
  (dg22:GF K "_law_at" (top 36) g22)
  (dg23:GF K "_law_net_behind" (top 37) g23)
  (dg24:GF K "_law_amiss_here" (top 38) g24)
  (dg25:GF K "_law_amiss" (top 39) g25)
  (dg26:GF K "_law_first_net" (top 40) g26)
  (dg27:GF K "_law_reached" (top 41) g27)
  (dg28:GF K "_law_nudged" (top 42) g28)
  (dg29:GF K "_law_anybody" (top 43) g29)
  (dg30:GF K "_law_odd" (top 44) g30)
  (dg31:GF K "_law_bent" (top 45) g31)
  (dg32:GF K "_law_is_number" (top 46) g32)
  (dg33:GF K "_law_is_net" (top 47) g33)
  (dg34:GF K "_law_due" (top 48) g34)
  (dg35:GF K "_law_told" (top 49) g35)
  (dg36:GF K "_law_right" (top 50) g36)
  (dg37:GF K "_law_alone" (top 51) g37)
  (dg38:GF K "law" (top 52) g38)
  (aC0:PySem.W.nsIn K mainGlobals "WORDS_HERE" = some (some (.ref Zc0))) (lC0:K.lookup Zc0=some ⟨.type "tuple",none,.seq #[.str "out" tC0_0,.str "ask" tC0_1,.str "close" tC0_2,.str "look" tC0_3,.str "holds" tC0_4] nC0,slC0⟩) :
  ∃ fd:FuncData,(∀ (s:Shared) (v:Value),BindsTo s fd ⟨[v],[]⟩ [("_law_script",v)])/\∀ base:Heap,K.In base->base.Ns mainGlobals mg->FnOk l.prog w K mg base CX0 12 fa fd ["_law_script"] (a4y K):=by
 have e:=hfa.symm.trans (PySem.W.mg_of X G dg38.a)
 cases e
 have RB:RowB K Γ [B,C1,C2,C3,C4,C5,C6] fB:=⟨rxc,rjk,rsub,rsV,rsT,rfl_,rbl⟩
 have FHE:=M2 (st:=iHE) lHE cHE kHE
 have bHE:=FHE.binds (ps:=["self","text"]) λ_ _ _ _ _ _ us hl=>match us,hl with | [_,_],_=>rfl
 have FNS:=M2 (st:=iNS) lNS cNS kNS
 have bNS:=FNS.binds (ps:=["self","hand"]) λ_ _ _ _ _ _ us hl=>match us,hl with | [_,_],_=>rfl
 have FNP:=M2 (st:=iNP) lNP cNP kNP
 have bNP:=FNP.binds (ps:=["self","word","at"]) λ_ _ _ _ _ _ us hl=>match us,hl with | [_,_,_],_=>rfl
 have FND:=M2 (st:=iND) lND cND kND
 have bND:=FND.binds (ps:=["self","word","at"]) λ_ _ _ _ _ _ us hl=>match us,hl with | [_,_,_],_=>rfl
 have FTM:=M2 (st:=iTM) lTM cTM kTM
 have bTM:=FTM.binds (ps:=["self","word"]) λ_ _ _ _ _ _ us hl=>match us,hl with | [_,_],_=>rfl
 have FNT:=M2 (st:=iNT) lNT cNT kNT
 have bNT:=FNT.binds (ps:=["self","type_here"]) λ_ _ _ _ _ _ us hl=>match us,hl with | [_,_],_=>rfl
 have xHE:XC K B:=Q5 ((List.all_eq_true.mp rxc) B (by simp))
 have xNS:XC K C1:=Q5 ((List.all_eq_true.mp rxc) C1 (by simp))
 have xNP:XC K C2:=Q5 ((List.all_eq_true.mp rxc) C2 (by simp))
 have xND:XC K C3:=Q5 ((List.all_eq_true.mp rxc) C3 (by simp))
 have xTM:XC K C4:=Q5 ((List.all_eq_true.mp rxc) C4 (by simp))
 have xNT:XC K C5:=Q5 ((List.all_eq_true.mp rxc) C5 (by simp))
 have xNR:XC K C6:=Q5 ((List.all_eq_true.mp rxc) C6 (by simp))
 obtain ⟨_,⟨oc,od,kV,dc,pm,an,cd,ct,sl,rfl,lk,hc⟩,kp⟩:=dg38.f
 have FL:=M2 lk hc kp
 refine ⟨PySem.W.fnOf "law" "law" (o0 (top 52)) (i8 (top 52)) (b9 (top 52)) .none kV dc pm an cd ct,λs v=>.of_eq rfl,λbase KB GB=>?_⟩
 let T:Tx:=⟨l.prog,w,K,mg,base,a0w [B,C1,C2,C3,C4,C5,C6] fB⟩
 have mV:mg "ValueError" = none:=PySem.W.mg_none_of X G (a0m ((List.all_eq_true.mp rbl) "ValueError" (by decide)))
 have TE:TxE K mg B fB:=⟨mV,fV,PySem.W.mg_of X G aHE,sB,rB,cB,kHE⟩
 have gHE:FnOk l.prog w K mg base CX0 2 fB _ ["self","text"] (spHE K):=(a3k FHE TE).mono (by decide)
 have gNS:FnOk l.prog w K mg base CX0 2 f1 _ _ _:=c84 FNS TE FHE bHE
 have gNP:FnOk l.prog w K mg base CX0 2 f2 _ _ _:=c6z FNP TE FHE bHE
 have gND:FnOk l.prog w K mg base CX0 2 f3 _ _ _:=c9p FND TE FHE bHE
 have gTM:FnOk l.prog w K mg base CX0 2 f4 _ _ _:=c9t FTM TE FHE bHE
 have gNT:FnOk l.prog w K mg base CX0 2 f5 _ _ _:=c99 FNT TE FHE bHE
 have st:TxSt T Γ:=by
  refine RB.st (T:=T) X G rfl (λx d e=>?_) (λx c fs e=>?_) (λx kvs e=>?_)
  ·have m:=L2.mem_of_lookup e
   simp only [Γ,List.mem_cons,List.not_mem_nil,or_false,Prod.mk.injEq,L3.G.val.injEq,reduceCtorEq,and_false,false_or] at m
   rcases m with ⟨rfl,rfl⟩
   ·exact ⟨_,.ref Zc0,PySem.W.mg_of X G aC0,rfl,λμ H=>.tup (xs:=[.str "out",.str "ask",.str "close",.str "look",.str "holds"]) (.inr ⟨_,_,_,lC0,rfl,rfl,Nat.le_of_ble_eq_true rfl,(.cons ⟨_,rfl⟩ (.cons ⟨_,rfl⟩ (.cons ⟨_,rfl⟩ (.cons ⟨_,rfl⟩ (.cons ⟨_,rfl⟩ .nil))))),rfl⟩) (.cons (.str _) (.cons (.str _) (.cons (.str _) (.cons (.str _) (.cons (.str _) .nil)))))⟩
  ·have m:=L2.mem_of_lookup e
   simp only [Γ,List.mem_cons,List.not_mem_nil,or_false,Prod.mk.injEq,L3.G.err.injEq,reduceCtorEq,and_false,false_or] at m
   rcases m with ⟨rfl,rfl,rfl⟩ | ⟨rfl,rfl,rfl⟩ | ⟨rfl,rfl,rfl⟩ | ⟨rfl,rfl,rfl⟩ | ⟨rfl,rfl,rfl⟩ | ⟨rfl,rfl,rfl⟩ | ⟨rfl,rfl,rfl⟩
   ·exact ⟨by simp,⟨xHE,PySem.W.mg_of X G aHE,fB,_,_,iHE_,nHE,bHE,gHE⟩,by simp⟩
   ·exact ⟨by simp,⟨xNS,PySem.W.mg_of X G aNS,f1,_,_,iNS_,nNS,bNS,gNS⟩,by simp [Γ]⟩
   ·exact ⟨by simp,⟨xNP,PySem.W.mg_of X G aNP,f2,_,_,iNP_,nNP,bNP,gNP⟩,by simp [Γ]⟩
   ·exact ⟨by simp,⟨xND,PySem.W.mg_of X G aND,f3,_,_,iND_,nND,bND,gND⟩,by simp [Γ]⟩
   ·exact ⟨by simp,⟨xTM,PySem.W.mg_of X G aTM,f4,_,_,iTM_,nTM,bTM,gTM⟩,by simp [Γ]⟩
   ·exact ⟨by simp,⟨xNT,PySem.W.mg_of X G aNT,f5,_,_,iNT_,nNT,bNT,gNT⟩,by simp [Γ]⟩
   ·exact ⟨by simp,⟨xNR,PySem.W.mg_of X G aNR,fB,_,_,iNR,nHE,bHE,gHE⟩,by simp⟩
  ·have m:=L2.mem_of_lookup e
   simp [Γ] at m
 have fs:b4p T Γ Tb:=by
  refine c9u ?_
  refine And.intro (fe X G (T:=T) dg0 (by decide +kernel) (λ_ _ _ _ _ _ us hl=>match us,hl with | [_],_=>rfl) rfl rfl) ?_
  refine And.intro (fe X G (T:=T) dg1 (by decide +kernel) (λ_ _ _ _ _ _ us hl=>match us,hl with | [_,_],_=>rfl) rfl rfl) ?_
  refine And.intro (fe X G (T:=T) dg2 (by decide +kernel) (λ_ _ _ _ _ _ us hl=>match us,hl with | [_],_=>rfl) rfl rfl) ?_
  refine And.intro (fe X G (T:=T) dg3 (by decide +kernel) (λ_ _ _ _ _ _ us hl=>match us,hl with | [_,_],_=>rfl) rfl rfl) ?_
  refine And.intro (fe X G (T:=T) dg4 (by decide +kernel) (λ_ _ _ _ _ _ us hl=>match us,hl with | [_],_=>rfl) rfl rfl) ?_
  refine And.intro (fe X G (T:=T) dg5 (by decide +kernel) (λ_ _ _ _ _ _ us hl=>match us,hl with | [_],_=>rfl) rfl rfl) ?_
  refine And.intro (fe X G (T:=T) dg6 (by decide +kernel) (λ_ _ _ _ _ _ us hl=>match us,hl with | [_,_,_],_=>rfl) rfl rfl) ?_
  refine And.intro (fe X G (T:=T) dg7 (by decide +kernel) (λ_ _ _ _ _ _ us hl=>match us,hl with | [_,_],_=>rfl) rfl rfl) ?_
  refine And.intro (fe X G (T:=T) dg8 (by decide +kernel) (λ_ _ _ _ _ _ us hl=>match us,hl with | [_,_,_],_=>rfl) rfl rfl) ?_
  refine And.intro (fe X G (T:=T) dg9 (by decide +kernel) (λ_ _ _ _ _ _ us hl=>match us,hl with | [_,_,_],_=>rfl) rfl rfl) ?_
  refine And.intro (fe X G (T:=T) dg10 (by decide +kernel) (λ_ _ _ _ _ _ us hl=>match us,hl with | [_,_],_=>rfl) rfl rfl) ?_
  refine And.intro (fe X G (T:=T) dg11 (by decide +kernel) (λ_ _ _ _ _ _ us hl=>match us,hl with | [_,_],_=>rfl) rfl rfl) ?_
  refine And.intro (fe X G (T:=T) dg12 (by decide +kernel) (λ_ _ _ _ _ _ us hl=>match us,hl with | [_,_],_=>rfl) rfl rfl) ?_
  refine And.intro (fe X G (T:=T) dg13 (by decide +kernel) (λ_ _ _ _ _ _ us hl=>match us,hl with | [_,_],_=>rfl) rfl rfl) ?_
  refine And.intro (fe X G (T:=T) dg14 (by decide +kernel) (λ_ _ _ _ _ _ us hl=>match us,hl with | [_,_,_],_=>rfl) rfl rfl) ?_
  refine And.intro (fe X G (T:=T) dg15 (by decide +kernel) (λ_ _ _ _ _ _ us hl=>match us,hl with | [_,_],_=>rfl) rfl rfl) ?_
  refine And.intro (fe X G (T:=T) dg16 (by decide +kernel) (λ_ _ _ _ _ _ us hl=>match us,hl with | [_],_=>rfl) rfl rfl) ?_
  refine And.intro (fe X G (T:=T) dg17 (by decide +kernel) (λ_ _ _ _ _ _ us hl=>match us,hl with | [_,_],_=>rfl) rfl rfl) ?_
  refine And.intro (fe X G (T:=T) dg18 (by decide +kernel) (λ_ _ _ _ _ _ us hl=>match us,hl with | [_,_],_=>rfl) rfl rfl) ?_
  refine And.intro (fe X G (T:=T) dg19 (by decide +kernel) (λ_ _ _ _ _ _ us hl=>match us,hl with | [_],_=>rfl) rfl rfl) ?_
  refine And.intro (fe X G (T:=T) dg20 (by decide +kernel) (λ_ _ _ _ _ _ us hl=>match us,hl with | [_,_],_=>rfl) rfl rfl) ?_
  refine And.intro (fe X G (T:=T) dg21 (by decide +kernel) (λ_ _ _ _ _ _ us hl=>match us,hl with | [_,_,_],_=>rfl) rfl rfl) ?_
  refine And.intro (fe X G (T:=T) dg22 (by decide +kernel) (λ_ _ _ _ _ _ us hl=>match us,hl with | [_],_=>rfl) rfl rfl) ?_
  refine And.intro (fe X G (T:=T) dg23 (by decide +kernel) (λ_ _ _ _ _ _ us hl=>match us,hl with | [_,_,_],_=>rfl) rfl rfl) ?_
  refine And.intro (fe X G (T:=T) dg24 (by decide +kernel) (λ_ _ _ _ _ _ us hl=>match us,hl with | [_],_=>rfl) rfl rfl) ?_
  refine And.intro (fe X G (T:=T) dg25 (by decide +kernel) (λ_ _ _ _ _ _ us hl=>match us,hl with | [_,_],_=>rfl) rfl rfl) ?_
  refine And.intro (fe X G (T:=T) dg26 (by decide +kernel) (λ_ _ _ _ _ _ us hl=>match us,hl with | [_,_],_=>rfl) rfl rfl) ?_
  refine And.intro (fe X G (T:=T) dg27 (by decide +kernel) (λ_ _ _ _ _ _ us hl=>match us,hl with | [_,_,_],_=>rfl) rfl rfl) ?_
  refine And.intro (fe X G (T:=T) dg28 (by decide +kernel) (λ_ _ _ _ _ _ us hl=>match us,hl with | [_,_,_],_=>rfl) rfl rfl) ?_
  refine And.intro (fe X G (T:=T) dg29 (by decide +kernel) (λ_ _ _ _ _ _ us hl=>match us,hl with | [_,_,_],_=>rfl) rfl rfl) ?_
  refine And.intro (fe X G (T:=T) dg30 (by decide +kernel) (λ_ _ _ _ _ _ us hl=>match us,hl with | [_],_=>rfl) rfl rfl) ?_
  refine And.intro (fe X G (T:=T) dg31 (by decide +kernel) (λ_ _ _ _ _ _ us hl=>match us,hl with | [_,_],_=>rfl) rfl rfl) ?_
  refine And.intro (fe X G (T:=T) dg32 (by decide +kernel) (λ_ _ _ _ _ _ us hl=>match us,hl with | [_,_],_=>rfl) rfl rfl) ?_
  refine And.intro (fe X G (T:=T) dg33 (by decide +kernel) (λ_ _ _ _ _ _ us hl=>match us,hl with | [_,_,_],_=>rfl) rfl rfl) ?_
  refine And.intro (fe X G (T:=T) dg34 (by decide +kernel) (λ_ _ _ _ _ _ us hl=>match us,hl with | [_,_,_],_=>rfl) rfl rfl) ?_
  refine And.intro (fe X G (T:=T) dg35 (by decide +kernel) (λ_ _ _ _ _ _ us hl=>match us,hl with | [_,_,_],_=>rfl) rfl rfl) ?_
  refine And.intro (fe X G (T:=T) dg36 (by decide +kernel) (λ_ _ _ _ _ _ us hl=>match us,hl with | [_,_,_],_=>rfl) rfl rfl) ?_
  refine And.intro (fe X G (T:=T) dg37 (by decide +kernel) (λ_ _ _ _ _ _ us hl=>match us,hl with | [_],_=>rfl) rfl rfl) ?_
  refine And.intro (fe X G (T:=T) dg38 (by decide +kernel) (λ_ _ _ _ _ _ us hl=>match us,hl with | [_],_=>rfl) rfl rfl) ?_
  trivial
 have ok:=b7j (Rs:=Rs) (T:=T) (k:=8) (i:=38) (fd:=j8 (top 52) []) (c02 st fs 8) rfl FL rfl rfl (a1j (by decide +kernel))
 exact FnOk.imp ok (b0q c5f)
theorem walk {l:PySem.W.OpenLaw} {q:Program} {loose:List Str} {XP:(Str->Option Value)->Heap->Prop} {YP:World->Heap->Prop} {d:DefRec} {K:Params->PySem.W.Frag} (hn:l.most=some 63) (hdf:d.params.defaults=[])
  (hY:∀ (w:World) (h:Heap),YP w h->(K w.params).In h)
  (F:∀ (w:World) (mg:Str->Option Value) (fa:Addr) (h:Heap),(K w.params).In h->h.Ns mainGlobals mg->mg d.name=some (.ref fa) ->
   ∃ fd:FuncData,(∀ (s:Shared) (u:Value),BindsTo s fd ⟨[u],[]⟩ [("_law_script",u)])/\∀ base:Heap,(K w.params).In base->base.Ns mainGlobals mg->FnOk l.prog w (K w.params) mg base CX0 12 fa fd ["_law_script"] (a4y (K w.params))) :
  PySem.W.WalkO q loose XP YP l.row.toRowW d [] (λf vs=>PySem.call f vs):=
 L2.walk_of (n:=63) (k:=12) (x:="_law_script") (CX:=λ_=>CX0) (sp:=λw=>a4y (K w.params)) hn (by decide) hdf ⟨λ_=>rfl,by decide,by decide,rfl⟩ hY F (λ_ _ a ns hl _ hS=>⟨a,ns,rfl,hS,λ_=>rfl⟩) λ_ _ _ _ _ z=>z
end L3.K12
open PySem PySem.W PyProof.Rows
set_option maxRecDepth 100000 in
set_option maxHeartbeats 0 in
theorem PySem.Challenge.cw_handnames_k12_stands_of_nets_judged_holds : PySem.Challenge.rw_handnames_k12_stands_of_nets_judged.Holds := by
 w_on;o_law;k_head;(case hw=>w_witness2)
 k_fill
 refine L3.K12.walk (l:=PySem.Challenge.rw_handnames_k12_stands_of_nets_judged) rfl rfl (λw h Y=>PySem.W.kIn_of Y) ?F
 case F=>
  intro w mg fa h KX G hmg
  refine' L3.K12.all_mk KX G hmg ?_ ?_ ?_ ?_ ?_ ?_ ?_ ?_ ?_ ?_ ?_ ?_ ?_ ?_ ?_ ?_ ?_ ?_ ?_ ?_ ?_ ?_ ?_ ?_ ?_ ?_ ?_ ?_ ?_ ?_ ?_ ?_ ?_ ?_ ?_ ?_ ?_ ?_ ?_ ?_ ?_ ?_ ?_ ?_ ?_ ?_ ?_ ?_ ?_ ?_ ?_ ?_ ?_ ?_ ?_ ?_ ?_ ?_ ?_ ?_ ?_ ?_ ?_ ?_ ?_ ?_ ?_ ?_ ?_ ?_ ?_ ?_ ?_ ?_ ?_ ?_ ?_ ?_ ?_ ?_ ?_ ?_ ?_ ?_ ?_ ?_ ?_ ?_ ?_ ?_
  rotate_left 114
  iterate 42 k_is
  iterate 7 kernel_rfl
  iterate 39 (refine' L3.gf_mk ?a ?l ?c ?k;(case a=>k_is);(case l=>k_is);(case c=>k_is);(case k=>k_is))
  iterate 2 k_is
end
