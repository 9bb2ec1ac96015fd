import PyProof.Rows.All
import Wide.All
import OpenK.AllK
import Wide.FinOn
import Lean
import PyProof.EqAt
import PyProof.EqKinds
import PyProof.TupleCall
import PyProof.CompUse
import PyProof.P3Eq
import PyProof.NeData
import PyProof.P3In
import PyProof.EnumMake
import PyProof.Draws
import PyProof.ConsumeWalk
import PyProof.Rows.SetFrom
import PyProof.SetRoads
import PyProof.Rows.SortWalk
import PyProof.ListRange
import PyProof.WalksMore
import PySem.Challenge.RW_handnames_k55_weavings_of_rounds
set_option Elab.async false
set_option linter.all false
set_option maxRecDepth 100000
set_option maxHeartbeats 4000000
namespace PySem.W.Fast
def tw13353614882986276053:=0
def tw9850158682653609181:=0
def tw17657849629879194414:=0
def tw16834284153814404656:=0
def tw11104330089311986800:=0
def tw18073841975403278241:=0
def tw4115323369563299328:=0
def tw6732393217097662260:=0
def tw2741853793656139570:=0
def tw12108079333250927918:=0
def tw12772202152878221209:=0
def tw7817991894369113756:=0
def tw2321362871135023678:=0
def tw3475672510091729241:=0
def tw13160777352421132948:=0
def tw3555202456338050338:=0
def tw12683241612977773139:=0
def tw15453064486583890745:=0
def tw14527513022935963666:=0
def tw5661977621104356570:=0
def tw13444659206594854163:=0
def tw5871163537499825486:=0
def tw7063785072069148051:=0
def tw459468703322017786:=0
def tw467069378928043626:=0
def tw13481831954757659552:=0
def tw10121314221333219615:=0
def tw9393562062680328040:=0
def tw10906925527166544843:=0
def tw16642045446860370839:=0
def tw901656395935733517:=0
def tw13070671913408498336:=0
def tw8792633375176431401:=0
def tw10765838808716500622:=0
def tw12423088658758759442:=0
def tw10562136908688108735:=0
def tw16690531506519372562:=0
def tw17517820956893157070:=0
def tw14833814598458038889:=0
def tw5959816077034563901:=0
def tw10078649429111868244:=0
def tw4204042970129365876:=0
def tw4287276228664534:=0
def tw16314536179885941201:=0
def tw17802027712211723125:=0
def tw9055043347749637907:=0
def tw8081750094985774249:=0
def tw7832861951778112915:=0
def tw2582754891498131660:=0
def tw1673422558669464825:=0
def tw16667253169349605580:=0
def tw13446216157486050166:=0
def tw1668458972121431899:=0
def tw13916974701182171456:=0
def tw123573050636638351:=0
def tw17801757969679684161:=0
def tw4055336297726068032:=0
def tw16145043794124546553:=0
def tw6158782765280075132:=0
def tw7201409262836119166:=0
def tw10386269273136173049:=0
def tw15197138944534505054:=0
def tw8001452347415499288:=0
def tw1938456097603809365:=0
def tw10208314102606273729:=0
def tw9661932425344026786:=0
def tw12955241527416372028:=0
def tw15001000786840446193:=0
def tw1178518079863267488:=0
def tw16343256960915111871:=0
def tw7772254934005068226:=0
def tw14513536550331488789:=0
def tw8287527637202279901:=0
def tw8822912342997326913:=0
def tw4807516411600547956:=0
def tw6216550570877156580:=0
def tw12810222138302288702:=0
def tw10715752371183689152:=0
def tw6388899154868202061:=0
def tw17487729173164101913:=0
def tw13684085398187923939:=0
def tw10001767881196134870:=0
def tw16572016247514293966:=0
def tw15419138363919706289:=0
def tw971447600038883554:=0
def tw11687119962422842481:=0
def tw15542999858193891777:=0
def tw14155434250617775269:=0
def tw15200594822122228417:=0
def tw14948601235840632176:=0
def tw7667468855967271076:=0
def tw14190059020729604518:=0
def tw2535812679907548492:=0
def tw15164016955635108622:=0
def tw15850778621257361221:=0
def tw12331416955938150779:=0
def tw5073028842713004817:=0
def tw8426647539041423433:=0
def tw817318635126982019:=0
def tw12761606015972899731:=0
def tw7022520123624454020:=0
def tw14047028462568011671:=0
def tw12535373229811209184:=0
def tw16877580024442062655:=0
def tw7155669742742313582:=0
def tw16395902942896581461:=0
def tw5138220206787315610:=0
def tw6929307312424571727:=0
def tw8855433187650255784:=0
def tw2585794345653330176:=0
def tw1462253020442929038:=0
def tw3534115242803456606:=0
def tw14412461154534326387:=0
def tw17761690545633409081:=0
def tw12823504071445569829:=0
def tw12392594188019595041:=0
def tw4639825080307602245:=0
def tw8880724856087192917:=0
def tw1390430147488294473:=0
def tw11693354763258756027:=0
def tw18085293090674326819:=0
def tw12104935841073070779:=0
def tw1237596346471629575:=0
def tw2480097734905700022:=0
def tw16209358078271715860:=0
def tw1227315226855223009:=0
def tw13622326318957595072:=0
def tw8390374320769960848:=0
def tw11025513455793557442:=0
def tw436801815660795213:=0
def tw1256036004109387205:=0
def tw4280558094632903990:=0
def tw5896538973988433766:=0
def tw9602522302431959703:=0
def tw4436643169849901960:=0
def tw15760687761528680916:=0
def tw3966970132463468622:=0
def tw14971675114169136600:=0
def tw13844029495282277204:=0
def tw12466252504331352389:=0
def tw4200027582433849904:=0
def tw7961953330643061064:=0
def tw3448102743499936727:=0
def tw2890442890808496788:=0
def tw1430816824440372211:=0
def tw3748601531397107683:=0
def tw3432085013941737745:=0
def tw9354816712562346505:=0
def tw5324323355856243025:=0
def tw9061282665269123662:=0
def tw9208143509222592890:=0
def tw13434948080081445273:=0
def tw2327388653829965306:=0
def tw17244133217072910867:=0
def tw17390915049030880296:=0
def tw13920825664479633329:=0
def tw7887271797840501835:=0
def tw1146721478143948073:=0
def tw13199636625676443015:=0
def tw11953568925776563264:=0
def tw1222260237260035274:=0
def tw16031517293477774722:=0
def tw9505569528863665236:=0
def tw9726022597048223771:=0
def tw6286518114365012840:=0
def tw11099326430082874252:=0
def tw6753667497343832600:=0
def tw9910282597692592110:=0
def tw15743025164264665631:=0
def tw1109484414646375891:=0
def tw13815980907045331681:=0
def tw2122487692472569741:=0
def tw9646936486024988975:=0
def tw8947404365137900786:=0
def tw4677448873156439566:=0
def tw10944281629312346586:=0
def tw14712996131565492006:=0
def tw2999920938546843529:=0
def tw15105816958592473731:=0
def tw1120207226790973044:=0
def tw4930818018284046798:=0
def tw12967389761388855520:=0
def tw4833447015721938645:=0
def tw16237350751499582431:=0
def tw17686749743174217516:=0
def tw15019819531747190178:=0
def tw1605914800570775034:=0
def tw11459428545786031341:=0
def tw7860213093701882038:=0
def tw14909188637708903454:=0
def tw11928967537662975674:=0
def tw13331336171478335451:=0
def tw18259974146075611835:=0
def tw1343002108250028187:=0
def tw3372749062771840081:=0
def tw5641530439665301513:=0
def tw1829130481599587393:=0
def tw15466749248768664804:=0
def tw3456721484789626000:=0
def tw1252059890561754254:=0
def tw15189438083973886909:=0
def tw9449657557622323621:=0
def tw11401633538787544270:=0
def tw13885240030276507461:=0
def tw8281546441875281949:=0
def tw7080190077172973152:=0
def tw13065779045929047110:=0
def tw7852198179093909661:=0
def tw15777601179067113483:=0
def tw11645108185512111412:=0
def tw15359238365672770444:=0
def tw1461117866509225510:=0
def tw11521923616511367110:=0
def tw14092702801010381461:=0
def tw5051885415780164877:=0
def tw4295856419266554138:=0
def tw10263963793076188638:=0
def tw8963169505928847935:=0
def tw1086249389666130461:=0
def tw2961375926865247335:=0
def tw3476671287664429427:=0
def tw5345561825091158112:=0
def tw10930061675775029846:=0
def tw14302853592121508190:=0
def tw14123639485696014843:=0
def tw17861030280632917519:=0
def tw6796631175842395131:=0
def tw14495076553899917775:=0
def tw144244433809271573:=0
def tw5317720086704417917:=0
def tw13051475301071674395:=0
def tw13223324454364905268:=0
def tw2845351718687325047:=0
def tw2582102360081450481:=0
def tw6010699262870147106:=0
def tw1265763111356996930:=0
def tw17292999870545048224:=0
def tw12287917749653563525:=0
def tw15966341949584425346:=0
def tw4840866462315101679:=0
def tw8545853399389602614:=0
def tw13253257930184566184:=0
def tw17426097312369127689:=0
def tw6373419292424363415:=0
def tw8895249633585875639:=0
def tw16433208015300737565:=0
def tw15566868481875782133:=0
def tw3457115235181331123:=0
def tw14452099180438212974:=0
def tw1337118384492515145:=0
def tw10709018644724130233:=0
def tw6528400244073537717:=0
def tw2538773661176589500:=0
def tw13535583578704174565:=0
def tw899226564412520465:=0
def tw17091742651467764019:=0
def tw3224518254892074784:=0
def tw15525530660592360408:=0
def tw12290352659307239662:=0
def tw7829471930657385098:=0
def tw12556158690697237483:=0
def tw17640233456177259015:=0
def tw8188904494612787379:=0
def tw10928637180731333274:=0
def tw2718549981653395060:=0
def tw7075826085745598666:=0
def tw12050352190857875940:=0
def tw10195164892963044392:=0
def tw1696473939565872596:=0
def tw17190706158184393362:=0
def tw8798030207835710988:=0
def tw17928767182639419732:=0
def tw6881083275820608983:=0
def tw12791396340212922173:=0
def tw9468155766711825775:=0
def tw5444956686514221777:=0
def tw11476735196473282846:=0
end PySem.W.Fast
namespace L2
open PySem PySem.Spec PyProof.Rows
noncomputable abbrev Key:=Sum Int Str
noncomputable def a0h:Key->Value->Bool
 | .inl k,v=>Value.isInt k v
 | .inr x,v=>Value.isStrOf x v
noncomputable def c6a (w:World):Key->Int
 | .inl k=>hashInt k
 | .inr x=>hashStr w x
theorem j0:∀ {k:Key} {v:Value},a0h k v=true->(∃ i t,k=Sum.inl i/\v=Value.int i t)\/(∃ x t,k=Sum.inr x/\v=Value.str x t)
 | .inl i,v,h=>by
  obtain ⟨t,e⟩:=Value.isInt_shape (k:=i) (v:=v) h
  exact .inl ⟨i,t,rfl,e⟩
 | .inr x,v,h=>by
  obtain ⟨t,e⟩:=Value.isStrOf_shape (x:=x) (v:=v) h
  exact .inr ⟨x,t,rfl,e⟩
theorem a65 (i:Int) (t:Tok):a0h (.inl i) (.int i t)=true:=by simp [a0h,Value.isInt]
theorem a7p (x:Str) (t:Tok):a0h (.inr x) (.str x t)=true:=by simp [a0h,Value.isStrOf]
theorem b9r (a b:Int):decide ((Sum.inl a:Key)=Sum.inl b)=(a==b):=by
 by_cases e:a=b
 ·subst e;simp
 ·have h:¬ (Sum.inl a:Key)=Sum.inl b:=λq=>e (Sum.inl.inj q)
  rw [decide_eq_false h]
  exact (beq_eq_false_iff_ne.mpr e).symm
theorem b8h (a b:Str):decide ((Sum.inr a:Key)=Sum.inr b)=decide (a=b):=by
 by_cases e:a=b
 ·subst e;simp
 ·have h:¬ (Sum.inr a:Key)=Sum.inr b:=λq=>e (Sum.inr.inj q)
  rw [decide_eq_false h,decide_eq_false e]
theorem b8a (a:Int) (b:Str):decide ((Sum.inl a:Key)=Sum.inr b)=false:=decide_eq_false (λq=>nomatch q)
theorem b98 (a:Str) (b:Int):decide ((Sum.inr a:Key)=Sum.inl b)=false:=decide_eq_false (λq=>nomatch q)
noncomputable def k6 (prog:Program) (w:World):PySem.KeyKind prog w Key where
 is:=a0h
 hash:=c6a w
 inj:=λv a b ha hb=>by
  rcases j0 ha with ⟨i,t,rfl,rfl⟩ | ⟨x,t,rfl,rfl⟩
  ·rcases j0 hb with ⟨j,u,rfl,e⟩ | ⟨y,u,rfl,e⟩
   ·injection e with e1 _;rw [e1]
   ·exact nomatch e
  ·rcases j0 hb with ⟨j,u,rfl,e⟩ | ⟨y,u,rfl,e⟩
   ·exact nomatch e
   ·injection e with e1 _;rw [e1]
 byValue:=λk v h=>by
  rcases j0 h with ⟨i,t,rfl,rfl⟩ | ⟨x,t,rfl,rfl⟩ <;> rfl
 pyHash:=λhv h=>by
  rcases j0 hv with ⟨i,t,rfl,rfl⟩ | ⟨x,t,rfl,rfl⟩
  ·exact wpAny_pyHash_int h
  ·exact wpAny_pyHash_str h
 eqBool:=λhu hv h=>by
  rcases j0 hu with ⟨i,t,rfl,rfl⟩ | ⟨x,t,rfl,rfl⟩
  ·rcases j0 hv with ⟨j,u,rfl,rfl⟩ | ⟨y,u,rfl,rfl⟩
   ·rw [b9r] at h;exact wpAny_eqBool_int h
   ·rw [b8a] at h;exact SeqAt.EqAt.int_str i t y u _ _ _ _ h
  ·rcases j0 hv with ⟨j,u,rfl,rfl⟩ | ⟨y,u,rfl,rfl⟩
   ·rw [b98] at h;exact SeqAt.EqAt.str_int x t j u _ _ _ _ h
   ·rw [b8h] at h;exact wpAny_eqBool_str h
 «strs»:=λk x t v h=>by
  rcases j0 h with ⟨i,u,rfl,e⟩ | ⟨y,u,rfl,e⟩
  ·exact nomatch e
  ·injection e with e1 _
   subst e1
   cases v <;> rfl
theorem a20 (prog:Program) (w:World) (i:Int) (t:Tok):(k6 prog w).is (.inl i) (.int i t)=true:=a65 i t
theorem a2p (prog:Program) (w:World) (x:Str) (t:Tok):(k6 prog w).is (.inr x) (.str x t)=true:=a7p x t
inductive V where
 | non | bl (b:Bool) | int (i:Int) | str (x:Str) | byt (b:Array UInt8) | flt (b:UInt64) | ref (a:Addr) | ty (n:String)
 deriving DecidableEq
def RelV:V->Value->Prop
 | .non,u=>u=Value.none
 | .bl b,u=>u=Value.bool b
 | .int i,u=>∃ t,u=Value.int i t
 | .str x,u=>∃ t,u=Value.str x t
 | .byt b,u=>∃ t,u=Value.bytes b t
 | .flt b,u=>∃ t,u=Value.float b t
 | .ref a,u=>u=Value.ref a
 | .ty n,u=>u=Value.type n
noncomputable abbrev Vals:List V->List Value->Prop:=Paired RelV
theorem Vals.length {xs:List V} {us:List Value} (r:Vals xs us):xs.length=us.length:=Paired.length r
theorem Vals.get:∀ {xs:List V} {us:List Value} {i:Nat} {x:V},Vals xs us->xs[i]?=some x->∃ u,us[i]?=some u/\RelV x u
 | _,_,_,_,.nil,e=>by simp at e
 | _,_,0,_,.cons r _,e=>by simp at e;subst e;exact ⟨_,rfl,r⟩
 | _,_,i+1,x,.cons _ t,e=>by
  obtain ⟨u,h1,h2⟩:=Vals.get (i:=i) (x:=x) t (by simpa using e)
  exact ⟨u,by simpa using h1,h2⟩
theorem Vals.set {x:V} {u:Value} (r:RelV x u):∀ {xs:List V} {us:List Value} (i:Nat),Vals xs us->Vals (xs.set i x) (us.set i u)
 | _,_,_,.nil=>.nil
 | _,_,0,.cons _ t=>.cons r t
 | _,_,i+1,.cons q t=>.cons q (Vals.set r i t)
theorem Vals.append:∀ {xs ys:List V} {us ws:List Value},Vals xs us->Vals ys ws->Vals (xs++ys) (us++ws)
 | _,_,_,_,.nil,s=>s
 | _,_,_,_,.cons r t,s=>.cons r (Vals.append t s)
theorem Vals.take:∀ {xs:List V} {us:List Value} (n:Nat),Vals xs us->Vals (xs.take n) (us.take n)
 | _,_,0,_=>.nil
 | _,_,_+1,.nil=>.nil
 | _,_,n+1,.cons r t=>.cons r (Vals.take n t)
theorem Vals.drop:∀ {xs:List V} {us:List Value} (n:Nat),Vals xs us->Vals (xs.drop n) (us.drop n)
 | _,_,0,r=>r
 | _,_,_+1,.nil=>.nil
 | _,_,n+1,.cons _ t=>Vals.drop n t
def RelO:Option V->Option Value->Prop
 | some v,some u=>RelV v u
 | none,none=>True
 | _,_=>False
def KV {κ:Type}:List (κ×V)->List (κ×Value)->Prop:=Paired λ(p:κ×V) (q:κ×Value)=>p.1=q.1/\RelV p.2 q.2
noncomputable def kV:Key->V
 | .inl i=>.int i
 | .inr x=>.str x
inductive HO where
 | lst (xs:List V)
 | tup (xs:List V)
 | dK (kvs:List (Key×V)) | dT (kvs:List (List Key×V))
 | set (S:Int->Bool) (n:Nat)
 | ins (C dx:Addr) (fs:List (Str×V))
 | own (x:Addr)
 | xd (fs:List (Str×V))
 | met (f x:Addr)
 | rng (lo hi:Int)
 | frz (o:Obj) (u:HO)
 | tbl (ps:Array Value)
 | ext (φ:Heap->Prop)
noncomputable abbrev Hp:=Addr->Option HO
noncomputable def upd (H:Hp) (a:Addr) (o:HO):Hp:=λb=>if b=a then some o else H b
theorem b8 {H:Hp} {a:Addr} {o:HO}:upd H a o a=some o:=by unfold upd;rw [if_pos rfl]
theorem a8 {H:Hp} {a b:Addr} {o:HO} (h:b≠a):upd H a o b=H b:=by unfold upd;rw [if_neg h]
theorem b68 {H:Hp} {a b:Addr} {o u:HO} (h:H a=some o) (h':H b=some u) (d:o≠u):a≠b:=by
 intro e;subst e;rw [h] at h';exact d (Option.some.inj h')
theorem b6 {H:Hp} {a b:Addr} {o:HO} (h:H a=some o) (h':H b=none):a≠b:=by
 intro e;subst e;rw [h] at h';cases h'
def TupN (h:Heap) (a:Addr) (items:Array Value):Prop:=∃ o,h.get? a=some o/\o.cls=.type "tuple"/\∃ n,o.data=.seq items n/\o.dict=none
theorem TupN.is {h:Heap} {a:Addr} {items:Array Value} (x:TupN h a items):IsTup h a items:=let ⟨o,e,c,n,d,_⟩:=x;⟨o,e,c,n,d⟩
theorem TupN.new (h:Heap) (items:Array Value):TupN (h.push { cls:=.type "tuple",data:=.seq items }) h.objs.size items:=⟨_,Heap.get?_push_size _ rfl,rfl,_,rfl,rfl⟩
section
variable (P:Program) (w:World)
def ObjOk (H:Hp) (h:Heap) (a:Addr):HO->Prop
 | .lst xs=>xs.length<=sizeLine/\∃ (its:List Value) (n:Nat),Vals xs its/\h.get? a=some { cls:=.type "list",data:=.seq its.toArray n }
 | .tup xs=>xs.length<=sizeLine/\∃ its:List Value,Vals xs its/\TupN h a its.toArray
 | .dK kvs=>kvs.length<=sizeLine/\(a==sysModules)=false/\∃ vs,KV kvs vs/\h.DictOf (k6 P w) a vs
 | .dT kvs=>kvs.length<=sizeLine/\(a==sysModules)=false/\∃ xs:List (List Key×Addr×Value),
   Paired (λ(p:List Key×V) (q:List Key×Addr×Value)=>p.1=q.1/\H q.2.1=some (.tup (p.1.map kV))/\RelV p.2 q.2.2) kvs xs /\
   ∃ o es ep,h.get? a=some o/\o.ExactDict/\o.data=.dict es ep/\es.toList=xs.map (entryOfKey (tupleKind (k6 P w)))/\(xs.map (·.1)).Nodup
 | .set S n=>h.SetOf (intKind P w) a S n
 | .ins C dx fs=>H dx=some (.own a)/\fs.length<=1000/\dx≠a/\h.get? a=some (PySem.W.instObj C dx) /\
   ∃ mA,h.Ns1 dx mA/\(∀ f,RelO (fs.lookup f) (mA f))/\PySem.Within mA (fs.map (·.1))
 | .own _=>∃ o,h.get? a=some o
 | .xd fs=>∃ mA,h.Ns1 a mA/\∀ f,RelO (fs.lookup f) (mA f)
 | .rng lo hi=>∃ t u v,h.get? a=some { cls:=.type "range",data:=.fields #[.int lo t,.int hi u,.int 1 v] }
 | .frz o u=>h.get? a=some o/\ObjOk H h a u
 | .tbl ps=>h.get? a=some { cls:=.none,data:=.fields ps }
 | .met f x=>h.get? a=some (PySem.W.methodObj (.ref f) (.ref x))
 | .ext φ=>φ h/\(∃ o,h.get? a=some o)/\∀ h1 h2:Heap,φ h1->(∀ o,h1.get? a=some o->h2.get? a=some o)->φ h2
def HOk (H:Hp) (h:Heap):Prop:=∀ a o,H a=some o->ObjOk P w H h a o
end
section
variable {P:Program} {w:World} {H H':Hp} {h h':Heap} {a:Addr} {o:HO}
theorem ObjOk.lt (x:ObjOk P w H h a o):a<h.objs.size:=by
 cases o with
 | lst xs=>obtain ⟨_,_,_,_,e⟩:=x;exact Heap.lt_size e
 | tup xs=>obtain ⟨_,_,_,p⟩:=x;exact p.is.lt
 | dK kvs=>obtain ⟨_,_,_,_,o,_,_,e,_⟩:=x;exact Heap.lt_size e
 | dT kvs=>obtain ⟨_,_,_,_,o,_,_,e,_⟩:=x;exact Heap.lt_size e
 | set S n=>obtain ⟨o,_,_,_,e,_⟩:=x;exact Heap.lt_size e
 | ins C dx fs=>obtain ⟨_,_,_,e,_⟩:=x;exact Heap.lt_size e
 | own y=>obtain ⟨_,e⟩:=x;exact Heap.lt_size e
 | xd fs=>obtain ⟨_,⟨_,_,_,e,_⟩,_⟩:=x;exact Heap.lt_size e
 | rng lo hi=>obtain ⟨_,_,_,e⟩:=x;exact Heap.lt_size e
 | frz ob u=>obtain ⟨e,_⟩:=x;exact Heap.lt_size e
 | tbl ps=>exact Heap.lt_size (show h.get? a=some _ from x)
 | met f y=>exact Heap.lt_size (show h.get? a=some _ from x)
 | ext φ=>obtain ⟨_,⟨_,e⟩,_⟩:=x;exact Heap.lt_size e
theorem Paired.mapP {α β:Type} {F G:α->β->Prop}:∀ {l₁:List α} {l₂:List β},Paired F l₁ l₂->(∀ a b,F a b->G a b)->Paired G l₁ l₂
 | _,_,.nil,_=>.nil
 | _,_,.cons r t,f=>.cons (f _ _ r) (Paired.mapP t f)
theorem ObjOk.stay (x:ObjOk P w H h a o) (k:∀ b u,(b=a\/H b=some (.own a))->h.get? b=some u->h'.get? b=some u)
  (ho:∀ b,H b=some (.own a)->H' b=some (.own a)) (ht:∀ b xs,H b=some (.tup xs)->H' b=some (.tup xs)):ObjOk P w H' h' a o:=by
 induction o with
 | lst xs=>obtain ⟨z,its,n,r,e⟩:=x;exact ⟨z,its,n,r,k _ _ (.inl rfl) e⟩
 | tup xs=>obtain ⟨z,its,r,ob,e,c⟩:=x;exact ⟨z,its,r,ob,k _ _ (.inl rfl) e,c⟩
 | dK kvs=>obtain ⟨z,y,vs,r,ob,es,ep,e,c⟩:=x;exact ⟨z,y,vs,r,ob,es,ep,k _ _ (.inl rfl) e,c⟩
 | dT kvs=>
  obtain ⟨z,y,xs,r,ob,es,ep,e,c⟩:=x
  exact ⟨z,y,xs,Paired.mapP r λp q z=>⟨z.1,ht _ _ z.2.1,z.2.2⟩,ob,es,ep,k _ _ (.inl rfl) e,c⟩
 | set S n=>obtain ⟨ob,es,ep,t,e,c⟩:=x;exact ⟨ob,es,ep,t,k _ _ (.inl rfl) e,c⟩
 | ins C dx fs=>
  obtain ⟨d,z,ne,e,mA,⟨od,es,ep,e2,c⟩,r⟩:=x
  exact ⟨ho _ d,z,ne,k _ _ (.inl rfl) e,mA,⟨od,es,ep,k _ _ (.inr d) e2,c⟩,r⟩
 | own y=>obtain ⟨ob,e⟩:=x;exact ⟨ob,k _ _ (.inl rfl) e⟩
 | xd fs=>obtain ⟨mA,⟨od,es,ep,e,c⟩,r⟩:=x;exact ⟨mA,⟨od,es,ep,k _ _ (.inl rfl) e,c⟩,r⟩
 | rng lo hi=>obtain ⟨t,u,v,e⟩:=x;exact ⟨t,u,v,k _ _ (.inl rfl) e⟩
 | frz ob u ih=>obtain ⟨e,q⟩:=x;exact ⟨k _ _ (.inl rfl) e,ih q⟩
 | tbl ps=>
  have e:h.get? a=some { cls:=.none,data:=.fields ps }:=x
  show h'.get? a=some { cls:=.none,data:=.fields ps }
  exact k a _ (.inl rfl) e
 | met f y=>
  have e:h.get? a=some (PySem.W.methodObj (.ref f) (.ref y)):=x
  show h'.get? a=some (PySem.W.methodObj (.ref f) (.ref y))
  exact k a _ (.inl rfl) e
 | ext φ=>obtain ⟨p,⟨o,e⟩,st⟩:=x;exact ⟨st _ _ p λo q=>k _ _ (.inl rfl) q,⟨o,k _ _ (.inl rfl) e⟩,st⟩
theorem HOk.lt (x:HOk P w H h) (e:H a=some o):a<h.objs.size:=(x a o e).lt
theorem HOk.fresh (x:HOk P w H h) (e:h.objs.size<=a):H a=none:=by
 cases q:H a with
 | none=>rfl
 | some u=>exact absurd (Nat.lt_of_lt_of_le (x.lt q) e) (Nat.lt_irrefl _)
theorem HOk.kept (x:HOk P w H h) (k:∀ b u,h.get? b=some u->h'.get? b=some u):HOk P w H h':=λa o e=>
 (x a o e).stay (λb u _ q=>k b u q) (λ_ q=>q) λ_ _ q=>q
theorem HOk.laid (x:HOk P w H h) (k:∀ b u,h.get? b=some u->h'.get? b=some u) (hp:h.objs.size<=a) (new:ObjOk P w (upd H a o) h' a o):HOk P w (upd H a o) h':=λb u e=>by
 have hn:=x.fresh hp
 by_cases hb:b=a
 ·subst hb;rw [b8] at e;cases e;exact new
 ·rw [a8 hb] at e
  exact (x b u e).stay (λc v _ q=>k c v q) (λc q=>by rw [a8 (b6 q hn)];exact q) λc xs q=>by rw [a8 (b6 q hn)];exact q
end
def Rd (H:Hp) (a:Addr) (u:HO):Prop:=H a=some u\/∃ o,H a=some (.frz o u)
theorem Rd.ok {P:Program} {w:World} {H:Hp} {h:Heap} {a:Addr} {u:HO} (r:Rd H a u) (x:HOk P w H h):ObjOk P w H h a u:=by
 rcases r with r | ⟨o,r⟩
 ·exact x a u r
 ·obtain ⟨_,q⟩:=x a _ r
  exact q
def Mut:Option HO->Prop
 | some (.lst _)=>True
 | some (.dK _)=>True
 | some (.dT _)=>True
 | some (.set _ _)=>True
 | some (.ins _ _ _)=>True
 | some (.ext _)=>True
 | _=>False
section
variable {P:Program} {w:World} {H:Hp} {h h':Heap} {x e:Addr} {o':HO}
theorem HOk.write (ok:HOk P w H h) (mu:Mut (H x)) (he:e=x\/H e=some (.own x)) (k:∀ b u,b≠e->h.get? b=some u->h'.get? b=some u) (heo:∃ u,h'.get? e=some u)
  (new:ObjOk P w (upd H x o') h' x o'):HOk P w (upd H x o') h':=λb u q=>by
 have nown:∀ c y,H c=some (.own y)->c≠x:=λc y r z=>by subst z;rw [r] at mu;exact mu
 have ntup:∀ c xs,H c=some (.tup xs)->c≠x:=λc xs r z=>by subst z;rw [r] at mu;exact mu
 by_cases hb:b=x
 ·subst hb;rw [b8] at q;cases q;exact new
 ·rw [a8 hb] at q
  by_cases hbe:b=e
  ·have q':H b=some (.own x):=by
    rcases he with z | z
    ·exact absurd (hbe.trans z) hb
    ·rw [hbe];exact z
   rw [q] at q';cases q'
   obtain ⟨v,hv⟩:=heo
   exact ⟨v,by rw [hbe];exact hv⟩
  ·refine (ok b u q).stay (λc v hc r=>k c v ?_ r) (λc r=>by rw [a8 (nown c b r)];exact r) λc xs r=>by rw [a8 (ntup c xs r)];exact r
   rcases hc with rfl | hc
   ·exact hbe
   ·rintro rfl
    rcases he with z | z
    ·exact nown c b hc z
    ·rw [hc] at z;cases z;exact hb rfl
end
structure Un (fs ex:List Addr) (H H':Hp) (h h':Heap):Prop where
 keep:∀ b o,h.get? b=some o->H b=none->b∉fs->b∉ex->h'.get? b=some o
 slot:∀ b o,h.get? b=some o->H b=none->b∈fs->b∉ex->∃ sl,h'.get? b=some { o with slots:=sl }
 free:∀ b o,h.get? b=some o->H b=none->b∉ex->H' b=none
 there:∀ b o,h.get? b=some o->b∉ex->∃ o',h'.get? b=some o'
 tups:∀ b xs,H b=some (.tup xs)->H' b=some (.tup xs)
 frzs:∀ b o u,H b=some (.frz o u)->H' b=some (.frz o u)
 tbls:∀ b ps,H b=some (.tbl ps)->∃ more,H' b=some (.tbl (ps++more))
section
variable {fs fs' ex ex':List Addr} {H H1 H2:Hp} {h h1 h2 h':Heap} {a x e:Addr} {o:HO}
theorem Un.any (u:Un fs ex H H1 h h1) {b:Addr} {ob:Obj} (q:h.get? b=some ob) (n:H b=none) (hx:b∉ex):∃ sl,h1.get? b=some { ob with slots:=sl }:=by
 by_cases hb:b∈fs
 ·exact u.slot b ob q n hb hx
 ·exact ⟨ob.slots,u.keep b ob q n hb hx⟩
theorem Un.kept (k:∀ b u,h.get? b=some u->h'.get? b=some u):Un fs ex H H h h':=
 ⟨λb ob q _ _ _=>k b ob q,λb ob q _ _ _=>⟨ob.slots,k b ob q⟩,λ_ _ _ n _=>n,λb ob q _=>⟨ob,k b ob q⟩,λ_ _ q=>q,λ_ _ _ q=>q,λ_ ps q=>⟨#[],by rw [q];simp⟩⟩
theorem Un.refl:Un fs ex H H h h:=Un.kept λ_ _ q=>q
theorem Un.laid (k:∀ b u,h.get? b=some u->h'.get? b=some u) (hp:h.objs.size<=a) (hn:H a=none):Un fs ex H (upd H a o) h h' where
 keep:=λb u q _ _ _=>k b u q
 slot:=λb u q _ _ _=>⟨u.slots,k b u q⟩
 free:=λb u q n _=>by rw [a8 (Nat.ne_of_lt (Nat.lt_of_lt_of_le (Heap.lt_size q) hp))];exact n
 there:=λb u q _=>⟨u,k b u q⟩
 tups:=λb xs q=>by rw [a8 (b6 q hn)];exact q
 frzs:=λb u xs q=>by rw [a8 (b6 q hn)];exact q
 tbls:=λb ps q=>⟨#[],by rw [a8 (b6 q hn),q];simp⟩
theorem Un.write (mu:Mut (H x)) (he:e=x\/H e=some (.own x)) (k:∀ b u,b≠e->h.get? b=some u->h'.get? b=some u) (heo:∃ u,h'.get? e=some u):Un fs ex H (upd H x o) h h':=by
 have hx:∀ b,H b=none->b≠x:=λb n z=>by subst z;rw [n] at mu;exact mu
 have hb:∀ b,H b=none->b≠e:=λb n z=>by
  subst z
  rcases he with r | r
  ·exact hx b n r
  ·rw [n] at r;cases r
 have hm:∀ b u,H b=some u->¬ Mut (some u)->b≠x:=λb u q nm z=>by subst z;rw [q] at mu;exact nm mu
 refine ⟨λb u q n _ _=>k b u (hb b n) q,λb u q n _ _=>⟨u.slots,k b u (hb b n) q⟩,λb u q n _=>by rw [a8 (hx b n)];exact n,λb u q _=>?_,
  λb xs q=>by rw [a8 (hm b _ q λz=>z)];exact q,λb u xs q=>by rw [a8 (hm b _ q λz=>z)];exact q,λb ps q=>⟨#[],by rw [a8 (hm b _ q λz=>z),q];simp⟩⟩
 by_cases hbe:b=e
 ·subst hbe;exact heo
 ·exact ⟨u,k b u hbe q⟩
end
noncomputable def trk (h:Heap) (H:Hp):List Addr:=(List.range h.objs.size).filter λa=>(H a).isSome
noncomputable def a0p (h:Heap) (H:Hp):Heap:=PySem.W.hideAll h (trk h H)
theorem a7c (h:Heap) (H:Hp):(a0p h H).objs.size=h.objs.size:=PySem.W.hideAll_size _ _
theorem b05 {h:Heap} {H:Hp} {b:Addr} {o:Obj} (e:h.get? b=some o) (n:H b=none):(a0p h H).get? b=some o:=
 PySem.W.hideAll_get _ e λhm=>by
  have q:(H b).isSome=true:=(List.mem_filter.mp hm).2
  rw [n] at q;simp at q
theorem b3v {h:Heap} {H:Hp} {b:Addr} {o:Obj} (e:(a0p h H).get? b=some o):h.get? b=some o/\H b=none:=by
 have e':h.get? b=some o:=PySem.W.of_hideAll (trk h H) e
 refine ⟨e',?_⟩
 cases q:H b with
 | none=>rfl
 | some x=>
  have hm:b∈trk h H:=List.mem_filter.mpr ⟨List.mem_range.mpr (Heap.lt_size e'),by simp [q]⟩
  have z:(a0p h H).get? b=none:=PySem.W.hideAll_none (trk h H) hm
  rw [z] at e;cases e
structure Mod (K:PySem.W.Frag) (mg:Str->Option Value) (base:Heap):Prop where
 kin:K.In base
 glob:base.Ns mainGlobals mg
 blt:∃ mb,base.Ns builtinsNs mb/\∀ x:Str,x ≠ "__name__"->mb x=bootBuiltins x
 nolimit:base.NoLimit
structure Cx where
 prog:Program
 w:World
 K:PySem.W.Frag
 mg:Str->Option Value
 base:Heap
 A:Around
 N:List Str
 s₀:Shared
 H₀:Hp
 env:Env
 outer:List Env
 stack:List Env
 ex:List Addr
 fn:Str->Bool
 calm:Bool
 pn:List (Addr×Obj)
 xe:Value->Shared->Prop
noncomputable def frs (l:List Env):List Addr:=l.filterMap (·.frame)
noncomputable abbrev Cx.fs (X:Cx):List Addr:=frs X.outer
def Vis (sc:Scope) (x:Str):Prop:=sc.names.lookup x=some .local\/sc.names.lookup x=some .cell\/sc.names.lookup x=some .free
def Loc (sc:Scope) (x:Str):Prop:=sc.names.lookup x=some .local\/sc.names.lookup x=some .cell
def c5c (env:Env) (h:Heap) (m:Str->Option Value) (x:Str) (u:Value):Prop:=
 (env.kindOf x=some .local/\m x=some u)\/((env.kindOf x=some .cell\/env.kindOf x=some .free)/\∃ c,env.cells.lookup x=some c/\h.IsCell c (some u))
structure Cx.Ok (X:Cx):Prop where
 mod:Mod X.K X.mg X.base
 kind:X.env.scope.kind=.function
 glob:X.env.globals=mainGlobals
 blt:X.env.builtins=builtinsNs
 above:X.s₀.heap.objs.size<=X.env.locals
 inj:∀ x y c,X.env.cells.lookup x=some c->X.env.cells.lookup y=some c->x=y
 has:∀ x,(X.env.kindOf x=some .cell\/X.env.kindOf x=some .free)->∃ c,X.env.cells.lookup x=some c
 cab:∀ x c,X.fn x=true->X.env.cells.lookup x=some c->X.s₀.heap.objs.size<=c
 hd:X.calm=true->X.A.handled=none
 frames:X.A.frames=some X.stack
 stk:X.stack=X.outer\/(X.stack=X.env :: X.outer/\X.env.frame=some X.env.locals)
 exf:∀ b∈X.ex,b≠X.env.locals/\∀ x c,X.env.cells.lookup x=some c->c≠b
 bs:∀ b o,X.base.get? b=some o->X.s₀.heap.get? b=some o/\X.H₀ b=none
 bsz:X.base.objs.size<=X.s₀.heap.objs.size
 noex:∀ b o,X.base.get? b=some o->b∉X.ex
 exfs:∀ b∈X.ex,b∉X.fs
 funs:X.s₀.heap.FunFrames X.base X.outer
 frf:∀ b∈X.fs,X.H₀ b=none
structure Inv (X:Cx) (pins:List (Addr×Obj)) (σ:List (Option V)) (H:Hp) (s:Shared):Prop where
 ok:X.Ok
 os:s.os=X.s₀.os
 bare:AllBare s.gens
 base:Un X.fs X.ex X.H₀ H X.s₀.heap s.heap
 loc:∃ m,s.heap.Ns X.env.locals m/\∀ (i:Nat) (x:Str) (v:V),X.N[i]?=some x->σ[i]?=some (some v)->Vis X.env.scope x->∃ u,RelV v u/\c5c X.env s.heap m x u
 cell:∀ x c,X.env.cells.lookup x=some c->∃ v,s.heap.IsCell c v
 free:H X.env.locals=none
 freeC:∀ x c,X.env.cells.lookup x=some c->H c=none
 pin:∀ p∈X.pn++pins,s.heap.get? p.1=some p.2/\H p.1=none/\p.1≠X.env.locals/\p.1∉X.fs/\∀ v,p.2.data≠.cell v
 hok:HOk X.prog X.w H s.heap
 len:σ.length=X.N.length
section
variable {X:Cx} {pins:List (Addr×Obj)} {σ:List (Option V)} {H H':Hp} {s:Shared} {h':Heap}
theorem Cx.Ok.nofr (ok:X.Ok) {b:Addr} {o:Obj} (e:X.base.get? b=some o):b∉X.fs:=λhb=>by
 have:=(ok.funs.mem hb).1
 rw [e] at this;cases this
theorem Inv.bs (I:Inv X pins σ H s):∀ b o,X.base.get? b=some o->s.heap.get? b=some o/\H b=none:=λb o e=>
 ⟨I.base.keep b o (I.ok.bs b o e).1 (I.ok.bs b o e).2 (I.ok.nofr e) (I.ok.noex b o e),I.base.free b o (I.ok.bs b o e).1 (I.ok.bs b o e).2 (I.ok.noex b o e)⟩
theorem Inv.bk (I:Inv X pins σ H s):∀ b o,X.base.get? b=some o->s.heap.get? b=some o:=λb o e=>(I.bs b o e).1
theorem Inv.mod (I:Inv X pins σ H s):Mod X.K X.mg X.base:=I.ok.mod
theorem Inv.kIn (I:Inv X pins σ H s):X.K.In s.heap:=I.ok.mod.kin.keeps I.bk
theorem Inv.fr (I:Inv X pins σ H s):∃ m,Fr X.base X.env.locals s.heap m:=
 let ⟨m,hn,_⟩:=I.loc
 ⟨m,hn,I.bk,Nat.le_trans I.ok.bsz I.ok.above⟩
theorem Inv.lt (I:Inv X pins σ H s):X.env.locals<s.heap.objs.size:=let ⟨_,hn,_⟩:=I.loc;hn.lt
theorem Inv.sz (I:Inv X pins σ H s):X.s₀.heap.objs.size<=s.heap.objs.size:=Nat.le_trans I.ok.above (Nat.le_of_lt I.lt)
theorem Inv.nofs (I:Inv X pins σ H s) {a:Addr} (h:s.heap.objs.size<=a):a∉X.fs:=λhb=>by
 obtain ⟨_,o,ho,_⟩:=I.ok.funs.mem hb
 exact absurd (Nat.lt_of_lt_of_le (Heap.lt_size ho) (Nat.le_trans I.sz h)) (Nat.lt_irrefl _)
theorem Inv.cne (I:Inv X pins σ H s):∀ x c,X.env.cells.lookup x=some c->c≠X.env.locals:=λx c e z=>by
 obtain ⟨v,o,ho,hd⟩:=I.cell x c e
 obtain ⟨m,⟨o',es,ep,ho',hd',_⟩,_⟩:=I.loc
 rw [z,ho'] at ho;cases ho;rw [hd'] at hd;cases hd
theorem Inv.funs (I:Inv X pins σ H s):s.heap.FunFrames X.base X.outer:=by
 have all:∀ (l:List Env),(∀ b∈frs l,b∈X.fs)->X.s₀.heap.FunFrames X.base l->s.heap.FunFrames X.base l:=by
  intro l
  induction l with
  | nil=>intro _ _;trivial
  | cons env r ih=>
   intro hs hl
   obtain ⟨hk,⟨L,o,hf,hn,ho,hd⟩,hr⟩:=hl
   have hL:L∈X.fs:=hs L (by unfold frs;rw [List.filterMap_cons,hf];exact List.mem_cons_self)
   obtain ⟨sl,e⟩:=I.base.slot L o ho (I.ok.frf L hL) hL λz=>I.ok.exfs L z hL
   exact ⟨hk,⟨L,_,hf,hn,e,hd⟩,ih (λb hb=>hs b (by unfold frs;rw [List.filterMap_cons,hf];exact List.mem_cons_of_mem _ hb)) hr⟩
 exact all X.outer (λ_ hb=>hb) I.ok.funs
theorem Inv.stack (I:Inv X pins σ H s):s.heap.FunFrames X.base X.stack:=by
 rcases I.ok.stk with e | ⟨e,hf⟩
 ·rw [e];exact I.funs
 ·rw [e]
  obtain ⟨m,hn,_⟩:=I.loc
  refine .cons (by rw [I.ok.kind];decide) hf hn ?_ I.funs
  exact Heap.get?_none_of_le (Nat.le_trans I.ok.bsz I.ok.above)
theorem Inv.stkSub (I:Inv X pins σ H s):∀ b∈frs X.stack,b∈X.env.locals :: X.fs:=λb hb=>by
 rcases I.ok.stk with e | ⟨e,hf⟩
 ·rw [e] at hb;exact List.mem_cons_of_mem _ hb
 ·rw [e] at hb
  unfold frs at hb
  rw [List.filterMap_cons,hf] at hb
  exact hb
theorem Inv.stkFree (I:Inv X pins σ H s):∀ b∈frs X.stack,H b=none:=λb hb=>by
 rcases List.mem_cons.mp (I.stkSub b hb) with e | hb
 ·rw [e];exact I.free
 ·obtain ⟨_,o,ho,_⟩:=I.ok.funs.mem hb
  exact I.base.free b o ho (I.ok.frf b hb) λz=>I.ok.exfs b z hb
theorem Inv.step {g':Array GenState} {t':Nat} {d':Drawn} {ch:List Addr} (I:Inv X pins σ H s)
  (hch:∀ b∈ch,(b∈X.ex\/X.s₀.heap.objs.size<=b)/\b≠X.env.locals/\(∀ x c,X.env.cells.lookup x=some c->c≠b)/\∀ p∈X.pn++pins,p.1≠b)
  (keep:∀ b o,b≠X.env.locals->b∉X.fs->b∉ch->s.heap.get? b=some o->H b=none->h'.get? b=some o)
  (slot:∀ b o,b≠X.env.locals->b∈X.fs->b∉ch->s.heap.get? b=some o->H b=none->∃ sl,h'.get? b=some { o with slots:=sl }) (free:∀ b o,b∉ch->s.heap.get? b=some o->H b=none->H' b=none)
  (there:∀ b o,b∉ch->s.heap.get? b=some o->∃ o',h'.get? b=some o')
  (tups:∀ b xs,H b=some (.tup xs)->H' b=some (.tup xs)) (frzs:∀ b o u,H b=some (.frz o u)->H' b=some (.frz o u)) (tbls:∀ b ps,H b=some (.tbl ps)->∃ more,H' b=some (.tbl (ps++more)))
  (ns:∀ m,s.heap.Ns X.env.locals m->h'.Ns X.env.locals m) (hok:HOk X.prog X.w H' h') (hg:AllBare g') :
  Inv X pins σ H' { s with heap:=h',gens:=g',drawn:=d',toks:=t' }:=by
 have neL:∀ b o,X.s₀.heap.get? b=some o->b≠X.env.locals:=λb o e=>Nat.ne_of_lt (Nat.lt_of_lt_of_le (Heap.lt_size e) I.ok.above)
 have neC:∀ b o,X.s₀.heap.get? b=some o->b∉X.ex->b∉ch:=λb o e hx hb=>by
  rcases (hch b hb).1 with z | z
  ·exact hx z
  ·exact absurd (Nat.lt_of_lt_of_le (Heap.lt_size e) z) (Nat.lt_irrefl _)
 have cellK:∀ x c,X.env.cells.lookup x=some c->∀ v,s.heap.IsCell c v->h'.IsCell c v:=λx c e v ⟨o,ho,hd⟩=>by
  have nch:c∉ch:=λz=>(hch c z).2.2.1 x c e rfl
  by_cases hc:c∈X.fs
  ·obtain ⟨sl,q⟩:=slot c o (I.cne x c e) hc nch ho (I.freeC x c e)
   exact ⟨_,q,hd⟩
  ·exact ⟨o,keep c o (I.cne x c e) hc nch ho (I.freeC x c e),hd⟩
 refine ⟨I.ok,I.os,hg,⟨λb o e n hb hx=>?_,λb o e n hb hx=>?_,λb o e n hx=>?_,λb o e hx=>?_,λb xs e=>tups b xs (I.base.tups b xs e),λb o xs e=>frzs b o xs (I.base.frzs b o xs e),λb ps e=>?_⟩,?_,λx c e=>?_,?_,λx c e=>?_,λp hp=>?_,hok,I.len⟩
 ·exact keep b o (neL b o e) hb (neC b o e hx) (I.base.keep b o e n hb hx) (I.base.free b o e n hx)
 ·obtain ⟨sl,e1⟩:=I.base.slot b o e n hb hx
  obtain ⟨sl',e2⟩:=slot b _ (neL b o e) hb (neC b o e hx) e1 (I.base.free b o e n hx)
  exact ⟨sl',e2⟩
 ·obtain ⟨o',e1⟩:=I.base.there b o e hx
  exact free b o' (neC b o e hx) e1 (I.base.free b o e n hx)
 ·obtain ⟨o',e1⟩:=I.base.there b o e hx
  exact there b o' (neC b o e hx) e1
 ·obtain ⟨m1,e1⟩:=I.base.tbls b ps e
  obtain ⟨m2,e2⟩:=tbls b _ e1
  exact ⟨m1++m2,by rw [e2,Array.append_assoc]⟩
 ·obtain ⟨m,hn,hl⟩:=I.loc
  refine ⟨m,ns m hn,λi x v e1 e2 e3=>?_⟩
  obtain ⟨u,r,l⟩:=hl i x v e1 e2 e3
  refine ⟨u,r,?_⟩
  rcases l with l | ⟨k,c,e,z⟩
  ·exact .inl l
  ·exact .inr ⟨k,c,e,cellK x c e _ z⟩
 ·obtain ⟨v,z⟩:=I.cell x c e
  exact ⟨v,cellK x c e v z⟩
 ·obtain ⟨m,⟨o,_,_,ho,_⟩,_⟩:=I.loc
  exact free _ o (λz=>(hch _ z).2.1 rfl) ho I.free
 ·obtain ⟨v,o,ho,hd⟩:=I.cell x c e
  exact free c o (λz=>(hch c z).2.2.1 x c e rfl) ho (I.freeC x c e)
 ·obtain ⟨e,n,ne,nf,d⟩:=I.pin p hp
  have nch:p.1∉ch:=λz=>(hch p.1 z).2.2.2 p hp rfl
  exact ⟨keep p.1 p.2 ne nf nch e n,free p.1 p.2 nch e n,ne,nf,d⟩
theorem Inv.un {t':Nat} (I:Inv X pins σ H s) (u:Un X.fs [] H H' s.heap h') (hok:HOk X.prog X.w H' h'):Inv X pins σ H' { s with heap:=h',toks:=t' }:=by
 obtain ⟨m,⟨o,es,ep,ho,r⟩,_⟩:=id I.loc
 obtain ⟨sl,hL⟩:=u.any ho I.free (by simp)
 exact I.step (g':=s.gens) (d':=s.drawn) (ch:=[]) (λ_ z=>nomatch z) (λb o _ hb _ e n=>u.keep b o e n hb (by simp)) (λb o _ hb _ e n=>u.slot b o e n hb (by simp)) (λb o _ e n=>u.free b o e n (by simp)) (λb o _ e=>u.there b o e (by simp)) u.tups u.frzs u.tbls (λm' hm=>by
  obtain ⟨o',es',ep',ho',r'⟩:=hm
  rw [ho] at ho';cases ho'
  exact ⟨_,es',ep',hL,r'⟩) hok I.bare
theorem Inv.call {g':Array GenState} {t':Nat} {d':Drawn} {ch:List Addr} (I:Inv X pins σ H s) (u:Un (frs X.stack) ch H H' s.heap h') (hok:HOk X.prog X.w H' h') (hg:AllBare g')
  (hch:∀ b∈ch,(b∈X.ex\/X.s₀.heap.objs.size<=b)/\b≠X.env.locals/\(∀ x c,X.env.cells.lookup x=some c->c≠b)/\∀ p∈X.pn++pins,p.1≠b) :
  Inv X pins σ H' { s with heap:=h',gens:=g',drawn:=d',toks:=t' }:=by
 obtain ⟨m,⟨o,es,ep,ho,r⟩,_⟩:=id I.loc
 obtain ⟨sl,hL⟩:=u.any ho I.free λz=>(hch _ z).2.1 rfl
 exact I.step (ch:=ch) hch (λb o hL hb hc e n=>u.keep b o e n (λz=>(List.mem_cons.mp (I.stkSub b z)).elim hL hb) hc) (λb o _ _ hc e n=>u.any e n hc) (λb o hc e n=>u.free b o e n hc) (λb o hc e=>u.there b o e hc) u.tups u.frzs u.tbls (λm' hm=>by
  obtain ⟨o',es',ep',ho',r'⟩:=hm
  rw [ho] at ho';cases ho'
  exact ⟨_,es',ep',hL,r'⟩) hok hg
theorem Inv.turned {t':Nat} {it:Addr} (I:Inv X pins σ H s) (k:∀ b o,b≠it->s.heap.get? b=some o->h'.get? b=some o) (hn:H it=none) (hL:it≠X.env.locals)
  (h1:it∈X.ex\/X.s₀.heap.objs.size<=it) (h2:∀ x c,X.env.cells.lookup x=some c->c≠it) (h3:∀ p∈X.pn++pins,p.1≠it):Inv X pins σ H { s with heap:=h',toks:=t' }:=by
 have nit:∀ b u,H b=some u->b≠it:=λb u e z=>by rw [z,hn] at e;cases e
 refine I.step (g':=s.gens) (d':=s.drawn) (ch:=[it]) (λb hb=>?_) (λb o _ _ hc e _=>k b o (λz=>hc (by simp [z])) e) (λb o _ _ hc e _=>⟨o.slots,k b o (λz=>hc (by simp [z])) e⟩) (λ_ _ _ _ n=>n)
  (λb o hc e=>⟨o,k b o (λz=>hc (by simp [z])) e⟩) (λ_ _ e=>e) (λ_ _ _ e=>e) (λb ps e=>⟨#[],by rw [e];simp⟩) (λm hm=>?_) (λb u e=>?_) I.bare
 ·have e:b=it:=by simpa using hb
  subst e
  exact ⟨h1,hL,h2,h3⟩
 ·obtain ⟨o,es,ep,ho,r⟩:=hm
  exact ⟨o,es,ep,k _ o (Ne.symm hL) ho,r⟩
 ·refine (I.hok b u e).stay (λc v hc q=>k c v ?_ q) (λ_ q=>q) λ_ _ q=>q
  rcases hc with z | z
  ·rw [z];exact nit b u e
  ·exact nit c _ z
theorem Inv.tok (I:Inv X pins σ H s) (t:Nat):Inv X pins σ H { s with toks:=t }:=I.un (h':=s.heap) (t':=t) Un.refl I.hok
theorem Inv.kept {t':Nat} (I:Inv X pins σ H s) (k:∀ b u,s.heap.get? b=some u->h'.get? b=some u):Inv X pins σ H { s with heap:=h',toks:=t' }:=I.un (Un.kept k) (I.hok.kept k)
theorem Inv.laid {a:Addr} {o:HO} {t':Nat} (I:Inv X pins σ H s) (k:∀ b u,s.heap.get? b=some u->h'.get? b=some u) (hp:s.heap.objs.size<=a) (new:ObjOk X.prog X.w (upd H a o) h' a o) :
  Inv X pins σ (upd H a o) { s with heap:=h',toks:=t' }:=I.un (Un.laid k hp (I.hok.fresh hp)) (I.hok.laid k hp new)
theorem Inv.write {x e:Addr} {o:HO} {t':Nat} (I:Inv X pins σ H s) (mu:Mut (H x)) (he:e=x\/H e=some (.own x)) (k:∀ b u,b≠e->s.heap.get? b=some u->h'.get? b=some u) (heo:∃ u,h'.get? e=some u)
  (new:ObjOk X.prog X.w (upd H x o) h' x o):Inv X pins σ (upd H x o) { s with heap:=h',toks:=t' }:=I.un (Un.write mu he k heo) (I.hok.write mu he k heo new)
theorem Inv.weak {σ':List (Option V)} (I:Inv X pins σ H s) (hl:σ'.length=σ.length) (w:∀ (i:Nat) v,σ'[i]?=some (some v)->σ[i]?=some (some v)):Inv X pins σ' H s:=
 ⟨I.ok,I.os,I.bare,I.base,let ⟨m,hn,hl'⟩:=I.loc;⟨m,hn,λi x v e1 e2 e3=>hl' i x v e1 (w i v e2) e3⟩,I.cell,I.free,I.freeC,I.pin,I.hok,hl.trans I.len⟩
theorem Inv.pins_of {pins':List (Addr×Obj)} (I:Inv X pins σ H s) (h:∀ p∈pins',s.heap.get? p.1=some p.2/\H p.1=none/\p.1≠X.env.locals/\p.1∉X.fs/\∀ v,p.2.data≠.cell v):Inv X pins' σ H s:=
 ⟨I.ok,I.os,I.bare,I.base,I.loc,I.cell,I.free,I.freeC,λp hp=>(List.mem_append.mp hp).elim (λz=>I.pin p (List.mem_append_left _ z)) (h p),I.hok,I.len⟩
theorem V9 {N:List Str} (hN:N.Nodup) {i j:Nat} {x:Str} (a:N[i]?=some x) (b:N[j]?=some x):i=j:=by
 obtain ⟨h1,e1⟩:=List.getElem?_eq_some_iff.mp a
 obtain ⟨h2,e2⟩:=List.getElem?_eq_some_iff.mp b
 exact (List.getElem_inj hN).mp (e1.trans e2.symm)
theorem O4 {M:Model} {A:Around} {E:Value->Shared->Prop} {i:Nat} {x:Str} {v:V} {u:Value} {Q:Unit->Shared->Prop} (I:Inv X pins σ H s) (hN:X.N.Nodup) (hi:X.N[i]?=some x) (hx:Loc X.env.scope x) (r:RelV v u)
  (h:∀ s',Inv X pins (σ.set i (some v)) H s'->(∃ a,Heap.SameBut a s.heap s'.heap/\(a=X.env.locals\/X.env.cells.lookup x=some a))->Q () s') (hf:X.fn x=true\/X.env.scope.names.lookup x=some .local:=by first | exact .inl rfl | exact .inr rfl | assumption):wpAny M A (storeName X.env x u) Q E s:=by
 obtain ⟨m,hn,hl⟩:=id I.loc
 have hcls:(X.env.scope.kind==.class||(X.env.scope.kind==.module&&X.env.locals != X.env.globals))=false:=by rw [I.ok.kind];rfl
 have hiσ:i<σ.length:=by rw [I.len];exact (List.getElem?_eq_some_iff.mp hi).1
 have cne:=I.cne
 have tracked:∀ {a:Addr} {h':Heap},(∃ o,s.heap.get? a=some o/\H a=none)->Heap.SameBut a s.heap h'->HOk X.prog X.w H h':=λ{a h'} ha hs b ob e=>by
  obtain ⟨_,_,hfree⟩:=ha
  refine (I.hok b ob e).stay (λc w' hc q=>(hs.2 c ?_).trans q) (λ_ q=>q) λ_ _ q=>q
  rintro rfl
  rcases hc with rfl | hc
  ·rw [hfree] at e;cases e
  ·rw [hfree] at hc;cases hc
 rcases hx with hk | hk
 ·refine wpAny_storeName_local hk hn (λh' hn' hs=>?_) hcls
  obtain ⟨oL,_,_,hoL,_⟩:=id hn
  refine h _ ⟨I.ok,I.os,I.bare,⟨λb o e n hb hx=>?_,λb o e n hb hx=>?_,I.base.free,λb o e hx=>?_,I.base.tups,I.base.frzs,I.base.tbls⟩,⟨_,hn',λj y v' e1 e2 e3=>?_⟩,λy c e=>?_,I.free,I.freeC,λp hp=>?_,tracked ⟨oL,hoL,I.free⟩ hs,by simpa using I.len⟩ ⟨_,hs,.inl rfl⟩
  ·exact (hs.2 b (Nat.ne_of_lt (Nat.lt_of_lt_of_le (Heap.lt_size e) I.ok.above))).trans (I.base.keep b o e n hb hx)
  ·obtain ⟨sl,e1⟩:=I.base.slot b o e n hb hx
   exact ⟨sl,(hs.2 b (Nat.ne_of_lt (Nat.lt_of_lt_of_le (Heap.lt_size e) I.ok.above))).trans e1⟩
  ·obtain ⟨o',e1⟩:=I.base.there b o e hx
   exact ⟨o',(hs.2 b (Nat.ne_of_lt (Nat.lt_of_lt_of_le (Heap.lt_size e) I.ok.above))).trans e1⟩
  ·by_cases hj:j=i
   ·subst hj
    rw [hi] at e1;cases e1
    rw [List.getElem?_set_self hiσ] at e2
    cases e2
    exact ⟨u,r,.inl ⟨hk,by simp⟩⟩
   ·rw [List.getElem?_set_ne (Ne.symm hj)] at e2
    obtain ⟨u',r',q⟩:=hl j y v' e1 e2 e3
    refine ⟨u',r',?_⟩
    rcases q with ⟨k,e⟩ | ⟨k,c,e,z⟩
    ·refine .inl ⟨k,?_⟩
     have:y≠x:=λe=>hj (V9 hN e1 (e▸hi))
     simp [this,e]
    ·exact .inr ⟨k,c,e,z.sameBut hs (cne y c e)⟩
  ·obtain ⟨w',z⟩:=I.cell y c e
   exact ⟨w',z.sameBut hs (cne y c e)⟩
  ·obtain ⟨e,n,ne,nf,d⟩:=I.pin p hp
   exact ⟨(hs.2 p.1 ne).trans e,n,ne,nf,d⟩
 ·have hfn:X.fn x=true:=by
   rcases hf with z | z
   ·exact z
   ·rw [z] at hk;cases hk
  obtain ⟨c,hc⟩:=I.ok.has x (.inl hk)
  obtain ⟨w',z⟩:=I.cell x c hc
  refine wpAny_storeName_cell I.ok.kind hk hc z (λh' hc' hs=>?_)
  obtain ⟨oc,hoc,hocd⟩:=id z
  refine h { s with heap:=h' } ⟨I.ok,I.os,I.bare,⟨λb o e n hb hx=>?_,λb o e n hb hx=>?_,I.base.free,λb o e hx=>?_,I.base.tups,I.base.frzs,I.base.tbls⟩,⟨m,hn.sameBut hs (Ne.symm (cne x c hc)),λj y v' e1 e2 e3=>?_⟩,λy c' e=>?_,I.free,I.freeC,λp hp=>?_,tracked ⟨oc,hoc,I.freeC x c hc⟩ hs,by simpa using I.len⟩ ⟨c,hs,.inr hc⟩
  ·exact (hs.2 b (Nat.ne_of_lt (Nat.lt_of_lt_of_le (Heap.lt_size e) (I.ok.cab x c hfn hc)))).trans (I.base.keep b o e n hb hx)
  ·obtain ⟨sl,e1⟩:=I.base.slot b o e n hb hx
   exact ⟨sl,(hs.2 b (Nat.ne_of_lt (Nat.lt_of_lt_of_le (Heap.lt_size e) (I.ok.cab x c hfn hc)))).trans e1⟩
  ·obtain ⟨o',e1⟩:=I.base.there b o e hx
   exact ⟨o',(hs.2 b (Nat.ne_of_lt (Nat.lt_of_lt_of_le (Heap.lt_size e) (I.ok.cab x c hfn hc)))).trans e1⟩
  ·by_cases hj:j=i
   ·subst hj
    rw [hi] at e1;cases e1
    rw [List.getElem?_set_self hiσ] at e2
    cases e2
    exact ⟨u,r,.inr ⟨.inl hk,c,hc,hc'⟩⟩
   ·rw [List.getElem?_set_ne (Ne.symm hj)] at e2
    obtain ⟨u',r',q⟩:=hl j y v' e1 e2 e3
    refine ⟨u',r',?_⟩
    rcases q with q | ⟨k,c',e,z'⟩
    ·exact .inl q
    ·refine .inr ⟨k,c',e,z'.sameBut hs ?_⟩
     rintro rfl
     exact hj (V9 hN e1 (I.ok.inj _ _ _ e hc▸hi))
  ·by_cases hcc:c'=c
   ·subst hcc;exact ⟨_,hc'⟩
   ·obtain ⟨w2,z2⟩:=I.cell y c' e
    exact ⟨w2,z2.sameBut hs hcc⟩
  ·obtain ⟨e,n,ne,nf,d⟩:=I.pin p hp
   refine ⟨(hs.2 p.1 ?_).trans e,n,ne,nf,d⟩
   intro q
   rw [q,hoc] at e
   have q':oc=p.2:=Option.some.inj e
   exact d w' (by rw [<- q'];exact hocd)
theorem E4 {M:Model} {A:Around} {E:Value->Shared->Prop} {i:Nat} {x:Str} {v:V} {u:Value} {Q:Unit->Shared->Prop} (I:Inv X pins σ H s) (hN:X.N.Nodup) (hi:X.N[i]?=some x) (hx:Loc X.env.scope x) (r:RelV v u)
  (h:∀ s',Inv X pins (σ.set i (some v)) H s'->Q () s') (hf:X.fn x=true\/X.env.scope.names.lookup x=some .local:=by first | exact .inl rfl | exact .inr rfl | assumption):wpAny M A (storeName X.env x u) Q E s:=
 O4 I hN hi hx r (λs' I' _=>h s' I') hf
theorem Inv.call' {s':Shared} {ch:List Addr} (I:Inv X pins σ H s) (ho:s'.os=s.os) (u:Un (frs X.stack) ch H H' s.heap s'.heap) (hok:HOk X.prog X.w H' s'.heap) (hg:AllBare s'.gens)
  (hch:∀ b∈ch,(b∈X.ex\/X.s₀.heap.objs.size<=b)/\b≠X.env.locals/\(∀ x c,X.env.cells.lookup x=some c->c≠b)/\∀ p∈X.pn++pins,p.1≠b):Inv X pins σ H' s':=by
 obtain ⟨h',g',d',t',o'⟩:=s'
 have e:o'=s.os:=ho
 subst e
 exact I.call (g':=g') (t':=t') (d':=d') u hok hg hch
end
noncomputable abbrev XK:=Value->Option Addr->Hp->Prop
noncomputable abbrev St:=List (Option V)
noncomputable abbrev VK:=V->Hp->Prop
noncomputable abbrev TE:=St->Hp->VK->Prop
noncomputable abbrev TT:=St->Hp->(Bool->Hp->Prop)->Prop
noncomputable abbrev TA:=St->Hp->(List V->Hp->Prop)->Prop
structure Ends where
 nx:St->Hp->Prop
 rt:VK
 bk:St->Hp->Prop:=λ_ _=>False
 ct:St->Hp->Prop:=λ_ _=>False
noncomputable abbrev TS:=Ends->St->Hp->Prop
def EP (X:Cx) (pins:List (Addr×Obj)) (σ:St) (Q:VK) (u:Value) (s':Shared):Prop:=∃ v H',Inv X pins σ H' s'/\RelV v u/\Q v H'
def TP (X:Cx) (pins:List (Addr×Obj)) (σ:St) (Q:Bool->Hp->Prop) (b:Bool) (s':Shared):Prop:=∃ H',Inv X pins σ H' s'/\Q b H'
def AP (X:Cx) (pins:List (Addr×Obj)) (σ:St) (Q:List V->Hp->Prop) (us:List Value) (s':Shared):Prop:=∃ vs H',Inv X pins σ H' s'/\Vals vs us/\Q vs H'
def SP (X:Cx) (pins:List (Addr×Obj)) (D:Ends) (f:Flow) (s':Shared):Prop:=
 match f with
 | .next=>∃ σ' H',Inv X pins σ' H' s'/\D.nx σ' H'
 | .brk=>∃ σ' H',Inv X pins σ' H' s'/\D.bk σ' H'
 | .cont=>∃ σ' H',Inv X pins σ' H' s'/\D.ct σ' H'
 | .ret u=>∃ v σ' H',Inv X pins σ' H' s'/\RelV v u/\D.rt v H'
def PE (X:Cx) (e:Expr) (t:TE):Prop:=
 ∀ (pins:List (Addr×Obj)) (s:Shared) (σ:St) (H:Hp) (Q:VK),Inv X pins σ H s->t σ H Q->wpAny (model X.prog X.w) X.A (eval e X.env) (EP X pins σ Q) X.xe s
def PT (X:Cx) (e:Expr) (t:TT):Prop:=
 ∀ (pins:List (Addr×Obj)) (s:Shared) (σ:St) (H:Hp) (Q:Bool->Hp->Prop),Inv X pins σ H s->t σ H Q->wpAny (model X.prog X.w) X.A (isTrue e X.env (eval e X.env)) (TP X pins σ Q) X.xe s
def PW (X:Cx) (e:Expr) (t:TT):Prop:=
 ∀ (whole:Sem Value) (pins:List (Addr×Obj)) (s:Shared) (σ:St) (H:Hp) (Q:Bool->Hp->Prop),Inv X pins σ H s->t σ H Q->wpAny (model X.prog X.w) X.A (isTrue e X.env whole) (TP X pins σ Q) X.xe s
theorem PW.pt {X:Cx} {e:Expr} {t:TT} (h:PW X e t):PT X e t:=h _
def PA (X:Cx) (es:List Expr) (t:TA):Prop:=
 ∀ (pos:Pos) (pins:List (Addr×Obj)) (s:Shared) (σ:St) (H:Hp) (Q:List V->Hp->Prop),Inv X pins σ H s->t σ H Q->wpAny (model X.prog X.w) X.A (spliced (backTo pos (starEach es X.env))) (AP X pins σ Q) X.xe s
def PS (X:Cx) (st:Stmt) (t:TS):Prop:=
 ∀ (pins:List (Addr×Obj)) (s:Shared) (σ:St) (H:Hp) (D:Ends),Inv X pins σ H s->t D σ H->wpAny (model X.prog X.w) X.A (exec st X.env) (SP X pins D) X.xe s
def PSs (X:Cx) (st:List Stmt) (t:TS):Prop:=
 ∀ (pins:List (Addr×Obj)) (s:Shared) (σ:St) (H:Hp) (D:Ends),Inv X pins σ H s->t D σ H->wpAny (model X.prog X.w) X.A (execs st X.env) (SP X pins D) X.xe s
theorem thn {α:Type} {t:Sem α} {Q Q':α->Shared->Prop} {M:Model} {A:Around} {E:Value->Shared->Prop} {s:Shared} (h:wpAny M A t Q E s) (hQ:∀ a s,Q a s->Q' a s):wpAny M A t Q' E s:=wpAny_mono h hQ λ_ _ x=>x
section
variable {X:Cx}
def b8i (i:Nat):TE:=λσ H Q=>∃ v,σ[i]?=some (some v)/\Q v H
def tC (v:V):TE:=λ_ H Q=>Q v H
theorem a80 {i:Nat} {x:Str} {pos:Pos} (hN:X.N[i]?=some x) (hv:Vis X.env.scope x) (hd:(x==("__debug__" : Str))=false:=by decide) (hcd:(x==("__classdict__" : Str))=false:=by decide):PE X (.Name x pos) (b8i i):=by
 intro pins s σ H Q I h
 obtain ⟨v,e,h⟩:=h
 obtain ⟨m,hn,hl⟩:=I.loc
 obtain ⟨u,r,l⟩:=hl i x v hN e hv
 have fin:EP X pins σ Q u s:=⟨v,H,I,r,h⟩
 rcases l with ⟨hk,hm⟩ | ⟨hk,c,hc,hcell⟩
 ·exact wpAny_Name (wpAny_loadName_local I.ok.kind hk hn hm fin) hd
 ·rcases hk with hk | hk
  ·exact wpAny_Name (wpAny_loadName_cell I.ok.kind hk hc hcell fin) hd
  ·exact wpAny_Name (wpAny_loadName_free I.ok.kind hk hc hcell fin hcd) hd
theorem c0j {i j pos}:PE X (.Constant (.int i) j pos) (tC (.int i)):=λ_ _ _ H _ I h=>wpAny_Constant_int ⟨.int i,H,I.tok _,⟨_,rfl⟩,h⟩
theorem c4n {b j pos}:PE X (.Constant (.bool b) j pos) (tC (.bl b)):=λ_ _ _ H _ I h=>Constant_bool ⟨.bl b,H,I,rfl,h⟩
theorem c0q {j pos}:PE X (.Constant .none j pos) (tC .non):=λ_ _ _ H _ I h=>Constant_none ⟨.non,H,I,rfl,h⟩
theorem b8x {x j pos}:PE X (.Constant (.str x) j pos) (tC (.str x)):=λ_ _ _ H _ I h=>Calls.Constant_str ⟨.str x,H,I.tok _,⟨_,rfl⟩,h⟩
def Gl (X:Cx) (x:Str):Prop:=X.env.kindOf x=some .globalImplicit
theorem C6 {E:Value->Shared->Prop} {pins:List (Addr×Obj)} {s:Shared} {σ:St} {H:Hp} {x:Str} {u:Value} {pos:Pos} {Q:Value->Shared->Prop} (I:Inv X pins σ H s) (hg:Gl X x) (hm:X.mg x=some u) (h:Q u s)
  (hd:(x==("__debug__" : Str))=false:=by decide):wpAny (model X.prog X.w) X.A (eval (.Name x pos) X.env) Q E s:=
 Calls.Name_function_global I.ok.kind hg (Calls.loadGlobal_global (by rw [I.ok.glob];exact I.mod.glob.keeps I.bk) hm h) hd
theorem u3 {E:Value->Shared->Prop} {pins:List (Addr×Obj)} {s:Shared} {σ:St} {H:Hp} {x:Str} {u:Value} {pos:Pos} {Q:Value->Shared->Prop} (I:Inv X pins σ H s) (hg:Gl X x) (hm:X.mg x=none) (hv:bootBuiltins x=some u) (h:Q u s)
  (hn:x ≠ "__name__":=by decide) (hd:(x==("__debug__" : Str))=false:=by decide):wpAny (model X.prog X.w) X.A (eval (.Name x pos) X.env) Q E s:=by
 obtain ⟨mb,h1,h2⟩:=I.mod.blt
 exact Calls.Name_function_global I.ok.kind hg (Calls.loadGlobal_builtin (by rw [I.ok.glob];exact I.mod.glob.keeps I.bk) hm (by rw [I.ok.blt];exact h1.keeps I.bk) ((h2 x hn).trans hv) h) hd
theorem b4g {x:Str} {v:V} {u:Value} {pos:Pos} (hg:Gl X x) (hm:X.mg x=some u) (r:RelV v u) (hd:(x==("__debug__" : Str))=false:=by decide):PE X (.Name x pos) (tC v):=
 λ_ _ _ H _ I h=>C6 I hg hm ⟨v,H,I,r,h⟩ hd
theorem b3e {x:Str} {v:V} {u:Value} {pos:Pos} (hg:Gl X x) (hm:X.mg x=none) (hv:bootBuiltins x=some u) (r:RelV v u) (hn:x ≠ "__name__":=by decide) (hd:(x==("__debug__" : Str))=false:=by decide):PE X (.Name x pos) (tC v):=
 λ_ _ _ H _ I h=>u3 I hg hm hv ⟨v,H,I,r,h⟩ hn hd
variable {a b:Expr} {ta tb:TE} {pos:Pos}
variable {tA tB':TT} {rest:List Expr}
def c6i (t u:TT):TT:=λσ H Q=>t σ H λc H1=>if c=true then u σ H1 Q else Q false H1
def tOr (t u:TT):TT:=λσ H Q=>t σ H λc H1=>if c=true then Q true H1 else u σ H1 Q
def b85 (t:TT):TT:=λσ H Q=>t σ H λc H1=>Q (!c) H1
theorem pw_and1 (ha:PT X a tA):PW X (.BoolOp .And [a] pos) tA:=by
 intro wh pins s σ H Q I h
 refine isTrue_and (thn (ha pins s σ H Q I h) λc s1 e=>?_)
 cases c with
 | true=>exact isTrue_and_nil e
 | false=>exact e
theorem pw_or1 (ha:PT X a tA):PW X (.BoolOp .Or [a] pos) tA:=by
 intro wh pins s σ H Q I h
 refine isTrue_or (thn (ha pins s σ H Q I h) λc s1 e=>?_)
 cases c with
 | false=>exact isTrue_or_nil e
 | true=>exact e
theorem pw_and (ha:PT X a tA) (hb:PW X (.BoolOp .And (b :: rest) pos) tB'):PW X (.BoolOp .And (a :: b :: rest) pos) (c6i tA tB'):=by
 intro wh pins s σ H Q I h
 refine isTrue_and (thn (ha pins s σ H _ I h) λc s1 ⟨H1,I1,q1⟩=>?_)
 cases c with
 | true=>exact hb wh pins s1 σ H1 Q I1 q1
 | false=>exact ⟨H1,I1,q1⟩
theorem pw_or (ha:PT X a tA) (hb:PW X (.BoolOp .Or (b :: rest) pos) tB'):PW X (.BoolOp .Or (a :: b :: rest) pos) (tOr tA tB'):=by
 intro wh pins s σ H Q I h
 refine isTrue_or (thn (ha pins s σ H _ I h) λc s1 ⟨H1,I1,q1⟩=>?_)
 cases c with
 | true=>exact ⟨H1,I1,q1⟩
 | false=>exact hb wh pins s1 σ H1 Q I1 q1
theorem b9p (ha:PT X a tA):PT X (.UnaryOp .Not a pos) (b85 tA):=by
 intro pins s σ H Q I h
 exact isTrue_not (ha pins s σ H (λc H1=>Q (!c) H1) I h)
theorem b7m {op} {t:TE} (h:PE X a t):PE X (.BoolOp op [a] pos) t:=λpins s σ H Q I hw=>BoolOp_one (h pins s σ H Q I hw)
def tIf (t:TT) (ta tb:TE):TE:=λσ H Q=>t σ H λc H1=>if c=true then ta σ H1 Q else tb σ H1 Q
theorem b0c {c:Expr} (hc:PT X c tA) (ha:PE X a ta) (hb:PE X b tb):PE X (.IfExp c a b pos) (tIf tA ta tb):=by
 intro pins s σ H Q I h
 refine wpAny_IfExp (thn (hc pins s σ H _ I h) λd s1 ⟨H1,I1,q1⟩=>?_)
 cases d with
 | true=>exact ha pins s1 σ H1 Q I1 q1
 | false=>exact hb pins s1 σ H1 Q I1 q1
end
def SqL (K:PySem.W.Frag) (H:Hp) (a:Addr) (xs:List V):Prop:=
 Rd H a (.lst xs) \/
  ∃ (o:Obj) (its:Array Value) (n:Nat),K.lookup a=some o/\o.cls=.type "list"/\o.dict=none/\o.data=.seq its n/\its.size<=sizeLine/\Vals xs its.toList
def SqT (K:PySem.W.Frag) (H:Hp) (a:Addr) (xs:List V):Prop:=
 Rd H a (.tup xs) \/
  ∃ (o:Obj) (its:Array Value) (n:Nat),K.lookup a=some o/\o.cls=.type "tuple"/\o.data=.seq its n/\its.size<=sizeLine/\Vals xs its.toList
noncomputable def c5t:Value->Option V
 | .none=>some .non
 | .bool b=>some (.bl b)
 | .int i _=>some (.int i)
 | .str x _=>some (.str x)
 | .bytes b _=>some (.byt b)
 | .float b _=>some (.flt b)
 | .ref a=>some (.ref a)
 | .type n=>some (.ty n)
 | _=>none
theorem RelV.abs {x:V} {u:Value} (r:RelV x u):c5t u=some x:=by
 cases x with
 | non=>cases r;rfl
 | bl _=>cases r;rfl
 | int _=>obtain ⟨t,rfl⟩:=r;rfl
 | str _=>obtain ⟨t,rfl⟩:=r;rfl
 | byt _=>obtain ⟨t,rfl⟩:=r;rfl
 | flt _=>obtain ⟨t,rfl⟩:=r;rfl
 | ref _=>cases r;rfl
 | ty _=>cases r;rfl
theorem RelV.inj {x y:V} {u:Value} (r:RelV x u) (q:RelV y u):x=y:=Option.some.inj (r.abs.symm.trans q.abs)
theorem Vals.inj:∀ {xs ys:List V} {us:List Value},Vals xs us->Vals ys us->xs=ys
 | _,_,_,.nil,.nil=>rfl
 | _,_,_,.cons r t,.cons r' t'=>by rw [r.inj r',Vals.inj t t']
section
variable {X:Cx} {pins:List (Addr×Obj)} {σ:St} {H:Hp} {s:Shared} {a:Addr} {xs ys:List V}
theorem Inv.list (I:Inv X pins σ H s) (h:SqL X.K H a xs):∃ its:List Value,Vals xs its/\PlainL s.heap a its.toArray/\xs.length<=sizeLine:=by
 rcases h with h | ⟨o,its,n,hk,hc,hd,hs,hz,r⟩
 ·obtain ⟨z,its,n,r,e⟩:=h.ok I.hok
  exact ⟨its,r,⟨_,n,e,rfl,rfl,rfl⟩,z⟩
 ·refine ⟨its.toList,r,⟨o,n,I.kIn a o hk,hc,hd,by simpa using hs⟩,?_⟩
  have e:=r.length
  simp only [Array.length_toList] at e
  omega
theorem Inv.tuple (I:Inv X pins σ H s) (h:SqT X.K H a xs):∃ its:List Value,Vals xs its/\IsTup s.heap a its.toArray/\xs.length<=sizeLine:=by
 rcases h with h | ⟨o,its,n,hk,hc,hs,hz,r⟩
 ·obtain ⟨z,its,r,p⟩:=h.ok I.hok
  exact ⟨its,r,p.is,z⟩
 ·refine ⟨its.toList,r,⟨o,I.kIn a o hk,hc,n,by simpa using hs⟩,?_⟩
  have e:=r.length
  simp only [Array.length_toList] at e
  omega
theorem Inv.list_inj (I:Inv X pins σ H s) (h:SqL X.K H a xs) (h':SqL X.K H a ys):xs=ys:=by
 obtain ⟨its,r,⟨o,n,e,_,_,d⟩,_⟩:=I.list h
 obtain ⟨its',r',⟨o',n',e',_,_,d'⟩,_⟩:=I.list h'
 rw [e] at e';cases e'
 rw [d] at d'
 injection d' with d1 _
 have:its=its':=by simpa using congrArg Array.toList d1
 subst this
 exact r.inj r'
theorem Inv.tuple_inj (I:Inv X pins σ H s) (h:SqT X.K H a xs) (h':SqT X.K H a ys):xs=ys:=by
 obtain ⟨its,r,⟨o,e,_,n,d⟩,_⟩:=I.tuple h
 obtain ⟨its',r',⟨o',e',_,n',d'⟩,_⟩:=I.tuple h'
 rw [e] at e';cases e'
 rw [d] at d'
 injection d' with d1 _
 have:its=its':=by simpa using congrArg Array.toList d1
 subst this
 exact r.inj r'
end
noncomputable abbrev Cx.wish (X:Cx) (E:Value->Shared->Prop):Cx:={ X with xe:=E }
noncomputable abbrev Cx.nox (X:Cx):Cx:=X.wish λ_ _=>False
theorem Cx.Ok.wish {X:Cx} (ok:X.Ok) (E:Value->Shared->Prop):(X.wish E).Ok:=
 ⟨ok.mod,ok.kind,ok.glob,ok.blt,ok.above,ok.inj,ok.has,ok.cab,ok.hd,ok.frames,ok.stk,ok.exf,ok.bs,ok.bsz,ok.noex,ok.exfs,ok.funs,ok.frf⟩
theorem Cx.Ok.unwish {X:Cx} {E:Value->Shared->Prop} (ok:(X.wish E).Ok):X.Ok:=
 ⟨ok.mod,ok.kind,ok.glob,ok.blt,ok.above,ok.inj,ok.has,ok.cab,ok.hd,ok.frames,ok.stk,ok.exf,ok.bs,ok.bsz,ok.noex,ok.exfs,ok.funs,ok.frf⟩
section
variable {X:Cx} {pins:List (Addr×Obj)} {σ:St} {H:Hp} {s:Shared} {E:Value->Shared->Prop}
theorem Inv.wish (I:Inv X pins σ H s) (E:Value->Shared->Prop):Inv (X.wish E) pins σ H s:=⟨I.ok.wish E,I.os,I.bare,I.base,I.loc,I.cell,I.free,I.freeC,I.pin,I.hok,I.len⟩
theorem Inv.unwish (I:Inv (X.wish E) pins σ H s):Inv X pins σ H s:=⟨I.ok.unwish,I.os,I.bare,I.base,I.loc,I.cell,I.free,I.freeC,I.pin,I.hok,I.len⟩
theorem SP.unwish {D:Ends} {f:Flow} {s':Shared} (h:SP (X.wish E) pins D f s'):SP X pins D f s':=by
 cases f with
 | next=>obtain ⟨σ',H',I,q⟩:=h;exact ⟨σ',H',I.unwish,q⟩
 | brk=>obtain ⟨σ',H',I,q⟩:=h;exact ⟨σ',H',I.unwish,q⟩
 | cont=>obtain ⟨σ',H',I,q⟩:=h;exact ⟨σ',H',I.unwish,q⟩
 | ret u=>obtain ⟨v,σ',H',I,r,q⟩:=h;exact ⟨v,σ',H',I.unwish,r,q⟩
theorem PSs.nox {st:List Stmt} {t:TS} (h:PSs X.nox st t):PSs X st t:=λpins s σ H D I hw=>
 wpAny_mono (h pins s σ H D (I.wish _) hw) (λ_ _ q=>q.unwish) λ_ _ z=>False.elim z
end
section
variable {X:Cx} {st:Stmt} {rest:List Stmt} {t u:TS} {e:Expr} {te:TE} {pos:Pos}
def tNext:TS:=λD σ H=>D.nx σ H
def c6m (t u:TS):TS:=λD σ H=>t { D with nx:=u D } σ H
theorem b5c:PSs X [] tNext:=λ_ _ σ H _ I h=>wpAny_execs_nil ⟨σ,H,I,h⟩
theorem a1x (h1:PS X st t) (h2:PSs X rest u):PSs X (st :: rest) (c6m t u):=by
 intro pins s σ H D I h
 refine wpAny_execs_cons (thn (h1 pins s σ H { D with nx:=u D } I h) λf s1 q=>?_)
 cases f with
 | next=>
  obtain ⟨σ',H',I',q⟩:=q
  exact h2 pins s1 σ' H' D I' q
 | ret v=>exact q
 | brk=>exact q
 | cont=>exact q
theorem a5q (h1:PS X st t):PSs X [st] t:=by
 intro pins s σ H D I h
 refine wpAny_execs_cons (thn (h1 pins s σ H D I h) λf s1 q=>?_)
 cases f with
 | next=>exact wpAny_execs_nil q
 | ret v=>exact q
 | brk=>exact q
 | cont=>exact q
theorem Inv.quiet {pins:List (Addr×Obj)} {σ:St} {H:Hp} {s:Shared} (I:Inv X pins σ H s):interactive X.env=false:=by simp [interactive,I.ok.kind]
def c16 (te:TE):TS:=λD σ H=>te σ H λ_ H1=>D.nx σ H1
theorem a1m (he:PE X e te) (hs:swapsWith e none pos.line X.env=pure false:=by rfl):PS X (.Expr e pos) (c16 te):=by
 intro pins s σ H D I h
 exact wpAny_Expr_any (thn (he pins s σ H _ I h) λv s1 ⟨x,H1,I1,r1,q1⟩=>⟨σ,H1,I1,q1⟩) I.quiet hs
def c52 (te:TE):TS:=λD σ H=>te σ H D.rt
theorem b8p (he:PE X e te):PS X (.Return (some e) pos) (c52 te):=by
 intro pins s σ H D I h
 exact wpAny_Return_some (thn (he pins s σ H _ I h) λv s1 ⟨x,H1,I1,r1,q1⟩=>⟨x,σ,H1,I1,r1,q1⟩)
def c6f (c:TT) (t u:TS):TS:=λD σ H=>c σ H λb H1=>if b=true then t D σ H1 else u D σ H1
theorem ps_if {c:Expr} {a b:List Stmt} {tc:TT} (hc:PT X c tc) (ha:PSs X a t) (hb:PSs X b u):PS X (.If c a b pos) (c6f tc t u):=by
 intro pins s σ H D I h
 refine wpAny_If (thn (hc pins s σ H _ I h) λd s1 ⟨H1,I1,q1⟩=>?_)
 cases d with
 | true=>exact ha pins s1 σ H1 D I1 q1
 | false=>exact hb pins s1 σ H1 D I1 q1
def tNever:TS:=λ_ _ _=>False
theorem a2b:PS X st tNever:=λ_ _ _ _ _ _ h=>h.elim
end
noncomputable abbrev TG:=V->St->Hp->(St->Hp->Prop)->Prop
noncomputable abbrev TGs:=List V->St->Hp->(St->Hp->Prop)->Prop
def PG (X:Cx) (target:Expr) (t:TG):Prop:=
 ∀ (pins:List (Addr×Obj)) (s:Shared) (σ:St) (H:Hp) (v:V) (u:Value) (Q:St->Hp->Prop),Inv X pins σ H s->RelV v u->t v σ H Q ->
  wpAny (model X.prog X.w) X.A (assign target X.env u) (λ_ s'=>∃ σ' H',Inv X pins σ' H' s'/\Q σ' H') X.xe s
def PGs (X:Cx) (ts:List Expr) (t:TGs):Prop:=
 ∀ (pins:List (Addr×Obj)) (s:Shared) (σ:St) (H:Hp) (vs:List V) (us:List Value) (Q:St->Hp->Prop),Inv X pins σ H s->Vals vs us->t vs σ H Q ->
  wpAny (model X.prog X.w) X.A (assignInOrder ((assignEach ts X.env).map (·.2)) us) (λ_ s'=>∃ σ' H',Inv X pins σ' H' s'/\Q σ' H') X.xe s
noncomputable abbrev b8v:=V->V->V->Hp->(Hp->Prop)->Prop
def b8l (X:Cx) (t:b8v):Prop:=
 ∀ (pins:List (Addr×Obj)) (s:Shared) (σ:St) (H:Hp) (o i v:V) (ov iv u:Value) (Q:Hp->Prop),Inv X pins σ H s->RelV o ov->RelV i iv->RelV v u->t o i v H Q ->
  wpAny (model X.prog X.w) X.A (setItem ov iv u) (λ_ s'=>∃ H',Inv X pins σ H' s'/\Q H') X.xe s
noncomputable abbrev TIp:=V->V->Hp->VK->Prop
def PIp (X:Cx) (op:Operator) (t:TIp):Prop:=
 ∀ (pins:List (Addr×Obj)) (s:Shared) (σ:St) (H:Hp) (x y:V) (v u:Value) (Q:VK),Inv X pins σ H s->RelV x v->RelV y u->t x y H Q ->
  wpAny (model X.prog X.w) X.A (inplaceOp op v u) (EP X pins σ Q) X.xe s
section
variable {X:Cx} {pos:Pos}
def U3 (i:Nat):TG:=λv σ H Q=>Q (σ.set i (some v)) H
theorem v7 {i:Nat} {x:Str} (hN:X.N.Nodup) (hi:X.N[i]?=some x) (hx:Loc X.env.scope x) (hf:X.fn x=true\/X.env.scope.names.lookup x=some .local:=by first | exact .inl rfl | exact .inr rfl | assumption):PG X (.Name x pos) (U3 i):=by
 intro pins s σ H v u Q I r h
 exact wpAny_assign_Name (E4 I hN hi hx r (λs' I'=>⟨_,H,I',h⟩) hf)
def gNil:TGs:=λvs σ H Q=>vs=[]/\Q σ H
def b1u (t:TG) (u:TGs):TGs:=λvs σ H Q=>∃ v r,vs=v :: r/\t v σ H λσ' H'=>u r σ' H' Q
theorem a08:PGs X [] gNil:=by
 intro pins s σ H vs us Q I r h
 obtain ⟨e,h⟩:=h
 subst e
 cases r
 exact assignInOrder_nil ⟨σ,H,I,h⟩
theorem E6 {e:Expr} {es:List Expr} {t:TG} {u:TGs} (h1:PG X e t) (h2:PGs X es u)
  (hs:(assignEach (e :: es) X.env).map (·.2)=assign e X.env :: (assignEach es X.env).map (·.2):=by rfl):PGs X (e :: es) (b1u t u):=by
 intro pins s σ H vs us Q I r h
 obtain ⟨v,vr,e1,h⟩:=h
 subst e1
 cases r with
 | cons r rr=>
  rw [hs]
  refine assignInOrder_cons (thn (h1 pins s σ H _ _ _ I r h) λ_ s1 ⟨σ1,H1,I1,q1⟩=>?_)
  exact h2 pins s1 σ1 H1 _ _ Q I1 rr q1
def c3p (K:PySem.W.Frag) (n:Nat) (t:TGs):TG:=λv σ H Q=>∃ a xs,v=.ref a/\SqT K H a xs/\xs.length=n/\t xs σ H Q
theorem a3w {es:List Expr} {k:Nat} {t:TGs} {n:Nat} (hc:X.calm=true) (h:PGs X es t)
  (hn:(assignEach es X.env).length=n:=by rfl) (hst:(assignEach es X.env).findIdx? (·.1)=none:=by rfl):PG X (.Tuple es k pos) (c3p X.K n t):=by
 intro pins s σ H v u Q I r hw
 obtain ⟨a,xs,e1,hq,hl,hw⟩:=hw
 subst e1
 cases r
 obtain ⟨its,rv,ht,hz⟩:=I.tuple hq
 refine assign_Tuple_tuple (I.ok.hd hc) ht (by simp [hn,<- hl,rv.length]) hst λh' hx=>?_
 have I1:Inv X pins σ H { s with heap:=h' }:=I.kept (t':=s.toks) λb o e=>hx b o (Nat.ne_of_lt (Heap.lt_size e)) e
 exact h pins _ σ H xs _ Q I1 (by simpa using rv) hw
def c5u (to ti:TE) (t:b8v):TG:=λv σ H Q=>to σ H λo H1=>ti σ H1 λi H2=>t o i v H2 λH3=>Q σ H3
theorem b94 {o i:Expr} {to ti:TE} {t:b8v} (ho:PE X o to) (hi:PE X i ti) (hs:b8l X t)
  (ha:∀ v,assign (.Subscript o i pos) X.env v=(do
   let ov <- holding [v] (eval o X.env)
   let iv <- holding [v,ov] (eval i X.env)
   standAt pos
   holding [v,ov,iv] (setItem ov iv v)
   release [v,ov,iv] []):=by intro _;rfl):PG X (.Subscript o i pos) (c5u to ti t):=by
 intro pins s σ H v u Q I r h
 rw [ha]
 refine wpAny_bind (wpAny_holding (thn (ho pins s σ H _ I h) λov s1 ⟨x,H1,I1,r1,q1⟩=>?_))
 refine wpAny_bind (wpAny_holding (thn (hi pins s1 σ H1 _ I1 q1) λiv s2 ⟨y,H2,I2,r2,q2⟩=>?_))
 refine wpAny_bind (wpAny_standAt (wpAny_bind (wpAny_holding (thn (hs pins s2 σ H2 x y v ov iv u _ I2 r1 r2 r q2) λ_ s3 ⟨H3,I3,q3⟩=>?_))))
 exact wpAny_release ⟨σ,H3,I3,q3⟩
def b2m (te:TE) (g:TG):TS:=λD σ H=>te σ H λx H1=>g x σ H1 D.nx
theorem a4q {tg e:Expr} {te:TE} {g:TG} (he:PE X e te) (hg:PG X tg g) (hs:swapsWithSole [tg] e pos.line X.env=pure false:=by rfl) (hw:swappedStores [tg] e X.env=pure none:=by rfl)
  (h1:(assignEach [tg] X.env).map (·.2)=[assign tg X.env]:=by rfl):PS X (.Assign [tg] e pos) (b2m te g):=by
 intro pins s σ H D I h
 refine wpAny_Assign_stores (thn (he pins s σ H _ I h) λv s1 ⟨x,H1,I1,r1,q1⟩=>?_) hs hw
 rw [h1]
 exact thn (hg pins s1 σ H1 x v _ I1 r1 q1) λ_ s2 q=>q
theorem a3p {i:Nat} {x:Str} {e:Expr} {te:TE} {pos':Pos} (hN:X.N.Nodup) (hi:X.N[i]?=some x) (hx:Loc X.env.scope x) (he:PE X e te) (hs:swapsWith e (some (.Name x pos')) pos.line X.env=pure false:=by rfl) (hf:X.fn x=true\/X.env.scope.names.lookup x=some .local:=by first | exact .inl rfl | exact .inr rfl | assumption) :
  PS X (.Assign [.Name x pos'] e pos) (b2m te (U3 i)):=by
 intro pins s σ H D I h
 refine wpAny_Assign_Name (thn (he pins s σ H _ I h) λv s1 ⟨y,H1,I1,r1,q1⟩=>?_) hs
 exact E4 I1 hN hi hx r1 (λs2 I2=>⟨_,H1,I2,q1⟩) hf
def c5x (i:Nat) (te:TE) (ti:TIp):TS:=λD σ H=>∃ x,σ[i]?=some (some x)/\te σ H λy H1=>ti x y H1 λz H2=>D.nx (σ.set i (some z)) H2
theorem c0x {i:Nat} {x:Str} {e:Expr} {te:TE} {op:Operator} {ti:TIp} {pos':Pos} (hN:X.N.Nodup) (hi:X.N[i]?=some x) (hx:Loc X.env.scope x) (he:PE X e te) (ho:PIp X op ti) (hf:X.fn x=true\/X.env.scope.names.lookup x=some .local:=by first | exact .inl rfl | exact .inr rfl | assumption) :
  PS X (.AugAssign (.Name x pos') op e pos) (c5x i te ti):=by
 intro pins s σ H D I h
 obtain ⟨v,e1,h⟩:=h
 obtain ⟨m,hn,hl⟩:=I.loc
 have vis:Vis X.env.scope x:=by rcases hx with k | k;exact .inl k;exact .inr (.inl k)
 obtain ⟨u,r,l⟩:=hl i x v hi e1 vis
 refine wpAny_AugAssign_Name ?_
 have go:wpAny (model X.prog X.w) X.A (eval e X.env) (λw s₂=>wpAny (model X.prog X.w) X.A (inplaceOp op u w) (λr s₃=>wpAny (model X.prog X.w) X.A (storeName X.env x r) (λ_=>SP X pins D .next) X.xe s₃) X.xe s₂) X.xe s:=by
  refine thn (he pins s σ H _ I h) λw s1 ⟨y,H1,I1,r1,q1⟩=>?_
  refine thn (ho pins s1 σ H1 v y u w _ I1 r r1 q1) λz s2 ⟨zv,H2,I2,r2,q2⟩=>?_
  exact E4 I2 hN hi hx r2 (λs3 I3=>⟨_,H2,I3,q2⟩) hf
 rcases l with ⟨hk,hm⟩ | ⟨hk,c,hc,hcell⟩
 ·exact wpAny_loadName_local I.ok.kind hk hn hm go
 ·rcases hk with hk | hk
  ·exact wpAny_loadName_cell I.ok.kind hk hc hcell go
  ·rcases hx with k | k
   ·have:X.env.scope.names.lookup x=some .free:=hk
    rw [k] at this;cases this
   ·have:X.env.scope.names.lookup x=some .free:=hk
    rw [k] at this;cases this
def ipI (f:Int->Int->Int):TIp:=λx y H Q=>∃ i j,x=.int i/\y=.int j/\Q (.int (f i j)) H
theorem b7j:PIp X .Add (ipI λi j=>i+j):=by
 intro pins s σ H x y v u Q I r1 r2 h
 obtain ⟨i,j,e1,e2,q⟩:=h
 subst e1;subst e2
 obtain ⟨t,rfl⟩:=r1
 obtain ⟨t',rfl⟩:=r2
 exact iadd_int ⟨.int _,H,I.tok _,⟨_,rfl⟩,q⟩
end
structure It where
 go:Nat->Hp->Prop
 yld:Nat->Hp->V->Hp->Prop
 stop:Nat->Hp->Prop
def D1 (X:Cx) (pins:List (Addr×Obj)) (H:Hp) (b:Addr):Prop:=
 H b=none/\b≠X.env.locals/\b∉X.fs/\(b∈X.ex\/X.s₀.heap.objs.size<=b)/\(∀ x c,X.env.cells.lookup x=some c->c≠b)/\∀ p∈X.pn++pins,p.1≠b
theorem Inv.fpOk {X:Cx} {pins:List (Addr×Obj)} {σ:St} {H H':Hp} {s:Shared} {b:Addr} (I:Inv X pins σ H s) (hb:s.heap.objs.size<=b) (hn:H' b=none):D1 X pins H' b:=by
 refine ⟨hn,Nat.ne_of_gt (Nat.lt_of_lt_of_le I.lt hb),I.nofs hb,.inr (Nat.le_trans I.sz hb),λx c e z=>?_,λp hp z=>?_⟩
 ·obtain ⟨v,q⟩:=I.cell x c e
  exact absurd (Nat.lt_of_lt_of_le q.lt (by rw [z];exact hb)) (Nat.lt_irrefl _)
 ·exact absurd (Nat.lt_of_lt_of_le (Heap.lt_size (I.pin p hp).1) (by rw [z];exact hb)) (Nat.lt_irrefl _)
structure Turn (P:Program) (w:World) (K:PySem.W.Frag) (tg:Expr) (J:It) (fp:List Addr) (it:Addr) (tn:Nat->Heap->Prop):Prop where
 mem:it∈fp
 obj:∀ i h,tn i h->∀ b∈fp,∃ o,h.get? b=some o/\∀ v,o.data≠.cell v
 keep:∀ i h h',tn i h->(∀ b∈fp,∀ o,h.get? b=some o->h'.get? b=some o)->tn i h'
 item:∀ (X:Cx),X.prog=P->X.w=w->X.K=K->X.calm=true->∀ (i:Nat) (pins:List (Addr×Obj)) (s:Shared) (σ:St) (H:Hp) (E:Value->Shared->Prop),Inv X pins σ H s->(∀ b∈fp,D1 X pins H b)->tn i s.heap->J.go i H ->
  wpAny (model P w) X.A (pyNext (.ref it)) (λr s1=>∃ u,r=some u /\
   wpAny (model P w) X.A (letOwnedTupleGo tg (.ref it) u) (λ_ s2=>∃ x H',Inv X pins σ H' s2/\RelV x u/\J.yld i H x H'/\tn (i+1) s2.heap/\∀ b∈fp,H' b=none) E s1) E s
 done:∀ (X:Cx),X.prog=P->X.w=w->X.K=K->X.calm=true->∀ (i:Nat) (pins:List (Addr×Obj)) (s:Shared) (σ:St) (H:Hp) (E:Value->Shared->Prop),Inv X pins σ H s->(∀ b∈fp,D1 X pins H b)->tn i s.heap->J.stop i H ->
  wpAny (model P w) X.A (pyNext (.ref it)) (λr s1=>r=none/\Inv X pins σ H s1) E s
 self:∀ (A:Around) (i:Nat) (s:Shared) (Q:Value->Shared->Prop) (E:Value->Shared->Prop),tn i s.heap->Q (.ref it) s->wpAny (model P w) A (pyIter (.ref it)) Q E s
noncomputable abbrev TI:=St->Hp->(It->Hp->Prop)->Prop
def PIE (X:Cx) (pins:List (Addr×Obj)) (σ:St) (tg:Expr) (R:It->Hp->Prop) (itv:Value) (s2:Shared):Prop:=
 ∃ (it:Addr) (fp:List Addr) (tn:Nat->Heap->Prop) (J:It) (H':Hp),itv=.ref it/\Inv X pins σ H' s2/\Turn X.prog X.w X.K tg J fp it tn/\tn 0 s2.heap/\(∀ b∈fp,D1 X pins H' b)/\R J H'
def PI (X:Cx) (tg iter:Expr) (wi:TI):Prop:=
 ∀ (pins:List (Addr×Obj)) (s:Shared) (σ:St) (H:Hp) (R:It->Hp->Prop),Inv X pins σ H s->wi σ H R ->
  wpAny (model X.prog X.w) X.A (eval iter X.env) (λv s1=>wpAny (model X.prog X.w) X.A (pyIter v) (PIE X pins σ tg R) X.xe s1) X.xe s
theorem a8x {M:Model} {A:Around} {E:Value->Shared->Prop} {s:Shared} {tg:Expr} {it:Addr} {u:Value} {o:Obj} {n:String} {vs:Array Value} {Q:Unit->Shared->Prop} (ho:s.heap.get? it=some o) (hc:o.cls=.type n) (hd:o.data=.fields vs)
  (hn:["enumerate","zip","dict_itemiterator","dict_reverseitemiterator","odict_iterator","itertools.zip_longest","itertools.pairwise"].contains n=false) (hQ:Q () s):wpAny M A (letOwnedTupleGo tg (.ref it) u) Q E s:=by
 unfold letOwnedTupleGo
 cases tg <;> first
  | exact wpAny_pure hQ
  | (cases u <;> first
    | exact wpAny_pure hQ
    | (refine wpAny_bind (wpAny_load ho ?_);rw [hc,hd];show wpAny M A (if (["enumerate","zip","dict_itemiterator","dict_reverseitemiterator","odict_iterator","itertools.zip_longest","itertools.pairwise"].contains n&&vs[0]?==some (rawInt _))=true then _ else _) Q E s;rw [if_neg (by intro h;rw [hn,Bool.false_and] at h;cases h)];exact wpAny_pure hQ))
noncomputable def Itl (K:PySem.W.Frag) (a:Addr):It:=
 ⟨λi H=>∃ xs x,SqL K H a xs/\xs[i]?=some x,λi H x H'=>H'=H/\∀ xs,SqL K H a xs->xs[i]?=some x,λi H=>∃ xs,SqL K H a xs/\xs.length<=i⟩
noncomputable def Itt (K:PySem.W.Frag) (a:Addr):It:=
 ⟨λi H=>∃ xs x,SqT K H a xs/\xs[i]?=some x,λi H x H'=>H'=H/\∀ xs,SqT K H a xs->xs[i]?=some x,λi H=>∃ xs,SqT K H a xs/\xs.length<=i⟩
noncomputable def Itr (lo:Int) (n:Nat):It:=⟨λi _=>i<n,λi H x H'=>H'=H/\x=.int (lo+i),λi _=>n<=i⟩
theorem a76 {P:Program} {w:World} {K:PySem.W.Frag} {tg:Expr} (a it:Addr):Turn P w K tg (Itl K a) [it] it (λi h=>h.IsListIter it a i) where
 mem:=by simp
 obj:=λi h st b hb=>by
  have e:b=it:=by simpa using hb
  subst e
  obtain ⟨o,e,c,d⟩:=st
  exact ⟨o,e,λv z=>by rw [d] at z;cases z⟩
 keep:=λi h h' st k=>st.at λo e=>k it (by simp) o e
 item:=by
  intro X hP hw hK hc i pins s σ H E I hf st hg
  subst hP hw hK
  obtain ⟨xs,x,hq,hx⟩:=hg
  obtain ⟨its,rv,p,hz⟩:=I.list hq
  obtain ⟨u,hu,ru⟩:=rv.get hx
  obtain ⟨f0,f1,f2,f3,f4,f5⟩:=hf it (by simp)
  refine wpAny_pyNext_list_item st p.isList (x:=u) (by simpa using hu) λh' st' sb=>?_
  have I1:Inv X pins σ H { s with heap:=h' }:=I.turned (t':=s.toks) (λb o hb e=>(sb.2 b hb).trans e) f0 f1 f3 f4 f5
  obtain ⟨o,e,c,d⟩:=id st'
  exact ⟨u,rfl,a8x (s:={ s with heap:=h' }) e c d (by decide) ⟨x,H,I1,ru,⟨rfl,λys hy=>by rw [I.list_inj hy hq];exact hx⟩,st',λb hb=>(hf b hb).1⟩⟩
 done:=by
  intro X hP hw hK hc i pins s σ H E I hf st hg
  subst hP hw hK
  obtain ⟨xs,hq,hx⟩:=hg
  obtain ⟨its,rv,p,hz⟩:=I.list hq
  obtain ⟨f0,f1,f2,f3,f4,f5⟩:=hf it (by simp)
  have hl:=rv.length
  exact wpAny_pyNext_list_end (I.ok.hd hc) st p.isList (by simp;omega) λh' eb=>⟨rfl,I.turned (t':=s.toks) (λb o hb e=>eb b o hb e) f0 f1 f3 f4 f5⟩
 self:=λ_ _ _ _ _ st h=>wpAny_pyIter_listiter st h
theorem a40 {P:Program} {w:World} {K:PySem.W.Frag} {tg:Expr} (a it:Addr):Turn P w K tg (Itt K a) [it] it (λi h=>h.IsTupleIter it a i) where
 mem:=by simp
 obj:=λi h st b hb=>by
  have e:b=it:=by simpa using hb
  subst e
  obtain ⟨o,e,c,d⟩:=st
  exact ⟨o,e,λv z=>by rw [d] at z;cases z⟩
 keep:=λi h h' st k=>st.at λo e=>k it (by simp) o e
 item:=by
  intro X hP hw hK hc i pins s σ H E I hf st hg
  subst hP hw hK
  obtain ⟨xs,x,hq,hx⟩:=hg
  obtain ⟨its,rv,p,hz⟩:=I.tuple hq
  obtain ⟨u,hu,ru⟩:=rv.get hx
  obtain ⟨f0,f1,f2,f3,f4,f5⟩:=hf it (by simp)
  refine wpAny_pyNext_tuple_item st (show s.heap.IsTuple a its.toArray from p) (x:=u) (by simpa using hu) λh' st' sb=>?_
  have I1:Inv X pins σ H { s with heap:=h' }:=I.turned (t':=s.toks) (λb o hb e=>(sb.2 b hb).trans e) f0 f1 f3 f4 f5
  obtain ⟨o,e,c,d⟩:=id st'
  exact ⟨u,rfl,a8x (s:={ s with heap:=h' }) e c d (by decide) ⟨x,H,I1,ru,⟨rfl,λys hy=>by rw [I.tuple_inj hy hq];exact hx⟩,st',λb hb=>(hf b hb).1⟩⟩
 done:=by
  intro X hP hw hK hc i pins s σ H E I hf st hg
  subst hP hw hK
  obtain ⟨xs,hq,hx⟩:=hg
  obtain ⟨its,rv,p,hz⟩:=I.tuple hq
  obtain ⟨f0,f1,f2,f3,f4,f5⟩:=hf it (by simp)
  have hl:=rv.length
  exact wpAny_pyNext_tuple_end (I.ok.hd hc) st (show s.heap.IsTuple a its.toArray from p) (by simp;omega) λh' eb=>⟨rfl,I.turned (t':=s.toks) (λb o hb e=>eb b o hb e) f0 f1 f3 f4 f5⟩
 self:=λ_ _ _ _ _ st h=>wpAny_pyIter_tupleiter st h
theorem a4j {P:Program} {w:World} {K:PySem.W.Frag} {tg:Expr} (it:Addr) (lo:Int) (n:Nat):Turn P w K tg (Itr lo n) [it] it (λi h=>IsRangeIter h it (lo+(i:Nat) * 1) ((n:Int)-(i:Nat)) 1) where
 mem:=by simp
 obj:=λi h st b hb=>by
  have e:b=it:=by simpa using hb
  subst e
  exact ⟨_,st,λv z=>by
   have z':Data.fields _=Data.cell v:=z
   cases z'⟩
 keep:=λi h h' st k=>k it (by simp) _ st
 item:=by
  intro X hP hw hK hc i pins s σ H E I hf st hg
  subst hP hw hK
  obtain ⟨f0,f1,f2,f3,f4,f5⟩:=hf it (by simp)
  have W:=Walks.range (prog:=X.prog) (w:=X.w) (I.ok.hd hc) it lo 1 n
  refine W.item i s _ _ hg st λv h' tk hv st' kk=>?_
  obtain ⟨t,rfl⟩:=hv
  have I1:Inv X pins σ H { s with heap:=h',toks:=tk }:=I.turned (λb o hb e=>kk b o (by simpa using hb) e) f0 f1 f3 f4 f5
  refine ⟨_,rfl,a8x (s:={ s with heap:=h',toks:=tk }) (n:="range_iterator") st' rfl rfl (by decide) ⟨.int (lo+i),H,I1,⟨t,?_⟩,⟨rfl,rfl⟩,st',λb hb=>(hf b hb).1⟩⟩
  rw [Int.mul_one]
 done:=by
  intro X hP hw hK hc i pins s σ H E I hf st hg
  subst hP hw hK
  obtain ⟨f0,f1,f2,f3,f4,f5⟩:=hf it (by simp)
  exact wpAny_pyNext_range_end (I.ok.hd hc) st (by have:n<=i:=hg;omega) λh' eb=>⟨rfl,I.turned (t':=s.toks) (λb o hb e=>eb b o hb e) f0 f1 f3 f4 f5⟩
 self:=λ_ _ _ _ _ st h=>wpAny_pyIter_rangeiter st h
section
variable {X:Cx} {tg:Expr}
theorem a9o {pins:List (Addr×Obj)} {σ:St} {H:Hp} {s:Shared} {R:It->Hp->Prop} {E:Value->Shared->Prop} {lo hi:Int} {t u v:Tok} {tk:Nat} (I:Inv X pins σ H s) (h1:-(2 ^ 62)<=lo) (h2:lo<2 ^ 62) (h3:-(2 ^ 62)<=hi) (h4:hi<2 ^ 62)
  (q:R (Itr lo (hi-lo).toNat) H):wpAny (model X.prog X.w) X.A (pyIter (.ref s.heap.objs.size)) (PIE X pins σ tg R) E { s with heap:=s.heap.push { cls:=.type "range",data:=.fields #[.int lo t,.int hi u,.int 1 v] },toks:=tk }:=by
 refine wpAny_pyIter_range (IsRange.new ..) (small_one h1 h2 h3 h4) ?_
 have I1:Inv X pins σ H { s with heap:=s.heap.push { cls:=.type "range",data:=.fields #[.int lo t,.int hi u,.int 1 v] },toks:=tk }:=I.kept λb o e=>Heap.get?_push_of_some _ e
 refine ⟨(s.heap.push { cls:=.type "range",data:=.fields #[.int lo t,.int hi u,.int 1 v] }).objs.size,[(s.heap.push { cls:=.type "range",data:=.fields #[.int lo t,.int hi u,.int 1 v] }).objs.size],_,_,H,rfl,
  I1.kept (t':=tk) λb o e=>Heap.get?_push_of_some _ e,a4j _ lo (hi-lo).toNat,?_,λb hb=>?_,q⟩
 ·have e1:lo+((0:Nat):Int) * 1=lo:=by simp
  have e2:(((hi-lo).toNat:Nat):Int)-((0:Nat):Int)=Builtin.Range.rangeSize lo hi 1:=by rw [rangeSize_one];split <;> omega
  show IsRangeIter _ _ (lo+((0:Nat):Int) * 1) ((((hi-lo).toNat:Nat):Int)-((0:Nat):Int)) 1
  rw [e1,e2]
  exact Heap.get?_push_size _ rfl
 ·have e:b=(s.heap.push { cls:=.type "range",data:=.fields #[.int lo t,.int hi u,.int 1 v] }).objs.size:=by simpa using hb
  subst e
  exact I1.fpOk (Nat.le_refl _) (I1.hok.fresh (Nat.le_refl _))
def c4e (ta:TA):TI:=λσ H R=>ta σ H λvs H1=>∃ j:Int,vs=[.int j]/\-(2 ^ 62)<=j/\j<2 ^ 62/\R (Itr 0 j.toNat) H1
theorem a7n {a:Expr} {ta:TA} {p pos:Pos} (hg:Gl X "range") (hm:X.mg "range" = none) (ha:PA X [a] ta) (hs:starEach [a] X.env=[(false,eval a X.env)]:=by rfl):PI X tg (.Call (.Name "range" p) [a] [] pos) (c4e ta):=by
 intro pins s σ H R I h
 refine Call_ (u3 I hg hm boot_range (PyProof.Rows.callWith_type1 (thn (ha pos pins s σ H _ I h) λus s1 ⟨vs,H1,I1,r1,q1⟩=>?_) hs rfl))
 obtain ⟨j,e,q1,q2,q⟩:=q1
 subst e
 cases r1 with
 | cons r rr=>
  cases rr
  obtain ⟨t,rfl⟩:=r
  exact call_range_1 (a9o I1 (by omega) (by omega) q1 q2 (by simpa using q))
def c57 (wi:TI) (g:TG) (tb:TS):TS:=λD σ H=>wi σ H λJ H1=>∃ W:Nat->Nat->St->Hp->Prop,(∃ m,W 0 m σ H1)/\∀ i m σ H,W i m σ H ->
 (J.stop i H/\D.nx σ H)\/(J.go i H/\∃ N:St->Hp->Prop,(∀ σ' H',N σ' H'->∃ m',m'<m/\W (i+1) m' σ' H')/\∀ x H',J.yld i H x H'->g x σ H' λσ2 H2=>tb { D with nx:=N,ct:=N,bk:=D.nx } σ2 H2)
noncomputable def t8 (fp:List Addr) (h:Heap):List (Addr×Obj):=fp.filterMap λb=>(h.get? b).map λo=>(b,o)
theorem j3 {fp:List Addr} {h:Heap} {b:Addr} {o:Obj} (hb:b∈fp) (e:h.get? b=some o):(b,o)∈t8 fp h:=List.mem_filterMap.mpr ⟨b,hb,by rw [e];rfl⟩
theorem a7b {fp:List Addr} {h:Heap} {p:Addr×Obj} (hp:p∈t8 fp h):p.1∈fp/\h.get? p.1=some p.2:=by
 obtain ⟨b,hb,e⟩:=List.mem_filterMap.mp hp
 cases q:h.get? b with
 | none=>rw [q] at e;cases e
 | some o=>
  rw [q] at e
  have e':(b,o)=p:=Option.some.inj e
  subst e'
  exact ⟨hb,q⟩
theorem Inv.pinned {pins:List (Addr×Obj)} {σ:St} {H:Hp} {s:Shared} {fp:List Addr} (I:Inv X pins σ H s) (hf:∀ b∈fp,D1 X pins H b) (ho:∀ b∈fp,∃ o,s.heap.get? b=some o/\∀ v,o.data≠.cell v):Inv X (pins++t8 fp s.heap) σ H s:=
 I.pins_of λp hp=>(List.mem_append.mp hp).elim (λz=>I.pin p (List.mem_append_right _ z)) λz=>by
  obtain ⟨hb,e⟩:=a7b z
  obtain ⟨f0,f1,f2,_⟩:=hf p.1 hb
  obtain ⟨o,e',d⟩:=ho p.1 hb
  rw [e] at e';cases e'
  exact ⟨e,f0,f1,f2,d⟩
theorem Inv.unpinned {pins pl:List (Addr×Obj)} {σ:St} {H:Hp} {s:Shared} (I:Inv X (pins++pl) σ H s):Inv X pins σ H s:=I.pins_of λp hp=>I.pin p (List.mem_append_right _ (List.mem_append_left _ hp))
theorem b93 {iter:Expr} {body:List Stmt} {wi:TI} {g:TG} {tb:TS} {pos:Pos} (hp:PassesOwn (model X.prog X.w) X.A X.env X.xe) (hc:X.calm=true) (hi:PI X tg iter wi) (hg:PG X tg g) (hb:PSs X body tb)
  (hs:∀ x,foldedSetIterable iter X.env x=pure x:=by intro _;rfl):PS X (.For tg iter body [] pos) (c57 wi g tb):=by
 intro pins s σ H D I h
 refine wpAny_For (thn (hi pins s σ H _ I h) λv s1 h1=>thn h1 λitv s2 h2=>?_) hs
 obtain ⟨it,fp,tn,J,H2,e,I2,T,st2,f2,W,⟨m0,w0⟩,turn⟩:=h2
 subst e
 have stat:∀ {H':Hp},(∀ b∈fp,H' b=none)->∀ b∈fp,D1 X pins H' b:=λhn b hb=>⟨hn b hb,(f2 b hb).2⟩
 refine codeAny_forLoop_any (λn s'=>∃ i σ' H',Inv X pins σ' H' s'/\tn i s'.heap/\(∀ b∈fp,H' b=none)/\W i n σ' H') ?_ m0 ⟨0,σ,H2,I2,st2,λb hb=>(f2 b hb).1,w0⟩
 rintro n s3 ⟨i,σ3,H3,I3,st3,fr3,w3⟩
 rcases turn i n σ3 H3 w3 with ⟨stop,qn⟩ | ⟨go,N,hN,step⟩
 ·refine wpAny_passesOwn hp (thn (T.done X rfl rfl rfl hc i pins s3 σ3 H3 X.xe I3 (stat fr3) st3 stop) λr s4 ⟨hr,I4⟩=>?_)
  subst hr
  exact wpAny_execs_nil ⟨σ3,H3,I4,qn⟩
 ·refine wpAny_passesOwn hp (thn (T.item X rfl rfl rfl hc i pins s3 σ3 H3 X.xe I3 (stat fr3) st3 go) λr s4 ⟨u,hr,h4⟩=>?_)
  subst hr
  refine wpAny_passesOwn hp (thn h4 λ_ s5 ⟨x,H5,I5,r5,y5,st5,fr5⟩=>?_)
  have I5':=I5.pinned (stat fr5) (T.obj _ _ st5)
  refine wpAny_passesOwn hp (thn (hg _ s5 σ3 H5 x u _ I5' r5 (step x H5 y5)) λ_ s6 ⟨σ6,H6,I6,q6⟩=>?_)
  refine wpAny_passesOwn hp (thn (hb _ s6 σ6 H6 _ I6 q6) λf s7 q7=>?_)
  have again:∀ {σ7:St} {H7:Hp},Inv X (pins++t8 fp s5.heap) σ7 H7 s7->N σ7 H7->∃ m,m<n/\∃ i σ' H',Inv X pins σ' H' s7/\tn i s7.heap/\(∀ b∈fp,H' b=none)/\W i m σ' H':=λ{σ7 H7} I7 n7=>by
   obtain ⟨m',hm,w7⟩:=hN σ7 H7 n7
   refine ⟨m',hm,i+1,σ7,H7,I7.unpinned,T.keep _ _ _ st5 λb hb o e=>(I7.pin (b,o) (List.mem_append_right _ (List.mem_append_right _ (j3 hb e)))).1,λb hb=>?_,w7⟩
   obtain ⟨o,e,d⟩:=T.obj _ _ st5 b hb
   exact (I7.pin (b,o) (List.mem_append_right _ (List.mem_append_right _ (j3 hb e)))).2.1
  cases f with
  | next=>obtain ⟨σ7,H7,I7,n7⟩:=q7;exact again I7 n7
  | cont=>obtain ⟨σ7,H7,I7,n7⟩:=q7;exact again I7 n7
  | brk=>obtain ⟨σ7,H7,I7,q7⟩:=q7;exact ⟨σ7,H7,I7.unpinned,q7⟩
  | ret v=>obtain ⟨x7,σ7,H7,I7,r7,q7⟩:=q7;exact ⟨x7,σ7,H7,I7.unpinned,r7,q7⟩
end
noncomputable abbrev R2:=V->V->Hp->VK->Prop
def OpR (X:Cx) (f:Value->Value->Sem Value) (r:R2):Prop:=
 ∀ (pins:List (Addr×Obj)) (s:Shared) (σ:St) (H:Hp) (x y:V) (v u:Value) (Q:VK),Inv X pins σ H s->RelV x v->RelV y u->r x y H Q ->
  wpAny (model X.prog X.w) X.A (f v u) (EP X pins σ Q) X.xe s
def UnR (X:Cx) (f:Value->Sem Value) (r:V->Hp->VK->Prop):Prop:=
 ∀ (pins:List (Addr×Obj)) (s:Shared) (σ:St) (H:Hp) (x:V) (v:Value) (Q:VK),Inv X pins σ H s->RelV x v->r x H Q ->
  wpAny (model X.prog X.w) X.A (f v) (EP X pins σ Q) X.xe s
def j9 (X:Cx) (f:Value) (r:List V->Hp->VK->Prop):Prop:=
 ∀ (pins:List (Addr×Obj)) (s:Shared) (σ:St) (H:Hp) (xs:List V) (us:List Value) (Q:VK),Inv X pins σ H s->Vals xs us->r xs H Q ->
  wpAny (model X.prog X.w) X.A (call f us) (EP X pins σ Q) X.xe s
def c54 (X:Cx) (r:V->Hp->(Bool->Hp->Prop)->Prop):Prop:=
 ∀ (pins:List (Addr×Obj)) (s:Shared) (σ:St) (H:Hp) (x:V) (v:Value) (Q:Bool->Hp->Prop),Inv X pins σ H s->RelV x v->r x H Q ->
  wpAny (model X.prog X.w) X.A (truthy v) (TP X pins σ Q) X.xe s
def tOp (r:R2) (ta tb:TE):TE:=λσ H Q=>ta σ H λx H1=>tb σ H1 λy H2=>r x y H2 Q
def tUn (r:V->Hp->VK->Prop) (ta:TE):TE:=λσ H Q=>ta σ H λx H1=>r x H1 Q
def rI (C:Int->Int->Prop) (g:Int->Int->V):R2:=λx y H Q=>∃ i j,x=.int i/\y=.int j/\C i j/\Q (g i j) H
def rI0 (g:Int->Int->V):R2:=λx y H Q=>∃ i j,x=.int i/\y=.int j/\Q (g i j) H
def rU (g:Int->V):V->Hp->VK->Prop:=λx H Q=>∃ i,x=.int i/\Q (g i) H
section
variable {X:Cx} {a b c:Expr} {ta tb tc:TE} {pos:Pos}
theorem c0f (ha:PE X a ta) (hb:PE X b tb) {pins:List (Addr×Obj)} {s:Shared} {σ:St} {H:Hp} {R:V->V->Hp->Prop} (I:Inv X pins σ H s)
  (h:ta σ H λx H1=>tb σ H1 λy H2=>R x y H2) {Q:Value->Shared->Prop} {f:Value->Value->Sem Value}
  (hf:∀ v u s2 x y H2,Inv X pins σ H2 s2->RelV x v->RelV y u->R x y H2->wpAny (model X.prog X.w) X.A (f v u) Q X.xe s2) :
  wpAny (model X.prog X.w) X.A (eval a X.env) (λv s₁=>wpAny (model X.prog X.w) X.A (eval b X.env) (λu s₂=>wpAny (model X.prog X.w) X.A (f v u) Q X.xe s₂) X.xe s₁) X.xe s:=by
 refine thn (ha pins s σ H _ I h) λv s1 ⟨x,H1,I1,r1,q1⟩=>?_
 refine thn (hb pins s1 σ H1 _ I1 q1) λu s2 ⟨y,H2,I2,r2,q2⟩=>?_
 exact hf v u s2 x y H2 I2 r1 r2 q2
theorem c37 {op:Operator} {r:R2} (ho:OpR X (binaryOp op) r) (ha:PE X a ta) (hb:PE X b tb):PE X (.BinOp a op b pos) (tOp r ta tb):=by
 intro pins s σ H Q I h
 exact wpAny_BinOp (c0f ha hb I h λv u s2 x y H2 I2 rx ry q=>ho pins s2 σ H2 x y v u Q I2 rx ry q)
theorem c3j {op:UnaryOp} {r:V->Hp->VK->Prop} (ho:UnR X (unaryOp op) r) (ha:PE X a ta):PE X (.UnaryOp op a pos) (tUn r ta):=by
 intro pins s σ H Q I h
 exact UnaryOp_ (thn (ha pins s σ H _ I h) λv s1 ⟨x,H1,I1,r1,q1⟩=>ho pins s1 σ H1 x v Q I1 r1 q1)
theorem opI {f:Value->Value->Sem Value} {C:Int->Int->Prop} {g:Int->Int->Int}
  (rule:∀ (i j:Int) (t u:Tok) (s:Shared) (Q:Value->Shared->Prop) (E:Value->Shared->Prop),C i j->Q (.int (g i j) s.toks) { s with toks:=s.toks+1 }->wpAny (model X.prog X.w) X.A (f (.int i t) (.int j u)) Q E s) :
  OpR X f (rI C λi j=>.int (g i j)):=by
 intro pins s σ H x y v u Q I rx ry h
 obtain ⟨i,j,rfl,rfl,hc,q⟩:=h
 obtain ⟨t,rfl⟩:=rx
 obtain ⟨t',rfl⟩:=ry
 exact rule i j t t' s _ _ hc ⟨.int (g i j),H,I.tok _,⟨_,rfl⟩,q⟩
theorem c3z {f:Value->Value->Sem Value} {g:Int->Int->Int}
  (rule:∀ (i j:Int) (t u:Tok) (s:Shared) (Q:Value->Shared->Prop) (E:Value->Shared->Prop),Q (.int (g i j) s.toks) { s with toks:=s.toks+1 }->wpAny (model X.prog X.w) X.A (f (.int i t) (.int j u)) Q E s) :
  OpR X f (rI0 λi j=>.int (g i j)):=by
 intro pins s σ H x y v u Q I rx ry h
 obtain ⟨i,j,rfl,rfl,q⟩:=h
 obtain ⟨t,rfl⟩:=rx
 obtain ⟨t',rfl⟩:=ry
 exact rule i j t t' s _ _ ⟨.int (g i j),H,I.tok _,⟨_,rfl⟩,q⟩
theorem b4h {f:Value->Value->Sem Value} {g:Int->Int->Bool}
  (rule:∀ (i j:Int) (t u:Tok) (s:Shared) (Q:Value->Shared->Prop) (E:Value->Shared->Prop),Q (.bool (g i j)) s->wpAny (model X.prog X.w) X.A (f (.int i t) (.int j u)) Q E s) :
  OpR X f (rI0 λi j=>.bl (g i j)):=by
 intro pins s σ H x y v u Q I rx ry h
 obtain ⟨i,j,rfl,rfl,q⟩:=h
 obtain ⟨t,rfl⟩:=rx
 obtain ⟨t',rfl⟩:=ry
 exact rule i j t t' s _ _ ⟨.bl (g i j),H,I,rfl,q⟩
def a8p (i j:Int):Prop:=0<j/\j<1073741824
def b3c (i j:Int):Prop:=0<=j/\j<=1000000/\i.natAbs<2 ^ 64
def CMul (i j:Int):Prop:=(-(2 ^ 64)<i/\i<2 ^ 64)\/(-(2 ^ 64)<j/\j<2 ^ 64)
theorem CMul.ok {i j:Int} (h:CMul i j):IntMulOk i j:=by
 rcases h with ⟨h1,h2⟩ | ⟨h1,h2⟩
 ·exact .of_left (intBits_le_64 h1 h2)
 ·exact .of_right (intBits_le_64 h1 h2)
theorem b72:OpR X (binaryOp .Add) (rI0 λi j=>.int (i+j)):=c3z λ_ _ _ _ _ _ _ q=>add_int q
theorem b7x:OpR X (binaryOp .Sub) (rI0 λi j=>.int (i-j)):=c3z λ_ _ _ _ _ _ _ q=>sub_int q
theorem c0k:OpR X (binaryOp .Mult) (rI CMul λi j=>.int (i * j)):=opI λ_ _ _ _ _ _ _ hc q=>mul_int q hc.ok
theorem b4i:OpR X (binaryOp .FloorDiv) (rI a8p λi j=>.int (i / j)):=opI λi j _ _ _ _ _ hc q=>by
 have h1:(0:Int)<j:=hc.1
 have h2:j<1073741824:=hc.2
 exact floordiv_int (by omega) (by rw [Int.fdiv_eq_ediv_of_nonneg i (by omega)];exact q) (.inl (PyProof.noPylong_small (by omega)))
theorem b9u:OpR X (binaryOp .Mod) (rI (λ_ j=>0<j) λi j=>.int (i % j)):=opI λi j _ _ _ _ _ hc q=>by
 have h1:(0:Int)<j:=hc
 exact mod_int' (by omega) (by rw [Int.fmod_eq_emod_of_nonneg i (by omega)];exact q)
theorem b7e:OpR X (binaryOp .Pow) (rI b3c λi j=>.int (i ^ j.toNat)):=opI λ_ _ _ _ _ _ _ hc q=>pow_int_small hc.1 hc.2.1 hc.2.2 q
theorem unI {f:Value->Sem Value} {g:Int->Int}
  (rule:∀ (i:Int) (t:Tok) (s:Shared) (Q:Value->Shared->Prop) (E:Value->Shared->Prop),Q (.int (g i) s.toks) { s with toks:=s.toks+1 }->wpAny (model X.prog X.w) X.A (f (.int i t)) Q E s) :
  UnR X f (rU λi=>.int (g i)):=by
 intro pins s σ H x v Q I rx h
 obtain ⟨i,rfl,q⟩:=h
 obtain ⟨t,rfl⟩:=rx
 exact rule i t s _ _ ⟨.int (g i),H,I.tok _,⟨_,rfl⟩,q⟩
theorem c0t:UnR X (unaryOp .USub) (rU λi=>.int (-i)):=unI λ_ _ _ _ _ q=>neg_int q
end
noncomputable def c20:V->V->Bool
 | .non,.non=>true | .non,.int _=>true | .int _,.non=>true | .non,.bl _=>true | .bl _,.non=>true | .non,.str _=>true | .str _,.non=>true
 | .int _,.int _=>true | .bl _,.bl _=>true | .str _,.str _=>true | .byt _,.byt _=>true
 | .int _,.str _=>true | .str _,.int _=>true | .bl _,.str _=>true | .str _,.bl _=>true
 | _,_=>false
def rEq:R2:=λx y H Q=>c20 x y=true/\Q (.bl (decide (x=y))) H
def rNe:R2:=λx y H Q=>c20 x y=true/\Q (.bl (!decide (x=y))) H
theorem a5o {i j:Int}:decide (V.int i=V.int j)=(i==j):=by
 rw [Bool.eq_iff_iff]
 simp
theorem b0y {i j:Bool}:decide (V.bl i=V.bl j)=(i==j):=by
 rw [Bool.eq_iff_iff]
 simp
theorem a6y {i j:Str}:decide (V.str i=V.str j)=(i==j):=by
 rw [Bool.eq_iff_iff]
 simp
theorem a6i {i j:Array UInt8}:decide (V.byt i=V.byt j)=(i.toList==j.toList):=by
 rw [Bool.eq_iff_iff]
 cases i
 cases j
 simp
section
variable {X:Cx} {a b c:Expr} {ta tb tc:TE} {pos:Pos}
theorem c9 {pins:List (Addr×Obj)} {σ:St} {H:Hp} {s:Shared} {Q:VK} {k k':Bool} (I:Inv X pins σ H s) (q:Q (.bl k) H) (e:k=k'):EP X pins σ Q (.bool k') s:=by
 subst e
 exact ⟨.bl k,H,I,rfl,q⟩
theorem c24:OpR X (compareOp .Eq) rEq:=by
 intro pins s σ H x y v u Q I rx ry h
 obtain ⟨hs,q⟩:=h
 cases x with
 | non=>
  cases rx
  cases y with
  | non=>cases ry;exact PySem.EqNone.eq_none_none (c9 I q (by simp))
  | bl j=>cases ry;exact PySem.EqNone.eq_none_bool (c9 I q (by simp))
  | int j=>obtain ⟨t',rfl⟩:=ry;exact PySem.EqNone.eq_none_int (c9 I q (by simp))
  | str j=>obtain ⟨t',rfl⟩:=ry;exact PySem.EqNone.eq_none_str (c9 I q (by simp))
  | _=>exact absurd (show false=true from hs) Bool.false_ne_true
 | bl i=>
  cases rx
  cases y with
  | non=>cases ry;exact PySem.EqNone.eq_bool_none (c9 I q (by simp))
  | bl j=>cases ry;exact eq_bool (c9 I q b0y)
  | str j=>obtain ⟨t',rfl⟩:=ry;exact PySem.EqMixed.eq_bool_str (c9 I q (by simp))
  | _=>exact absurd (show false=true from hs) Bool.false_ne_true
 | int i=>
  obtain ⟨t,rfl⟩:=rx
  cases y with
  | non=>cases ry;exact PySem.EqNone.eq_int_none (c9 I q (by simp))
  | int j=>obtain ⟨t',rfl⟩:=ry;exact eq_int (c9 I q a5o)
  | str j=>obtain ⟨t',rfl⟩:=ry;exact PySem.EqMixed.eq_int_str (c9 I q (by simp))
  | _=>exact absurd (show false=true from hs) Bool.false_ne_true
 | str i=>
  obtain ⟨t,rfl⟩:=rx
  cases y with
  | non=>cases ry;exact PySem.EqNone.eq_str_none (c9 I q (by simp))
  | bl j=>cases ry;exact PySem.EqMixed.eq_str_bool (c9 I q (by simp))
  | int j=>obtain ⟨t',rfl⟩:=ry;exact PySem.EqMixed.eq_str_int (c9 I q (by simp))
  | str j=>obtain ⟨t',rfl⟩:=ry;exact eq_str (c9 I q a6y)
  | _=>exact absurd (show false=true from hs) Bool.false_ne_true
 | byt i=>
  obtain ⟨t,rfl⟩:=rx
  cases y with
  | byt j=>obtain ⟨t',rfl⟩:=ry;exact PySem.W.eq_bytes (c9 I q a6i)
  | _=>exact absurd (show false=true from hs) Bool.false_ne_true
 | _=>cases y <;> exact absurd (show false=true from hs) Bool.false_ne_true
theorem c1p:OpR X (compareOp .NotEq) rNe:=by
 intro pins s σ H x y v u Q I rx ry h
 obtain ⟨hs,q⟩:=h
 cases x with
 | non=>
  cases rx
  cases y with
  | non=>cases ry;exact PySem.EqNone.ne_none_none (c9 I q (by simp))
  | bl j=>cases ry;exact PySem.EqNone.ne_none_bool (c9 I q (by simp))
  | int j=>obtain ⟨t',rfl⟩:=ry;exact PySem.EqNone.ne_none_int (c9 I q (by simp))
  | str j=>obtain ⟨t',rfl⟩:=ry;exact PySem.EqNone.ne_none_str (c9 I q (by simp))
  | _=>exact absurd (show false=true from hs) Bool.false_ne_true
 | bl i=>
  cases rx
  cases y with
  | non=>cases ry;exact PySem.EqNone.ne_bool_none (c9 I q (by simp))
  | bl j=>cases ry;exact ne_bool (c9 I q (congrArg not b0y))
  | str j=>obtain ⟨t',rfl⟩:=ry;exact PySem.EqMixed.ne_bool_str (c9 I q (by simp))
  | _=>exact absurd (show false=true from hs) Bool.false_ne_true
 | int i=>
  obtain ⟨t,rfl⟩:=rx
  cases y with
  | non=>cases ry;exact PySem.EqNone.ne_int_none (c9 I q (by simp))
  | int j=>obtain ⟨t',rfl⟩:=ry;exact ne_int (c9 I q (congrArg not a5o))
  | str j=>obtain ⟨t',rfl⟩:=ry;exact PySem.EqMixed.ne_int_str (c9 I q (by simp))
  | _=>exact absurd (show false=true from hs) Bool.false_ne_true
 | str i=>
  obtain ⟨t,rfl⟩:=rx
  cases y with
  | non=>cases ry;exact PySem.EqNone.ne_str_none (c9 I q (by simp))
  | bl j=>cases ry;exact PySem.EqMixed.ne_str_bool (c9 I q (by simp))
  | int j=>obtain ⟨t',rfl⟩:=ry;exact PySem.EqMixed.ne_str_int (c9 I q (by simp))
  | str j=>obtain ⟨t',rfl⟩:=ry;exact ne_str (c9 I q (congrArg not a6y))
  | _=>exact absurd (show false=true from hs) Bool.false_ne_true
 | byt i=>
  obtain ⟨t,rfl⟩:=rx
  cases y with
  | byt j=>obtain ⟨t',rfl⟩:=ry;exact PySem.W.ne_bytes (c9 I q (congrArg not a6i))
  | _=>exact absurd (show false=true from hs) Bool.false_ne_true
 | _=>cases y <;> exact absurd (show false=true from hs) Bool.false_ne_true
theorem c1s:OpR X (compareOp .Lt) (rI0 λi j=>.bl (decide (i<j))):=b4h λ_ _ _ _ _ _ _ q=>lt_int q
theorem c2k:OpR X (compareOp .LtE) (rI0 λi j=>.bl (decide (i<=j))):=b4h λ_ _ _ _ _ _ _ q=>le_int q
theorem c2p:OpR X (compareOp .Gt) (rI0 λi j=>.bl (decide (j<i))):=b4h λ_ _ _ _ _ _ _ q=>gt_int q
theorem c46:OpR X (compareOp .GtE) (rI0 λi j=>.bl (decide (j<=i))):=b4h λ_ _ _ _ _ _ _ q=>ge_int q
theorem b6b {op:CmpOp} {r:R2} (ho:OpR X (compareOp op) r) (ha:PE X a ta) (hb:PE X b tb) (hm:behindInMarks op b=false):PE X (.Compare a [op] [b] pos) (tOp r ta tb):=by
 intro pins s σ H Q I h
 exact wpAny_Compare1 (c0f ha hb I h λv u s2 x y H2 I2 rx ry q=>ho pins s2 σ H2 x y v u Q I2 rx ry q) hm
def c2l (t:TE):TT:=λσ H Q=>t σ H λx H'=>∃ k,x=.bl k/\Q k H'
theorem b3f {op:CmpOp} {r:R2} (ho:OpR X (compareOp op) r) (ha:PE X a ta) (hb:PE X b tb) (hm:behindInMarks op b=false):PT X (.Compare a [op] [b] pos) (c2l (tOp r ta tb)):=by
 intro pins s σ H Q I h
 refine wpAny_isTrue_Compare1 (thn (ha pins s σ H _ I h) λv s1 ⟨x,H1,I1,r1,q1⟩=>thn (hb pins s1 σ H1 _ I1 q1) λu s2 ⟨y,H2,I2,r2,q2⟩=>
  thn (ho pins s2 σ H2 x y v u _ I2 r1 r2 q2) λc s3 ⟨z,H3,I3,r3,k,e,q3⟩=>?_) hm
 subst e
 cases r3
 exact wpAny_truthy_bool ⟨H3,I3,q3⟩
def c0y (r r':R2) (ta tb tc:TE):TE:=λσ H Q=>ta σ H λx H1=>tb σ H1 λy H2=>r x y H2 λz H3=>∃ k,z=.bl k /\
 (if k=true then tc σ H3 λw' H4=>r' y w' H4 Q else Q (.bl false) H3)
theorem a9r {op op':CmpOp} {r r':R2} (ho:OpR X (compareOp op) r) (ho':OpR X (compareOp op') r') (ha:PE X a ta) (hb:PE X b tb) (hc:PE X c tc)
  (hm:lastMarks [op,op'] [b,c]=false:=by with_unfolding_all rfl):PE X (.Compare a [op,op'] [b,c] pos) (c0y r r' ta tb tc):=by
 intro pins s σ H Q I h
 refine Compare_chain (thn (ha pins s σ H _ I h) λv s1 ⟨x,H1,I1,r1,q1⟩=>chain_link (thn (hb pins s1 σ H1 _ I1 q1) λu s2 ⟨y,H2,I2,r2,q2⟩=>
  thn (ho pins s2 σ H2 x y v u _ I2 r1 r2 q2) λd s3 ⟨z,H3,I3,r3,k,e,q3⟩=>?_)) hm
 subst e
 cases r3
 refine wpAny_truthy_bool ?_
 cases k with
 | false=>exact ite_ff ⟨.bl false,H3,I3,rfl,q3⟩
 | true=>exact ite_tt (chain_last (thn (hc pins s3 σ H3 _ I3 q3) λw' s4 ⟨z',H4,I4,r4,q4⟩=>ho' pins s4 σ H4 y z' u w' Q I4 r2 r4 q4))
def a7q (K:PySem.W.Frag) (x:V) (H:Hp) (k:Bool):Prop:=
 match x with
 | .non=>k=false
 | .bl b=>k=b
 | .int i=>k=(i != 0)
 | .str y=>y.length<=sizeLine/\k=((y.length:Int) != 0)
 | .byt y=>y.size<=sizeLine/\k=((y.size:Int) != 0)
 | .ref p=>(∃ xs,SqL K H p xs/\k=!xs.isEmpty)\/(∃ xs,SqT K H p xs/\k=!xs.isEmpty)\/∃ kvs,H p=some (.dK kvs)/\k=!kvs.isEmpty
 | _=>False
theorem a4m {κ:Type} {kvs:List (κ×V)} {vs:List (κ×Value)} (r:KV kvs vs):(!vs.isEmpty)=!kvs.isEmpty:=by
 cases r <;> rfl
theorem U8 {xs:List V} {its:List Value} (r:Vals xs its):(!its.toArray.isEmpty)=!xs.isEmpty:=by
 cases r <;> simp
theorem O0:(sizeLine:Nat)<2 ^ 63:=by rw [sizeLine_eq];decide
theorem a1d:c54 X (λx H Q=>∃ k,a7q X.K x H k/\Q k H):=by
 intro pins s σ H x v Q I rx h
 obtain ⟨k,e,q⟩:=h
 have hl:=O0
 have hs:sizeLine=16777216:=sizeLine_eq
 cases x with
 | non=>
  cases rx
  have e':k=false:=e
  subst e'
  exact truthy_none ⟨H,I,q⟩
 | bl b=>
  cases rx
  have e':k=b:=e
  subst e'
  exact wpAny_truthy_bool ⟨H,I,q⟩
 | int i=>
  obtain ⟨t,rfl⟩:=rx
  have e':k=(i != 0):=e
  subst e'
  exact PySem.P.truthy_int ⟨H,I,q⟩
 | str y=>
  obtain ⟨t,rfl⟩:=rx
  obtain ⟨hy,e'⟩:y.length<=sizeLine/\k=((y.length:Int) != 0):=e
  subst e'
  exact PySem.P.truthy_str (by omega) ⟨H,I.tok _,q⟩
 | byt y=>
  obtain ⟨t,rfl⟩:=rx
  obtain ⟨hy,e'⟩:y.size<=sizeLine/\k=((y.size:Int) != 0):=e
  subst e'
  exact PySem.W.truthy_bytes (by omega) ⟨H,I.tok _,q⟩
 | ref p=>
  cases rx
  have e':(∃ xs,SqL X.K H p xs/\k=!xs.isEmpty)\/(∃ xs,SqT X.K H p xs/\k=!xs.isEmpty)\/∃ kvs,H p=some (.dK kvs)/\k=!kvs.isEmpty:=e
  rcases e' with ⟨xs,hx,e'⟩ | ⟨xs,hx,e'⟩ | ⟨kvs,hx,e'⟩
  ·subst e'
   obtain ⟨its,r,pl,hz⟩:=I.list hx
   have hlen:=r.length
   exact wpAny_truthy_list pl.isList (by simp only [List.size_toArray];omega) ⟨H,I.tok _,by rw [U8 r];exact q⟩
  ·subst e'
   obtain ⟨its,r,pl,hz⟩:=I.tuple hx
   have hlen:=r.length
   exact truthy_tuple pl (by simp only [List.size_toArray];omega) ⟨H,I.tok _,by rw [U8 r];exact q⟩
  ·subst e'
   obtain ⟨hz,hS,vs,r,m⟩:kvs.length<=sizeLine/\(p==sysModules)=false/\∃ vs,KV kvs vs/\s.heap.DictOf (k6 X.prog X.w) p vs:=I.hok p _ hx
   have hlen:kvs.length=vs.length:=Paired.length r
   exact wpAny_truthy_dict hS m (by omega) ⟨H,I.tok _,by rw [a4m r];exact q⟩
 | _=>exact (show False from e).elim
theorem a9s (ha:PE X a ta) (he:∀ whole,isTrue a X.env whole=(do let v <- whole;standAt a.pos;holding [v] (truthy v))) :
  PT X a (λσ H Q=>ta σ H λx H'=>∃ k,a7q X.K x H' k/\Q k H'):=by
 intro pins s σ H Q I h
 exact isTrue_plain (thn (ha pins s σ H _ I h) λv s1 ⟨x,H1,I1,r1,q1⟩=>a1d pins s1 σ H1 x v Q I1 r1 q1) (he _)
theorem a4y:OpR X (binaryOp .Add) (λx y H Q=>∃ i j,x=.str i/\y=.str j/\i.length+j.length<=sizeLine/\Q (.str (i++j)) H):=by
 intro pins s σ H x y v u Q I rx ry h
 obtain ⟨i,j,rfl,rfl,hz,q⟩:=h
 obtain ⟨t,rfl⟩:=rx
 obtain ⟨t',rfl⟩:=ry
 exact add_str (λt' tk=>⟨.str (i++j),H,I.tok _,⟨_,rfl⟩,q⟩) hz
theorem P7 {x:V} {us:List Value} (r:Vals [x] us):∃ u,us=[u]/\RelV x u:=by
 cases r with
 | cons r1 r2=>cases r2;exact ⟨_,rfl,r1⟩
theorem b2h {x y:V} {us:List Value} (r:Vals [x,y] us):∃ u w',us=[u,w']/\RelV x u/\RelV y w':=by
 cases r with
 | cons r1 r2=>
  cases r2 with
  | cons r3 r4=>cases r4;exact ⟨_,_,rfl,r1,r3⟩
end
theorem Z4 {h:Heap} {dx:Addr} {mA:Str->Option Value} (n:h.Ns1 dx mA):∃ od,h.get? dx=some od/\∀ name,PySem.W.lookIn name od=some (mA name):=by
 obtain ⟨o,es,ep,ho,hd,hk,_,hm⟩:=n
 refine ⟨o,ho,λname=>?_⟩
 have e:=hm name
 unfold nsFind findBy at e
 rw [<- Array.find?_toList] at e
 unfold PySem.W.lookIn
 rw [hd]
 dsimp only
 split
 ·rename_i y q
  rw [q] at e
  exact congrArg some e
 ·rename_i q
  rw [q] at e
  have a:es.toList.any (·.refKey)=false:=by
   rw [List.any_eq_false]
   intro y hy
   obtain ⟨z,t,hkey⟩:=hk y (Array.mem_toList_iff.mp hy)
   simp [DictEntry.refKey,hkey]
  have a':¬ es.toList.any (·.refKey)=true:=by rw [a];exact Bool.false_ne_true
  rw [if_neg a']
  exact congrArg some e
noncomputable def I0 (f:Str) (v:V):List (Str×V)->List (Str×V)
 | []=>[(f,v)]
 | (g,x) :: r=>if g=f then (g,v) :: r else (g,x) :: I0 f v r
theorem P4 (f g:Str) (v:V):∀ fs:List (Str×V),(I0 f v fs).lookup g=if g=f then some v else fs.lookup g
 | []=>by
  show List.lookup g [(f,v)]=_
  by_cases h:g=f
  ·have hb:(g==f)=true:=beq_iff_eq.mpr h
   simp only [List.lookup,hb,if_pos h]
  ·have hb:(g==f)=false:=beq_eq_false_iff_ne.mpr h
   simp only [List.lookup,hb,if_neg h]
 | (k,x) :: r=>by
  have ih:=P4 f g v r
  rw [show I0 f v ((k,x) :: r)=(if k=f then (k,v) :: r else (k,x) :: I0 f v r) from rfl]
  by_cases hk:k=f
  ·rw [if_pos hk]
   by_cases h:g=k
   ·have hb:(g==k)=true:=beq_iff_eq.mpr h
    simp only [List.lookup,hb,if_pos (h.trans hk)]
   ·have hb:(g==k)=false:=beq_eq_false_iff_ne.mpr h
    simp only [List.lookup,hb,if_neg (λe:g=f=>h (e.trans hk.symm))]
  ·rw [if_neg hk]
   by_cases h:g=k
   ·have hb:(g==k)=true:=beq_iff_eq.mpr h
    simp only [List.lookup,hb,if_neg (λe:g=f=>hk (h.symm.trans e))]
   ·have hb:(g==k)=false:=beq_eq_false_iff_ne.mpr h
    simp only [List.lookup,hb]
    exact ih
theorem N6 (f:Str) (v:V):∀ fs:List (Str×V),f∈(I0 f v fs).map (·.1)/\∀ g,g∈fs.map (·.1)->g∈(I0 f v fs).map (·.1)
 | []=>⟨by simp [I0],λg h=>by simp at h⟩
 | (k,x) :: r=>by
  obtain ⟨i1,i2⟩:=N6 f v r
  rw [show I0 f v ((k,x) :: r)=(if k=f then (k,v) :: r else (k,x) :: I0 f v r) from rfl]
  by_cases hk:k=f
  ·rw [if_pos hk]
   subst hk
   exact ⟨by simp,λg h=>by simpa using h⟩
  ·rw [if_neg hk]
   refine ⟨?_,λg h=>?_⟩
   ·rw [List.map_cons]
    exact List.mem_cons_of_mem _ i1
   ·rw [List.map_cons] at h ⊢
    rcases List.mem_cons.mp h with e | e
    ·exact List.mem_cons.mpr (.inl e)
    ·exact List.mem_cons_of_mem _ (i2 g e)
theorem Q0 (f:Str) (v:V):∀ fs:List (Str×V),(I0 f v fs).length<=fs.length+1
 | []=>by simp [I0]
 | (k,x) :: r=>by
  have ih:=Q0 f v r
  rw [show I0 f v ((k,x) :: r)=(if k=f then (k,v) :: r else (k,x) :: I0 f v r) from rfl]
  by_cases hk:k=f
  ·rw [if_pos hk,List.length_cons,List.length_cons];omega
  ·rw [if_neg hk,List.length_cons,List.length_cons];omega
theorem RelO.some_of {v:V} {o:Option Value} (r:RelO (some v) o):∃ u,o=some u/\RelV v u:=by
 cases o with
 | none=>exact (show False from r).elim
 | some u=>exact ⟨u,rfl,r⟩
def t7 (K:PySem.W.Frag) (C:Addr) (f:Str):Prop:=PySem.W.findIn K (.ref C) f=some none
structure Room (q:Bool) (k:Nat) (A:Around):Prop where
 hd:q=false->A.handled=none
 dp:A.depth+3 * k+5<recursionLimit
 un:A.units+16 * k+200<cLine
 gd:A.guards=some []
theorem Room.any {q:Bool} {k:Nat} {A:Around} (r:Room false k A):Room q k A:=⟨λ_=>r.hd rfl,r.dp,r.un,r.gd⟩
theorem Room.mono {q:Bool} {j k:Nat} {A:Around} (r:Room q k A) (h:j<=k):Room q j A:=⟨r.hd,by have:=r.dp;omega,by have:=r.un;omega,r.gd⟩
theorem Room.deeper {q:Bool} {k:Nat} {A:Around} (r:Room q (k+1) A) (env:Env):Room q k (A.deeper env):=
 ⟨r.hd,by have:=r.dp;show A.depth+1+3 * k+5<_;omega,by have:=r.un;show A.units+3+16 * k+200<_;omega,r.gd⟩
theorem a4s {A:Around} {C:Addr} {us:List Value} {kw:List (Str×Value)}:(A.under (.builtin "type.__call__" ⟨.ref C :: us,kw⟩)).depth=A.depth+1:=by
 first | rfl | simp [Around.under,Code.weight,Code.isCreation,Code.isGuard,Code.isCaller,Code.frames,Code.isFrame,guardIds]
theorem a43 {A:Around} {C:Addr} {us:List Value} {kw:List (Str×Value)}:(A.under (.builtin "type.__call__" ⟨.ref C :: us,kw⟩)).units=A.units+1:=by
 first | rfl | simp [Around.under,Code.cUnits,Code.frames,Code.isFrame]
theorem Room.make {q:Bool} {k:Nat} {A:Around} (r:Room q (k+1) A) (C:Addr) (us:List Value) (kw:List (Str×Value)):Room q k (A.under (.builtin "type.__call__" ⟨.ref C :: us,kw⟩)):=
 ⟨r.hd,by have:=r.dp;rw [a4s];omega,by have:=r.un;rw [a43];omega,by have:=r.gd;simp [Around.under,Code.guards,Code.isGuard,guardIds,pushGuards,this]⟩
theorem Room.depth {q:Bool} {k:Nat} {A:Around} (r:Room q k A):A.depth<recursionLimit:=by have:=r.dp;omega
theorem Room.units {q:Bool} {k:Nat} {A:Around} (r:Room q k A):A.units+64<cLine:=by have:=r.un;omega
def tNil:TA:=λ_ H Q=>Q [] H
def c1l (ta:TE) (tr:TA):TA:=λσ H Q=>ta σ H λx H1=>tr σ H1 λxs H2=>Q (x :: xs) H2
section
variable {X:Cx} {e:Expr} {es:List Expr} {te:TE} {t:TA} {pos:Pos}
theorem a0y:PA X [] tNil:=λ_ _ _ _ H Q I h=>Calls.spliced_nil ⟨[],H,I,.nil,h⟩
theorem B6 (ha:PE X e te) (hr:PA X es t) (hs:starEach (e :: es) X.env=(false,eval e X.env) :: starEach es X.env:=by rfl):PA X (e :: es) (c1l te t):=by
 intro pos pins s σ H Q I h
 rw [hs]
 show wpAny _ _ (spliced ((false,eval e X.env) :: backTo pos (starEach es X.env))) _ _ s
 refine Calls.spliced_cons (thn (ha pins s σ H _ I h) λu s1 ⟨x,H1,I1,r1,q1⟩=>?_)
 exact thn (hr pos pins s1 σ H1 _ I1 q1) λus s2 ⟨xs,H2,I2,r2,q2⟩=>⟨x :: xs,H2,I2,.cons r1 r2,q2⟩
def c5i (t:TA):TE:=λσ H Q=>t σ H λxs H1=>xs.length<=sizeLine/\∀ p,H1 p=none->Q (.ref p) (upd H1 p (.tup xs))
def c6c (t:TA):TE:=λσ H Q=>t σ H λxs H1=>xs.length<=sizeLine/\∀ p,H1 p=none->Q (.ref p) (upd H1 p (.lst xs))
theorem b7d {x1} (h:PA X es t):PE X (.Tuple es x1 pos) (c5i t):=by
 intro pins s σ H Q I hq
 refine wpAny_Tuple_spliced (thn (h pos pins s σ H _ I hq) λus s1 ⟨xs,H1,I1,r,z,q⟩=>⟨by rw [<- r.length];exact z,?_⟩)
 have hf:H1 s1.heap.objs.size=none:=I1.hok.fresh (Nat.le_refl _)
 refine ⟨.ref s1.heap.objs.size,upd H1 s1.heap.objs.size (.tup xs),I1.laid (t':=s1.toks) (λb u e=>Heap.get?_push_of_some _ e) (Nat.le_refl _) ?_,rfl,q _ hf⟩
 exact ⟨z,us,r,⟨_,Heap.get?_push_size _ rfl,rfl,_,rfl,rfl⟩⟩
theorem a8w (h:PA X es t):PE X (.List es pos) (c6c t):=by
 intro pins s σ H Q I hq
 refine wpAny_List_spliced (thn (h pos pins s σ H _ I hq) λus s1 ⟨xs,H1,I1,r,z,q⟩=>⟨by rw [<- r.length];exact z,?_⟩)
 have hf:H1 s1.heap.objs.size=none:=I1.hok.fresh (Nat.le_refl _)
 refine ⟨.ref s1.heap.objs.size,upd H1 s1.heap.objs.size (.lst xs),I1.laid (t':=s1.toks) (λb u e=>Heap.get?_push_of_some _ e) (Nat.le_refl _) ?_,rfl,q _ hf⟩
 exact ⟨z,us,0,r,Heap.get?_push_size _ rfl⟩
end
noncomputable abbrev Sp:=List V->Hp->VK->XK->Prop
structure CXT where
 cx:List Env->Hp->Shared->XK->Value->Shared->Prop
 q:Bool
instance:CoeFun CXT λ_=>List Env->Hp->Shared->XK->Value->Shared->Prop:=⟨CXT.cx⟩
structure Env0 (P:Program) (w:World) (K:PySem.W.Frag) (mg:Str->Option Value) (base:Heap) (A:Around) (outer:List Env) (s:Shared) (H:Hp):Prop where
 frames:A.frames=some outer
 mod:Mod K mg base
 bs:∀ b o,base.get? b=some o->s.heap.get? b=some o/\H b=none
 bsz:base.objs.size<=s.heap.objs.size
 funs:s.heap.FunFrames base outer
 frf:∀ b∈frs outer,H b=none
 hok:HOk P w H s.heap
 bare:AllBare s.gens
def CE (outer:List Env) (P:Program) (w:World) (H:Hp) (s:Shared) (Q:VK) (u:Value) (s':Shared):Prop:=
 ∃ v H',s'.os=s.os/\AllBare s'.gens/\Un (frs outer) [] H H' s.heap s'.heap/\HOk P w H' s'.heap/\RelV v u/\Q v H'
def CR (CX:CXT) (outer:List Env) (P:Program) (w:World) (H:Hp) (s:Shared) (Q:VK) (E:XK) (r:Result) (s':Shared):Prop:=
 match r with
 | .ok (.ret u)=>CE outer P w H s Q u s'
 | .ok _=>False
 | .error e=>CX outer H s E e s'
structure FnOk (P:Program) (w:World) (K:PySem.W.Frag) (mg:Str->Option Value) (base:Heap) (CX:CXT) (k:Nat) (f:Addr) (fd:FuncData) (ps:List Str) (sp:Sp):Prop where
 len:∀ vs H Q E,sp vs H Q E->vs.length=ps.length
 run:∀ (A:Around) (outer:List Env) (s:Shared) (H:Hp) (args:Args) (us:List Value) (vs:List V) (Q:VK) (E:XK),Room CX.q k A->Env0 P w K mg base A outer s H->BindsTo s fd args (ps.zip us)->Vals vs us->sp vs H Q E ->
  codeAny (model P w) A (.call (.ref f) args) (CR CX outer P w H s Q E) s
theorem FnOk.mono {P:Program} {w:World} {K:PySem.W.Frag} {mg:Str->Option Value} {base:Heap} {CX:CXT} {j k:Nat} {f:Addr} {fd:FuncData} {ps:List Str} {sp:Sp} (F:FnOk P w K mg base CX j f fd ps sp) (h:j<=k) :
  FnOk P w K mg base CX k f fd ps sp:=⟨F.len,λA outer s H args us vs Q E hr=>F.run A outer s H args us vs Q E (hr.mono h)⟩
theorem FnOk.imp {P:Program} {w:World} {K:PySem.W.Frag} {mg:Str->Option Value} {base:Heap} {CX:CXT} {k:Nat} {f:Addr} {fd:FuncData} {ps:List Str} {sp sp':Sp} (F:FnOk P w K mg base CX k f fd ps sp)
  (h:∀ vs H Q E,sp' vs H Q E->sp vs H Q E):FnOk P w K mg base CX k f fd ps sp':=
 ⟨λvs H Q E q=>F.len vs H Q E (h _ _ _ _ q),λA outer s H args us vs Q E hr he hb hv hs=>F.run A outer s H args us vs Q E hr he hb hv (h _ _ _ _ hs)⟩
theorem Env0.make {P:Program} {w:World} {K:PySem.W.Frag} {mg:Str->Option Value} {base:Heap} {A:Around} {outer:List Env} {s:Shared} {H:Hp} (e:Env0 P w K mg base A outer s H) (C:Addr) (us:List Value) (kw:List (Str×Value)) :
  Env0 P w K mg base (A.under (.builtin "type.__call__" ⟨.ref C :: us,kw⟩)) outer s H:=⟨by first | exact e.frames | (simpa [Around.under,Code.envs,Code.isFrame,pushEnvs] using e.frames),e.mod,e.bs,e.bsz,e.funs,e.frf,e.hok,e.bare⟩
section
variable {X:Cx} {pins:List (Addr×Obj)} {σ:St} {H:Hp} {s s':Shared}
theorem Inv.env0 (I:Inv X pins σ H s):Env0 X.prog X.w X.K X.mg X.base X.A X.stack s H:=
 ⟨I.ok.frames,I.ok.mod,I.bs,Nat.le_trans I.ok.bsz I.sz,I.stack,I.stkFree,I.hok,I.bare⟩
theorem Inv.after {Q:VK} {u:Value} (I:Inv X pins σ H s) (h:CE X.stack X.prog X.w H s Q u s'):EP X pins σ Q u s':=by
 obtain ⟨v,H',os,bare,un,hok,r,q⟩:=h
 obtain ⟨hh,g,d,t,os'⟩:=s'
 obtain rfl:os'=s.os:=os
 exact ⟨v,H',I.call (h':=hh) (g':=g) (d':=d) (t':=t) (ch:=[]) un hok bare (λb z=>absurd z (by simp)),r,q⟩
end
def b0b (sp:Sp) (dvs:List V) (E:XK) (t:TA):TE:=λσ H Q=>t σ H λvs H1=>sp (vs++dvs) H1 Q E
def Binds (K:PySem.W.Frag) (fd:FuncData) (ps:List Str) (ds:List Value):Prop:=
 ∀ (s:Shared) (us:List Value),K.In s.heap->(us++ds).length=ps.length->BindsTo s fd ⟨us,[]⟩ (ps.zip (us++ds))
theorem Binds.all {K:PySem.W.Frag} {fd:FuncData} {ps:List Str} (h:∀ us:List Value,us.length=ps.length->bindArgs fd ⟨us,[]⟩=pure (ps.zip us)):Binds K fd ps []:=λs us _ hl=>by
 rw [List.append_nil] at hl ⊢
 exact .of_eq (h us hl)
def A0 (CX:CXT) (X:Cx) (E:XK):Prop:=∀ (pins:List (Addr×Obj)) (σ:St) (H:Hp) (s:Shared) (e:Value) (s':Shared),Inv X pins σ H s->CX X.stack H s E e s'->X.xe e s'
section
variable {X:Cx} {CX:CXT} {k:Nat} {f C:Addr} {fd:FuncData} {ps:List Str} {sp:Sp} {dvs:List V} {ds:List Value} {E:XK} {x m:Str} {p pos apos:Pos} {e o:Expr} {es:List Expr} {ta:TE} {t:TA}
theorem a4z {pins:List (Addr×Obj)} {σ:St} {H:Hp} {s:Shared} {Q:VK} {us:List Value} {vs:List V} (F:FnOk X.prog X.w X.K X.mg X.base CX k f fd ps sp) (hr:Room CX.q k X.A) (hb:Binds X.K fd ps ds) (hd:Vals dvs ds) (hx:A0 CX X E)
  (I:Inv X pins σ H s) (r:Vals vs us) (h:sp (vs++dvs) H Q E):wpAny (model X.prog X.w) X.A (call (.ref f) us) (EP X pins σ Q) X.xe s:=by
 have r2:Vals (vs++dvs) (us++ds):=r.append hd
 have hl:(us++ds).length=ps.length:=by rw [<- r2.length];exact F.len _ _ _ _ h
 refine wpAny_call (codeAny_mono (F.run X.A X.stack s H ⟨us,[]⟩ (us++ds) (vs++dvs) Q E hr I.env0 (hb s us I.kIn hl) r2 h) λr s' hq=>?_)
 cases r with
 | error e=>exact hx pins σ H s e s' I hq
 | ok fl=>
  cases fl with
  | ret u=>exact I.after hq
  | next=>exact False.elim hq
  | brk=>exact False.elim hq
  | cont=>exact False.elim hq
theorem b4j (F:FnOk X.prog X.w X.K X.mg X.base CX k f fd ps sp) (hr:Room CX.q k X.A) (hg:Gl X x) (hm:X.mg x=some (.ref f)) (hk:PySem.W.keepIn X.K (.ref f)=true) (hb:Binds X.K fd ps ds) (hd:Vals dvs ds) (hx:A0 CX X E)
  (ha:PA X (e :: es) t) (hdb:(x==("__debug__" : Str))=false:=by decide) (he:starEach (e :: es) X.env=(false,eval e X.env) :: starEach es X.env:=by rfl) (hpl:(backTo pos (starEach es X.env)).any (·.1)=false:=by rfl) :
  PE X (.Call (.Name x p) (e :: es) [] pos) (b0b sp dvs E t):=by
 intro pins s σ H Q I h
 refine wpAny_Call_Name_kw (C6 I hg hm ?_ hdb)
 refine PySem.W.callWith_K (h₀:=X.base) I.ok.mod.kin hk (thn (ha pos pins s σ H _ I h) λus s1 ⟨vs,H1,I1,r,q⟩=>⟨I1.kIn,?_⟩) he hpl
 exact a4z F hr hb hd hx I1 r q
theorem b06 (F:FnOk X.prog X.w X.K X.mg X.base CX k f fd ps sp) (hr:Room CX.q k X.A) (hg:Gl X x) (hm:X.mg x=some (.ref f)) (hk:PySem.W.keepIn X.K (.ref f)=true) (hb:Binds X.K fd ps ds) (hd:Vals dvs ds) (hx:A0 CX X E)
  (hdb:(x==("__debug__" : Str))=false:=by decide):PE X (.Call (.Name x p) [] [] pos) (b0b sp dvs E tNil):=by
 intro pins s σ H Q I h
 refine wpAny_Call_Name_kw (C6 I hg hm ?_ hdb)
 exact PySem.W.callWith_K0 I.kIn hk (a4z (us:=[]) F hr hb hd hx I .nil h)
end
structure FnScope (N P:List Str) (sc:Scope):Prop where
 kind:sc.kind=.function
 co:sc.isCoroutine=false
 gen:sc.isGenerator=false
 nd:N.Nodup
 pre:N.take P.length=P
 par:∀ x∈P,sc.names.lookup x=some .local\/sc.names.lookup x=some .cell
 nofree:∀ y∈sc.names,y.2≠.free
theorem Y9 {kindOf:Str->Option NameKind} {x:Str}:∀ {binds:List (Str×Value)} {m:Str->Option Value},(∀ v,(x,v)∉binds)->bindL kindOf binds m x=m x
 | [],_,_=>rfl
 | (n,v) :: r,m,h=>by
  unfold bindL
  rw [Y9 λw hw=>h w (List.mem_cons_of_mem _ hw)]
  split
  ·have:x≠n:=by rintro rfl;exact h v List.mem_cons_self
   simp [this]
  ·rfl
theorem a0a {kindOf:Str->Option NameKind} {x:Str}:∀ {binds:List (Str×Value)} {m:Str->Option Value},(∀ v,(x,v)∉binds)->bindC kindOf binds m x=m x
 | [],_,_=>rfl
 | (n,v) :: r,m,h=>by
  unfold bindC
  rw [a0a λw hw=>h w (List.mem_cons_of_mem _ hw)]
  split
  ·rfl
  ·have:x≠n:=by rintro rfl;exact h v List.mem_cons_self
   simp [this]
theorem Z0 {kindOf:Str->Option NameKind} {x:Str} {v:Value}:∀ {P:List Str} {vs:List Value} {i:Nat} {m:Str->Option Value},P.Nodup->P[i]?=some x->vs[i]?=some v->kindOf x=some .local ->
  bindL kindOf (P.zip vs) m x=some v
 | [],_,_,_,_,h,_,_=>by simp at h
 | _ :: _,[],_,_,_,_,h,_=>by simp at h
 | p :: P,w :: vs,0,m,nd,h1,h2,hk=>by
  simp at h1 h2;subst h1;subst h2
  show bindL kindOf ((p,w) :: P.zip vs) m p=_
  unfold bindL
  rw [Y9 λv hv=>(List.nodup_cons.mp nd).1 (List.of_mem_zip hv).1,if_pos hk]
  simp
 | p :: P,w :: vs,i+1,m,nd,h1,h2,hk=>by
  show bindL kindOf ((p,w) :: P.zip vs) m x=_
  unfold bindL
  exact Z0 (i:=i) (List.nodup_cons.mp nd).2 (by simpa using h1) (by simpa using h2) hk
theorem a0c {kindOf:Str->Option NameKind} {x:Str} {v:Value}:∀ {P:List Str} {vs:List Value} {i:Nat} {m:Str->Option Value},P.Nodup->P[i]?=some x->vs[i]?=some v->kindOf x≠some .local ->
  bindC kindOf (P.zip vs) m x=some v
 | [],_,_,_,_,h,_,_=>by simp at h
 | _ :: _,[],_,_,_,_,h,_=>by simp at h
 | p :: P,w :: vs,0,m,nd,h1,h2,hk=>by
  simp at h1 h2;subst h1;subst h2
  show bindC kindOf ((p,w) :: P.zip vs) m p=_
  unfold bindC
  rw [a0a λv hv=>(List.nodup_cons.mp nd).1 (List.of_mem_zip hv).1,if_neg hk]
  simp
 | p :: P,w :: vs,i+1,m,nd,h1,h2,hk=>by
  show bindC kindOf ((p,w) :: P.zip vs) m x=_
  unfold bindC
  exact a0c (i:=i) (List.nodup_cons.mp nd).2 (by simpa using h1) (by simpa using h2) hk
noncomputable def start (N:List Str) (vs:List V):St:=vs.map some++List.replicate (N.length-vs.length) none
noncomputable def T3 (CX:CXT) (P:Program) (w:World) (K:PySem.W.Frag) (mg:Str->Option Value) (base:Heap) (N:List Str) (qual:Str) (scope:Scope) (f:Addr) (cd:Value) (A:Around) (outer:List Env) (s:Shared) (H:Hp) (E:XK):Cx where
 prog:=P
 w:=w
 K:=K
 mg:=mg
 base:=base
 A:=A.deeper (envOfC qual scope s.heap.objs.size f cd)
 N:=N
 s₀:=s
 H₀:=H
 env:=envOfC qual scope s.heap.objs.size f cd
 outer:=outer
 stack:=envOfC qual scope s.heap.objs.size f cd :: outer
 ex:=[]
 calm:=!CX.q
 fn:=λ_=>true
 pn:=[]
 xe:=λe s'=>wpAny (model P w) (A.deeper (envOfC qual scope s.heap.objs.size f cd)) (leaving (envOfC qual scope s.heap.objs.size f cd) e) (λ_ s''=>CX outer H s E e s'') (λe' s''=>CX outer H s E e' s'') s'
theorem a29 {sc:Scope} {n:Nat} {x:Str} (h:sc.names.lookup x=some .cell):∃ c,(cellsFrom n sc.names []).lookup x=some c:=by
 have q:=PySem.W.cellsFrom_some sc.names n [] (.inl h)
 exact Option.isSome_iff_exists.mp q
theorem a7x {CX:CXT} {P:Program} {w:World} {K:PySem.W.Frag} {mg:Str->Option Value} {base:Heap} {N ps:List Str} {qual:Str} {scope:Scope} {f:Addr} {cd:Value} {A:Around} {outer:List Env} {s s1:Shared} {H:Hp} {E:XK} {us:List Value} {vs:List V}
  (S:FnScope N ps scope) (hd:CX.q=false->A.handled=none) (e0:Env0 P w K mg base A outer s H) (hl:vs.length=ps.length) (r:Vals vs us)
  (x:InCallC s s.heap.objs.size (bindL (envOfC qual scope s.heap.objs.size f cd).kindOf (ps.zip us) λ_=>none) (cellsFrom (s.heap.objs.size+1) scope.names []) (bindC (envOfC qual scope s.heap.objs.size f cd).kindOf (ps.zip us) λ_=>none) s1) :
  Inv (T3 CX P w K mg base N qual scope f cd A outer s H E) [] (start N vs) H s1:=by
 have hpl:ps.length<=N.length:=by have:=congrArg List.length S.pre;rw [List.length_take] at this;omega
 obtain ⟨h1,tk,rfl,hk⟩:=x.done
 have noA:∀ b:Addr,b∉(T3 CX P w K mg base N qual scope f cd A outer s H E).ex:=λb z=>absurd (show b∈([]:List Addr) from z) (by simp)
 refine ⟨⟨e0.mod,S.kind,rfl,rfl,Nat.le_refl _,λy z c h1 h2=>?_,λy hy=>?_,λy c _ h=>?_,λz=>hd (by have z:(!CX.q)=true:=z;simpa using z),Around.frames_deeper e0.frames,.inr ⟨rfl,rfl⟩,λb z=>absurd z (noA b),e0.bs,e0.bsz,λb _ _=>noA b,λb z=>absurd z (noA b),e0.funs,e0.frf⟩,
  rfl,e0.bare,Un.kept hk,⟨_,x.toInCall.ns,λi y v h1 h2 h3=>?_⟩,λy c h=>⟨_,x.cell y c h⟩,e0.hok.fresh (Nat.le_refl _),λy c h=>?_,λp hp=>absurd (show p∈([]:List (Addr×Obj)) from hp) (by simp),e0.hok.kept hk,?_⟩
 ·exact name_of_addr x.apart (PySem.mem_of_lookup h1) (PySem.mem_of_lookup h2)
 ·have hy:scope.names.lookup y=some .cell\/scope.names.lookup y=some .free:=hy
  rcases hy with hy | hy
  ·exact a29 hy
  ·exact absurd rfl (S.nofree _ (PySem.mem_of_lookup hy))
 ·exact Nat.le_of_lt (x.above y c (PySem.mem_of_lookup h))
 ·have hi:i<vs.length:=by
   unfold start at h2
   by_cases hi:i<vs.length
   ·exact hi
   ·rw [List.getElem?_append_right (by simpa using hi)] at h2
    rw [List.getElem?_replicate] at h2
    split at h2 <;> cases h2
  have ha:vs[i]?=some v:=by
   unfold start at h2
   rw [List.getElem?_append_left (by simpa using hi),List.getElem?_map] at h2
   cases e:vs[i]? with
   | none=>rw [e] at h2;cases h2
   | some a=>rw [e] at h2;cases h2;rfl
  obtain ⟨u,hu,rv⟩:=r.get ha
  have hp:ps[i]?=some y:=by
   rw [<- S.pre,List.getElem?_take_of_lt (by omega)];exact h1
  have ndP:ps.Nodup:=by rw [<- S.pre];exact S.nd.sublist (List.take_sublist _ _)
  refine ⟨u,rv,?_⟩
  rcases S.par y (List.mem_of_getElem? hp) with k | k
  ·exact .inl ⟨k,Z0 ndP hp hu k⟩
  ·obtain ⟨c,e⟩:=a29 (n:=s.heap.objs.size+1) k
   refine .inr ⟨.inl k,c,e,?_⟩
   have q:=x.cell y c e
   rw [a0c ndP hp hu (by show scope.names.lookup y≠_;rw [k];decide)] at q
   exact q
 ·exact e0.hok.fresh (Nat.le_of_lt (x.above y c (PySem.mem_of_lookup h)))
 ·unfold start
  show _=N.length
  rw [List.length_append,List.length_map,List.length_replicate]
  omega
theorem b6t {CX:CXT} {P:Program} {w:World} {K:PySem.W.Frag} {mg:Str->Option Value} {base:Heap} {k:Nat} {f:Addr} {name qual:Str} {params:Arguments} {body:List Stmt} {scope:Scope} {dV kV doc pm cdv ct oc:Value} {an od:Option Addr}
  {osl:Array (Option Value)} {N ps:List Str} {sp:Sp} (lk:K.lookup f=some ⟨oc,od,.func (PySem.W.fnOf name qual params body scope dV kV doc pm an cdv ct),osl⟩) (hcd:PySem.W.codeIn K cdv qual=true) (S:FnScope N ps scope)
  (len:∀ vs H Q E,sp vs H Q E->vs.length=ps.length)
  (hbody:∀ (A:Around) (outer:List Env) (s:Shared) (H:Hp) (vs:List V) (Q:VK) (E:XK),Room CX.q k (A.deeper (envOfC qual scope s.heap.objs.size f cdv))->sp vs H Q E ->
   ∃ t,PSs (T3 CX P w K mg base N qual scope f cdv A outer s H E) body t/\t { nx:=λ_ H'=>Q .non H',rt:=Q } (start N vs) H) :
  FnOk P w K mg base CX (k+1) f (PySem.W.fnOf name qual params body scope dV kV doc pm an cdv ct) ps sp:=by
 refine ⟨len,λA outer s H args us vs Q E hr e0 hb r hsp=>?_⟩
 have hl:=len _ _ _ _ hsp
 have KX:K.In s.heap:=e0.mod.kin.keeps λb o e=>(e0.bs b o e).1
 have lim:s.heap.NoLimit:=e0.mod.nolimit.keeps λb o e=>(e0.bs b o e).1
 have hkind:∀ y∈ps.zip us,scope.names.lookup y.1=some .local\/(scope.names.lookup y.1=some .cell/\((cellsFrom (s.heap.objs.size+1) scope.names []).lookup y.1).isSome=true):=λ⟨n,v⟩ hy=>by
  rcases S.par n (List.of_mem_zip hy).1 with q | q
  ·exact .inl q
  ·exact .inr ⟨q,PySem.W.cellsFrom_some _ _ _ (.inl q)⟩
 refine codeAny_call_function hr.depth (KX _ _ lk) rfl S.co S.gen rfl (PySem.W.codeRec_of KX hcd) (hb _ _ _ _ ?_)
 refine wpAny_newFunctionEnv_cells S.kind hkind λenv he s1 x=>?_
 subst he
 refine ⟨lim.keeps x.toInCall.keep,codeAny_func ?_⟩
 obtain ⟨t,ht,hq⟩:=hbody A outer s H vs Q E (hr.deeper _) hsp
 have I:Inv (T3 CX P w K mg base N qual scope f cdv A outer s H E) [] (start N vs) H s1:=a7x S hr.hd e0 hl r x
 refine wpAny_mono (ht [] s1 (start N vs) H _ I hq) (λfl s' hs=>?_) λe s' hs=>hs
 have fin:∀ {σ':St} {H':Hp} {v:V} {u:Value},Inv (T3 CX P w K mg base N qual scope f cdv A outer s H E) [] σ' H' s'->RelV v u->Q v H'->CE outer P w H s Q u s':=
  λ{σ' H' v u} J rv q=>⟨v,H',J.os,J.bare,J.base,J.hok,rv,q⟩
 cases fl with
 | ret u=>
  obtain ⟨v,σ',H',J,rv,q⟩:=hs
  exact fin J rv q
 | next=>
  obtain ⟨σ',H',J,q⟩:=hs
  exact fin (v:=V.non) (u:=Value.none) J rfl q
 | brk=>
  obtain ⟨_,_,_,q⟩:=hs
  exact False.elim q
 | cont=>
  obtain ⟨_,_,_,q⟩:=hs
  exact False.elim q
section
variable {X:Cx} {x:Str} {p pos:Pos} {e:Expr} {es:List Expr} {t:TA} {id T:String} {r:List V->Hp->VK->Prop}
def tCB (r:List V->Hp->VK->Prop) (t:TA):TE:=λσ H Q=>t σ H λvs H1=>r vs H1 Q
theorem a13 (hc:j9 X (.builtin id) r) (hg:Gl X x) (hm:X.mg x=none) (hv:bootBuiltins x=some (.builtin id)) (ha:PA X (e :: es) t) (hn:x ≠ "__name__":=by decide) (hdb:(x==("__debug__" : Str))=false:=by decide)
  (he:starEach (e :: es) X.env=(false,eval e X.env) :: starEach es X.env:=by rfl) (hpl:(backTo pos (starEach es X.env)).any (·.1)=false:=by rfl):PE X (.Call (.Name x p) (e :: es) [] pos) (tCB r t):=by
 intro pins s σ H Q I h
 refine wpAny_Call_Name_kw (u3 I hg hm hv ?_ hn hdb)
 exact PyProof.Rows.callWith_builtin1 (thn (ha pos pins s σ H _ I h) λus s1 ⟨vs,H1,I1,r1,q1⟩=>hc pins s1 σ H1 vs us Q I1 r1 q1) he hpl
theorem a7u (hc:j9 X (.type T) r) (hg:Gl X x) (hm:X.mg x=none) (hv:bootBuiltins x=some (.type T)) (ha:PA X (e :: es) t) (hn:x ≠ "__name__":=by decide) (hdb:(x==("__debug__" : Str))=false:=by decide)
  (he:starEach (e :: es) X.env=(false,eval e X.env) :: starEach es X.env:=by rfl) (hpl:(backTo pos (starEach es X.env)).any (·.1)=false:=by rfl):PE X (.Call (.Name x p) (e :: es) [] pos) (tCB r t):=by
 intro pins s σ H Q I h
 refine wpAny_Call_Name_kw (u3 I hg hm hv ?_ hn hdb)
 exact PyProof.Rows.callWith_type1 (thn (ha pos pins s σ H _ I h) λus s1 ⟨vs,H1,I1,r1,q1⟩=>hc pins s1 σ H1 vs us Q I1 r1 q1) he hpl
end
end L2
namespace HT
open PySem PyProof.Rows
section
variable {prog:Program} {w:World} {A:Around} {E:Value->Shared->Prop} {s:Shared}
theorem cat_tup {t b:Addr} {vs ws:List Value} {Q:Value->Shared->Prop} (ht:IsTup s.heap t vs.toArray) (hb:IsTup s.heap b ws.toArray) (hv:vs≠[])
  (h1:ws=[]->Q (.ref t) s) (h2:ws≠[]->Q (.ref s.heap.objs.size) { s with heap:=s.heap.push { cls:=.type "tuple",data:=.seq (vs++ws).toArray } })
  (hsz:vs.length+ws.length<=sizeLine):wpAny (model prog w) A (binaryOp .Add (.ref t) (.ref b)) Q E s:=by
 obtain ⟨⟨cls,dd,data,sl⟩,ho,hc,n,hd⟩:=id ht
 obtain ⟨⟨cls2,dd2,data2,sl2⟩,ho2,hc2,n2,hd2⟩:=id hb
 simp only at hc hd hc2 hd2
 subst hc hd hc2 hd2
 have e:vs.toArray++ws.toArray=(vs++ws).toArray:=by simp
 by_cases hw:ws=[]
 ·exact concat_meets ⟨_,ho,rfl⟩ ⟨_,ho2,rfl⟩ noFill_tuple_add seq_tuple_add PySem.F.slot_tuple_add PySem.F.entry_tuple_add (PySem.F.args_tuple_add_2 _ _)
   (tuple_addW1 t b vs.toArray ws.toArray n n2 dd dd2 sl sl2 (by simpa using hv) (by simp [hw])) ⟨ho,ho2,h1 hw⟩
 ·refine concat_meets ⟨_,ho,rfl⟩ ⟨_,ho2,rfl⟩ noFill_tuple_add seq_tuple_add PySem.F.slot_tuple_add PySem.F.entry_tuple_add (PySem.F.args_tuple_add_2 _ _)
   (tuple_addW2 t b vs.toArray ws.toArray n n2 dd dd2 sl sl2 (by simpa using hv) (by simpa using hw) (by rw [List.size_toArray,List.size_toArray];exact hsz)) ⟨ho,ho2,?_⟩
  rw [e]
  exact h2 hw
noncomputable def sIx (n d:Nat):Option Int->Nat
 | none=>d
 | some v=>if v<0 then (v+(n:Int)).toNat else min v.toNat n
theorem sIx_none (n d:Nat):sIx n d none=d:=rfl
theorem c0z (n d:Nat) (hd:d<=n) (o:Option Int):sIx n d o<=n:=by
 cases o with
 | none=>exact hd
 | some v=>
  show (if v<0 then (v+(n:Int)).toNat else min v.toNat n)<=n
  by_cases hv:v<0
  ·rw [if_pos hv];omega
  ·rw [if_neg hv];exact Nat.min_le_right _ _
theorem a5l (v:Int) (n d:Nat):(if v<0 then max (v+(n:Int)) 0 else min v (n:Int))=((sIx n d (some v):Nat):Int):=by
 show (if v<0 then max (v+(n:Int)) 0 else min v (n:Int))=(((if v<0 then (v+(n:Int)).toNat else min v.toNat n):Nat):Int)
 by_cases hv:v<0
 ·simp only [if_pos hv];omega
 ·simp only [if_neg hv];omega
theorem a3z (lo hi:Option Int) (n:Nat):Builtin.Slice.sliceAdjust lo hi 1 (n:Int)=(((sIx n 0 lo:Nat):Int),((sIx n n hi:Nat):Int)):=by
 have h1:¬ ((1:Int)<0):=by omega
 unfold Builtin.Slice.sliceAdjust
 simp only [h1,if_false]
 refine Prod.ext ?_ ?_
 ·cases lo with
  | none=>rfl
  | some v=>exact a5l v n 0
 ·cases hi with
  | none=>rfl
  | some v=>exact a5l v n n
theorem a36 (i j:Nat):Builtin.Slice.slicePlaces (i:Int) (j:Int) 1=j-i:=by
 unfold Builtin.Slice.slicePlaces
 have h1:(1:Int) > 0:=by omega
 simp only [h1,if_true,Int.ediv_one]
 split <;> omega
theorem U5 {v:Value} {o:Option Int} {Q:Option Int->Shared->Prop} (p:IsPart v o) (h:Q o s):wpAny (model prog w) A (Builtin.Slice.slicePartIndex v) Q E s:=by
 cases p with
 | none=>exact slicePart_none h
 | int i t=>exact slicePart_int h
theorem sliceApplied_gen {sl:Addr} {vl vu:Value} {lo hi:Option Int} {n:Nat} {Q:Int×Int×Nat->Shared->Prop} (hs:s.heap.IsSliceOf sl vl vu .none) (pl:IsPart vl lo) (pu:IsPart vu hi)
  (h:Q (((sIx n 0 lo:Nat):Int),1,sIx n n hi-sIx n 0 lo) s):wpAny (model prog w) A (Builtin.Slice.sliceApplied (.ref sl) (pure (n:Int))) Q E s:=by
 obtain ⟨os,hos,hcs,hds⟩:=id hs
 unfold Builtin.Slice.sliceApplied Builtin.Slice.sliceFields
 refine wpAny_bind (wpAny_bind (wpAny_field hos hds (x:=vl) rfl (wpAny_bind (wpAny_field hos hds (x:=vu) rfl (wpAny_bind (wpAny_field hos hds (x:=.none) rfl (wpAny_pure ?_)))))))
 refine wpAny_bind (slicePart_none ?_)
 show wpAny _ _ (if ((1:Int)==0)=true then _ else _) _ _ s
 rw [if_neg (by decide)]
 refine wpAny_bind (U5 pl (wpAny_bind (U5 pu (wpAny_bind (wpAny_pure ?_)))))
 show wpAny _ _ (match Builtin.Slice.sliceAdjust lo hi 1 (n:Int) with | (lo,hi)=>pure (lo,(1:Int),Builtin.Slice.slicePlaces lo hi 1)) _ _ s
 rw [a3z lo hi n]
 show wpAny _ _ (pure (((sIx n 0 lo:Nat):Int),(1:Int),Builtin.Slice.slicePlaces ((sIx n 0 lo:Nat):Int) ((sIx n n hi:Nat):Int) 1)) _ _ s
 rw [a36]
 exact wpAny_pure h
theorem b1z (xs:Array Value) (i k:Nat):((List.range k).filterMap λ(m:Nat)=>xs[((i:Int)+(m:Int) * 1).toNat]?).toArray=((xs.toList.drop i).take k).toArray:=by
 have e:(λ(m:Nat)=>xs[((i:Int)+(m:Int) * 1).toNat]?)=λm=>xs[i+m]?:=by
  funext m
  have:((i:Int)+(m:Int) * 1).toNat=i+m:=by omega
  rw [this]
 rw [e]
 have:=pick_run xs i k
 rw [List.filterMap_map] at this
 have e2:((λx=>xs[x]?) ∘ λx=>i+x)=λm=>xs[i+m]?:=rfl
 rw [e2] at this
 rw [this]
theorem getItem_tuple_cut {t sl:Addr} {items:Array Value} {vl vu:Value} {lo hi:Option Int} {Q:Value->Shared->Prop} (ht:IsTup s.heap t items) (hs:s.heap.IsSliceOf sl vl vu .none) (pl:IsPart vl lo) (pu:IsPart vu hi)
  (hw:¬ (sIx items.size 0 lo=0/\sIx items.size items.size hi=items.size))
  (h:Q (.ref s.heap.objs.size) { s with heap:=s.heap.push { cls:=.type "tuple",data:=.seq ((items.toList.drop (sIx items.size 0 lo)).take (sIx items.size items.size hi-sIx items.size 0 lo)).toArray } })
  (hsz:items.size<=sizeLine):wpAny (model prog w) A (getItem (.ref t) (.ref sl)) Q E s:=by
 have htake:sizeOk (.seq ((items.toList.drop (sIx items.size 0 lo)).take (sIx items.size items.size hi-sIx items.size 0 lo)).toArray):=by
  show ((items.toList.drop (sIx items.size 0 lo)).take (sIx items.size items.size hi-sIx items.size 0 lo)).toArray.size<=sizeLine
  rw [List.size_toArray,List.length_take,List.length_drop,Array.length_toList]
  omega
 have hj:sIx items.size items.size hi<=items.size:=c0z _ _ (Nat.le_refl _) hi
 obtain ⟨os,hos,hcs,hds⟩:=id hs
 have hTs:s.TypeIs (.ref sl) "slice":=⟨os,hos,hcs⟩
 unfold getItem
 try with_reducible refine wpAny_holding ?_
 first | refine wpAny_bind (wpAny_pure ?_) | skip
 refine wpAny_bind (wpAny_sequenceKey ht.typeIs (by decide) ?_)
 refine wpAny_bind (wpAny_callSpecial?_slot (name:=Str.ofString "__getitem__") ht.typeIs PyProof.Rows.slot_tuple_getitem
  (wpAny_call_entry PyProof.Rows.slot_tuple_getitem ht.typeIs entry_tuple_getitem ?_ (args_tuple_getitem _ _)))
 show wpAny _ _ (Builtin.Tuple.tupleItemsOf (.ref t) >>= _) _ _ s
 refine wpAny_bind (tupleItemsOf_ ht ?_)
 refine wpAny_bind (wpAny_typeOf hTs ?_)
 rw [if_pos (by decide)]
 refine wpAny_bind (sliceApplied_gen hs pl pu ?_)
 have hno:¬ ((((sIx items.size 0 lo:Nat):Int)==0&&(1:Int)==1&&(sIx items.size items.size hi-sIx items.size 0 lo)==items.size)=true):=by
  intro q
  rw [Bool.and_eq_true,Bool.and_eq_true] at q
  have q1:((sIx items.size 0 lo:Nat):Int)=0:=eq_of_beq q.1.1
  have q2:sIx items.size items.size hi-sIx items.size 0 lo=items.size:=eq_of_beq q.2
  exact hw ⟨by omega,by omega⟩
 show wpAny _ _ (if (((sIx items.size 0 lo:Nat):Int)==0&&(1:Int)==1&&(sIx items.size items.size hi-sIx items.size 0 lo)==items.size)=true then _ else _) _ _ s
 rw [if_neg hno,b1z]
 first
  | exact wpAny_bind (m:=Builtin.Tuple.tupleExact _) (wpAny_newObj_type (wpAny_pure ⟨_,rfl,wpAny_pure h⟩) htake)
  | exact wpAny_bind (m:=Builtin.Tuple.tupleExact _) (wpAny_newObj_type (wpAny_bind (wpAny_pure (wpAny_pure ⟨_,rfl,wpAny_pure h⟩))) htake)
  | exact wpAny_bind (wpAny_bind (m:=Builtin.Tuple.tupleExact _) (wpAny_newObj_type (wpAny_pure (wpAny_pure ⟨_,rfl,wpAny_pure h⟩)) htake))
  | exact wpAny_bind (wpAny_bind (m:=Builtin.Tuple.tupleExact _) (wpAny_newObj_type (wpAny_pure ⟨_,rfl,wpAny_pure h⟩) htake))
end
end HT
namespace L2
open PySem PySem.Spec PyProof.Rows
noncomputable abbrev TO:=St->Hp->(Option Int->Hp->Prop)->Prop
def PO (X:Cx) (e:Option Expr) (t:TO):Prop:=
 ∀ (pins:List (Addr×Obj)) (s:Shared) (σ:St) (H:Hp) (Q:Option Int->Hp->Prop),Inv X pins σ H s->t σ H Q ->
  wpAny (model X.prog X.w) X.A (evalPart e X.env) (λu s'=>∃ o H',Inv X pins σ H' s'/\IsPart u o/\Q o H') X.xe s
def tNoPart:TO:=λ_ H Q=>Q none H
def c3u (t:TE):TO:=λσ H Q=>t σ H λx H1=>∃ i,x=.int i/\Q (some i) H1
section
variable {X:Cx} {e:Expr} {te:TE} {lo hi:Option Expr} {tl th:TO} {pos p2:Pos}
theorem b3n:PO X none tNoPart:=by
 intro pins s σ H Q I h
 rw [evalPart_none]
 exact wpAny_pure ⟨none,H,I,.none,h⟩
theorem b3u (h:PE X e te):PO X (some e) (c3u te):=by
 intro pins s σ H Q I hw
 rw [evalPart_some]
 refine thn (h pins s σ H _ I hw) λu s1 ⟨x,H1,I1,r1,q1⟩=>?_
 obtain ⟨i,rfl,q⟩:=q1
 obtain ⟨t,rfl⟩:=r1
 exact ⟨some i,H1,I1,.int i t,q⟩
def SlR (X:Cx) (r:V->Option Int->Option Int->Hp->VK->Prop):Prop:=
 ∀ (pins:List (Addr×Obj)) (s:Shared) (σ:St) (H:Hp) (x:V) (v vl vu:Value) (lo hi:Option Int) (sl:Addr) (Q:VK),Inv X pins σ H s->RelV x v->s.heap.IsSliceOf sl vl vu .none->IsPart vl lo->IsPart vu hi->r x lo hi H Q ->
  ∃ T id,typeLookup (.type T) "__getitem__" = pure (some (.builtin id))/\s.TypeIs v T/\wpAny (model X.prog X.w) X.A (getItem v (.ref sl)) (EP X pins σ Q) X.xe s
def tSl (r:V->Option Int->Option Int->Hp->VK->Prop) (te:TE) (tl th:TO):TE:=λσ H Q=>te σ H λx H1=>tl σ H1 λl H2=>th σ H2 λu H3=>r x l u H3 Q
theorem b2x {r:V->Option Int->Option Int->Hp->VK->Prop} (hr:SlR X r) (he:PE X e te) (hl:PO X lo tl) (hu:PO X hi th):PE X (.Subscript e (.Slice lo hi none p2) pos) (tSl r te tl th):=by
 intro pins s σ H Q I h
 refine Subscript_ (thn (he pins s σ H _ I h) λv s1 ⟨x,H1,I1,r1,q1⟩=>?_)
 refine wpAny_Slice (thn (hl pins s1 σ H1 _ I1 q1) λvl s2 ⟨l,H2,I2,pl,q2⟩=>thn (hu pins s2 σ H2 _ I2 q2) λvu s3 ⟨u,H3,I3,pu,q3⟩=>?_)
 rw [evalPart_none]
 refine wpAny_pure ?_
 have I4:Inv X pins σ H3 { s3 with heap:=s3.heap.push { cls:=.type "slice",data:=.fields #[vl,vu,.none] } }:=I3.kept (t':=s3.toks) λb ob q=>Heap.get?_push_of_some _ q
 obtain ⟨T,id,hT,ht,hg⟩:=hr pins { s3 with heap:=s3.heap.push { cls:=.type "slice",data:=.fields #[vl,vu,.none] } } σ H3 x v vl vu l u s3.heap.objs.size Q I4 r1 (Heap.IsSliceOf.new ..) pl pu q3
 show wpAny (model X.prog X.w) X.A (subscriptTail e (.Slice lo hi none p2) v (.ref s3.heap.objs.size)) (EP X pins σ Q) X.xe { s3 with heap:=s3.heap.push { cls:=.type "slice",data:=.fields #[vl,vu,.none] } }
 exact tail_any (ops:=[.ref s3.heap.objs.size,v]) ht hT hg (by with_unfolding_all rfl)
noncomputable def a2n (xs:List V) (lo hi:Option Int):List V:=(xs.drop (HT.sIx xs.length 0 lo)).take (HT.sIx xs.length xs.length hi-HT.sIx xs.length 0 lo)
theorem P5 (xs:List V) (lo hi:Option Int):(a2n xs lo hi).length<=xs.length:=by
 unfold a2n
 rw [List.length_take,List.length_drop]
 omega
def c6q (K:PySem.W.Frag):V->Option Int->Option Int->Hp->VK->Prop:=λx lo hi H Q=>∃ a xs,x=.ref a/\SqT K H a xs /\
 ¬ (HT.sIx xs.length 0 lo=0/\HT.sIx xs.length xs.length hi=xs.length)/\∀ p,H p=none->Q (.ref p) (upd H p (.tup (a2n xs lo hi)))
theorem b9c:SlR X (c6q X.K):=by
 intro pins s σ H x v vl vu lo hi sl Q I rx hs pl pu h
 obtain ⟨a,xs,rfl,hx,hw,q⟩:=h
 cases rx
 obtain ⟨its,r,ht,hz⟩:=I.tuple hx
 have hlen:its.toArray.size=xs.length:=by rw [List.size_toArray];exact r.length.symm
 refine ⟨"tuple",_,PyProof.Rows.slot_tuple_getitem.lookup,ht.typeIs,?_⟩
 refine HT.getItem_tuple_cut ht hs pl pu (by rw [hlen];exact hw) ?_ (by rw [hlen];exact hz)
 rw [hlen]
 refine ⟨.ref s.heap.objs.size,_,I.laid (t':=s.toks) (o:=.tup (a2n xs lo hi)) (λb ob q=>Heap.get?_push_of_some _ q) (Nat.le_refl _) ?_,rfl,q _ (I.hok.fresh (Nat.le_refl _))⟩
 exact ⟨Nat.le_trans (P5 xs lo hi) hz,_,(r.drop (HT.sIx xs.length 0 lo)).take (HT.sIx xs.length xs.length hi-HT.sIx xs.length 0 lo),TupN.new _ _⟩
def c43 (K:PySem.W.Frag):R2:=λx y H Q=>∃ a b xs ys,x=.ref a/\y=.ref b/\SqT K H a xs/\SqT K H b ys/\xs≠[]/\xs.length+ys.length<=sizeLine /\
 (ys=[]->Q (.ref a) H)/\(ys≠[]->∀ p,H p=none->Q (.ref p) (upd H p (.tup (xs++ys))))
theorem Vals.nil_iff {xs:List V} {us:List Value} (r:Vals xs us):us=[]↔xs=[]:=by
 cases r with
 | nil=>simp
 | cons _ _=>simp
theorem b4f:OpR X (binaryOp .Add) (c43 X.K):=by
 intro pins s σ H x y v u Q I rx ry h
 obtain ⟨a,b,xs,ys,rfl,rfl,ha,hb,hx,hz,q1,q2⟩:=h
 cases rx
 cases ry
 obtain ⟨its,r1,p1,_⟩:=I.tuple ha
 obtain ⟨its2,r2,p2,_⟩:=I.tuple hb
 refine HT.cat_tup p1 p2 (λz=>hx (r1.nil_iff.mp z)) (λz=>⟨.ref a,H,I,rfl,q1 (r2.nil_iff.mp z)⟩) (λz=>?_) (by rw [<- r1.length,<- r2.length];exact hz)
 refine ⟨.ref s.heap.objs.size,_,I.laid (t':=s.toks) (o:=.tup (xs++ys)) (λb ob q=>Heap.get?_push_of_some _ q) (Nat.le_refl _) ?_,rfl,q2 (λw=>z (r2.nil_iff.mpr w)) _ (I.hok.fresh (Nat.le_refl _))⟩
 exact ⟨by rw [List.length_append];exact hz,_,r1.append r2,TupN.new _ _⟩
end
noncomputable def ixN (n:Nat) (i:Int):Option Nat:=if 0<=i then (if i<n then some i.toNat else none) else if -(n:Int)<=i then some (i+n).toNat else none
noncomputable def atI {α:Type} (xs:List α) (i:Int):Option α:=(ixN xs.length i).bind λj=>xs[j]?
theorem a1k {n:Nat} {i:Int} {j:Nat} (h:ixN n i=some j):seqIndex? i n=some j/\j<n/\-(n:Int)<=i/\i<n:=by
 unfold ixN at h
 by_cases h0:0<=i
 ·rw [if_pos h0] at h
  by_cases h1:i<n
  ·rw [if_pos h1] at h
   have e:i.toNat=j:=Option.some.inj h
   exact ⟨by rw [seqIndex_of h0 h1,e],by omega,by omega,h1⟩
  ·rw [if_neg h1] at h;cases h
 ·rw [if_neg h0] at h
  by_cases h1:-(n:Int)<=i
  ·rw [if_pos h1] at h
   have e:(i+n).toNat=j:=Option.some.inj h
   exact ⟨by rw [seqIndex_neg (by omega) h1,e],by omega,h1,by omega⟩
  ·rw [if_neg h1] at h;cases h
theorem a51 {α:Type} {xs:List α} {i:Int} {v:α} (h:atI xs i=some v):∃ j,seqIndex? i xs.length=some j/\xs[j]?=some v/\j<xs.length/\-(xs.length:Int)<=i/\i<xs.length:=by
 unfold atI at h
 cases e:ixN xs.length i with
 | none=>rw [e] at h;cases h
 | some j=>
  rw [e] at h
  obtain ⟨h1,h2,h3,h4⟩:=a1k e
  exact ⟨j,h1,h,h2,h3,h4⟩
theorem R3 {α:Type} {xs:List α} {j:Nat} {v:α} (h:xs[j]?=some v):atI xs (j:Int)=some v:=by
 have hj:j<xs.length:=(List.getElem?_eq_some_iff.mp h).1
 have e:ixN xs.length (j:Int)=some j:=by
  unfold ixN
  rw [if_pos (by omega),if_pos (by omega)];simp
 unfold atI;rw [e];exact h
def a1f (b:Expr):Prop:=∀ o i,subscripted b false o i=operate [o,i] (getItem o i)
def IxR (X:Cx) (r:R2):Prop:=
 ∀ (value slice:Expr) (pins:List (Addr×Obj)) (s:Shared) (σ:St) (H:Hp) (x y:V) (v u:Value) (Q:VK),Inv X pins σ H s->RelV x v->RelV y u->r x y H Q ->
  subscripted slice false v u=operate [v,u] (getItem v u)->wpAny (model X.prog X.w) X.A (subscriptTail value slice v u) (EP X pins σ Q) X.xe s
def MtR (X:Cx) (id:String) (r:V->List V->Hp->VK->Prop):Prop:=
 ∀ (pins:List (Addr×Obj)) (s:Shared) (σ:St) (H:Hp) (x:V) (xs:List V) (v:Value) (us:List Value) (Q:VK),Inv X pins σ H s->RelV x v->Vals xs us->r x xs H Q ->
  wpAny (model X.prog X.w) X.A (call (.builtin id) (v :: us)) (EP X pins σ Q) X.xe s
section
variable {X:Cx} {a b:Expr} {ta tb:TE} {pos:Pos}
theorem c2z {r:R2} (hr:IxR X r) (ha:PE X a ta) (hb:PE X b tb) (hs:a1f b):PE X (.Subscript a b pos) (tOp r ta tb):=by
 intro pins s σ H Q I h
 exact Subscript_ (c0f ha hb I h λv u s2 x y H2 I2 rx ry q=>hr a b pins s2 σ H2 x y v u Q I2 rx ry q (hs _ _))
def c5o (K:PySem.W.Frag):R2:=λx y H Q=>∃ p xs i v,x=.ref p/\y=.int i/\SqL K H p xs/\atI xs i=some v/\Q v H
def c5f (K:PySem.W.Frag):R2:=λx y H Q=>∃ p xs i v,x=.ref p/\y=.int i/\SqT K H p xs/\atI xs i=some v/\Q v H
theorem b4y:IxR X (c5o X.K):=by
 intro value slice pins s σ H x y v u Q I rx ry h hs
 obtain ⟨p,xs,i,z,rfl,rfl,hq,he,q⟩:=h
 cases rx
 obtain ⟨t,rfl⟩:=ry
 obtain ⟨its,r,pl,hz⟩:=I.list hq
 obtain ⟨j,h1,h2,h3,h4,h5⟩:=a51 he
 obtain ⟨w,ew,rw'⟩:=r.get h2
 have hl:=r.length
 have hn:=O0
 have fin:EP X pins σ Q w s:=⟨z,H,I,rw',q⟩
 by_cases h0:0<=i
 ·have hj:i.toNat=j:=by
   rw [seqIndex_of h0 h5] at h1
   exact Option.some.inj h1
  exact item_listR pl.isList h0 (by omega) (by rw [hj];simpa using ew) fin hs
 ·have hj:(i+(its.toArray.size:Int)).toNat=j:=by
   rw [seqIndex_neg (by omega) h4] at h1
   rw [List.size_toArray,<- hl]
   exact Option.some.inj h1
  exact subscriptTail_builtinR (x:=w) pl.isList.typeIs slot_list_getitem.lookup
   (wpAny_getItem_list_neg (Q:=λr s'=>r=w/\EP X pins σ Q r s') pl.isList (by omega) (by rw [List.size_toArray] <;> omega) (by omega) (by rw [hj];simpa using ew) ⟨rfl,fin⟩) hs
theorem b7v:IxR X (c5f X.K):=by
 intro value slice pins s σ H x y v u Q I rx ry h hs
 obtain ⟨p,xs,i,z,rfl,rfl,hq,he,q⟩:=h
 cases rx
 obtain ⟨t,rfl⟩:=ry
 obtain ⟨its,r,pl,hz⟩:=I.tuple hq
 obtain ⟨j,h1,h2,h3,h4,h5⟩:=a51 he
 obtain ⟨w,ew,rw'⟩:=r.get h2
 have hl:=r.length
 have hn:=O0
 have fin:EP X pins σ Q w s:=⟨z,H,I,rw',q⟩
 exact subscriptTail_builtinR (x:=w) pl.typeIs slot_tuple_getitem.lookup
  (getItem_tuple (j:=j) (Q:=λr s'=>r=w/\EP X pins σ Q r s') pl (by omega) (by omega) (by rw [List.size_toArray,<- hl];exact h1) (by simpa using ew) ⟨rfl,fin⟩) hs
theorem a31 (its:List Value) (n j:Nat) (u:Value):Obj.mapSeq (·.setIfInBounds j u) { cls:=.type "list",data:=.seq its.toArray n }={ cls:=.type "list",data:=.seq (its.set j u).toArray n }:=by
 simp [Obj.mapSeq]
theorem Inv.lst {pins:List (Addr×Obj)} {σ:St} {H:Hp} {s:Shared} {p:Addr} {xs:List V} (I:Inv X pins σ H s) (h:H p=some (.lst xs)) :
  ∃ (its:List Value) (n:Nat),Vals xs its/\s.heap.get? p=some { cls:=.type "list",data:=.seq its.toArray n }/\xs.length<=sizeLine:=by
 obtain ⟨z,its,n,r,e⟩:=I.hok p _ h
 exact ⟨its,n,r,e,z⟩
theorem Inv.lstUpd {pins:List (Addr×Obj)} {σ:St} {H:Hp} {s:Shared} {p:Addr} {xs ys:List V} {its its':List Value} {n n':Nat} {f:Obj->Obj} (I:Inv X pins σ H s) (h:H p=some (.lst xs))
  (ho:s.heap.get? p=some { cls:=.type "list",data:=.seq its.toArray n }) (hf:f { cls:=.type "list",data:=.seq its.toArray n }={ cls:=.type "list",data:=.seq its'.toArray n' }) (r:Vals ys its') (hz:ys.length<=sizeLine) (t:Nat) :
  Inv X pins σ (upd H p (.lst ys)) { s with heap:=s.heap.update p f,toks:=t }:=by
 have e:(s.heap.update p f).get? p=some { cls:=.type "list",data:=.seq its'.toArray n' }:=by
  rw [Heap.get?_update_self f ho (by rw [hf] <;> rfl),hf]
 refine I.write (x:=p) (e:=p) (by rw [h];trivial) (.inl rfl) (λb u hb q=>(Heap.get?_update_other _ _ (Ne.symm hb)).trans q) ⟨_,e⟩ ?_
 exact ⟨hz,its',n',r,e⟩
def rSetL:V->V->V->Hp->(Hp->Prop)->Prop:=λo i v H Q=>∃ p xs k j,o=.ref p/\i=.int k/\H p=some (.lst xs)/\ixN xs.length k=some j/\Q (upd H p (.lst (xs.set j v)))
theorem b1y:b8l X rSetL:=by
 intro pins s σ H o i v ov iv u Q I ro ri rv h
 obtain ⟨p,xs,k,j,rfl,rfl,hp,hj,q⟩:=h
 cases ro
 obtain ⟨t,rfl⟩:=ri
 obtain ⟨its,n,r,ho,hz⟩:=I.lst hp
 obtain ⟨h1,h2,h3,h4⟩:=a1k hj
 have hl:=r.length
 have hn:=O0
 have I':Inv X pins σ (upd H p (.lst (xs.set j v))) { s with heap:=s.heap.update p (Obj.mapSeq (·.setIfInBounds j u)) }:=
  I.lstUpd hp ho (a31 its n j u) (r.set rv j) (by rw [List.length_set];exact hz) s.toks
 by_cases h0:0<=k
 ·have hk:k.toNat=j:=by
   rw [seqIndex_of h0 h4] at h1
   exact Option.some.inj h1
  exact PySem.W.ki_setAt ho h0 (by omega) (by rw [List.size_toArray,<- hl];exact h4) (by rw [hk];exact ⟨_,I',q⟩)
 ·have hk:(k+(its.toArray.size:Int)).toNat=j:=by
   rw [seqIndex_neg (by omega) h3] at h1
   rw [List.size_toArray,<- hl]
   exact Option.some.inj h1
  exact PySem.W.ki_setBack ho (by omega) (by rw [List.size_toArray,<- hl];exact h3) (by omega) (by rw [hk];exact ⟨_,I',q⟩)
theorem a0o (lo hi:Option Int) (n:Nat):(sliceBounds lo hi none n).1=((HT.sIx n 0 lo:Nat):Int)/\(sliceBounds lo hi none n).2.1=((HT.sIx n n hi:Nat):Int)/\(sliceBounds lo hi none n).2.2=1:=by
 refine ⟨?_,?_,rfl⟩
 ·cases lo with
  | none=>simp [sliceBounds,HT.sIx]
  | some i=>
   simp only [sliceBounds,HT.sIx,Option.getD_none,show (1:Int) > 0 by decide,if_true]
   by_cases h:i<0
   ·simp only [h,if_true] <;> omega
   ·simp only [h,if_false] <;> omega
 ·cases hi with
  | none=>simp [sliceBounds,HT.sIx]
  | some i=>
   simp only [sliceBounds,HT.sIx,Option.getD_none,show (1:Int) > 0 by decide,if_true]
   by_cases h:i<0
   ·simp only [h,if_true] <;> omega
   ·simp only [h,if_false] <;> omega
theorem X6 (its:List Value) (lo hi:Option Int):slicePick its.toArray lo hi none=((its.drop (HT.sIx its.length 0 lo)).take (HT.sIx its.length its.length hi-HT.sIx its.length 0 lo)).toArray:=by
 obtain ⟨h1,h2,h3⟩:=a0o lo hi its.toArray.size
 unfold slicePick
 rw [h1,h2,h3]
 simp only [sliceRange_one,pick_run,List.size_toArray] <;> rfl
def c6p (K:PySem.W.Frag):V->Option Int->Option Int->Hp->VK->Prop:=λx lo hi H Q=>∃ a xs,x=.ref a/\SqL K H a xs/\∀ p,H p=none->Q (.ref p) (upd H p (.lst (a2n xs lo hi)))
theorem b3m:SlR X (c6p X.K):=by
 intro pins s σ H x v vl vu lo hi sl Q I rx hs pl pu h
 obtain ⟨a,xs,rfl,hx,q⟩:=h
 cases rx
 obtain ⟨its,r,ht,hz⟩:=I.list hx
 have hlen:=r.length
 refine ⟨"list",_,slot_list_getitem.lookup,ht.isList.typeIs,?_⟩
 refine wpAny_getItem_list_slice ht.isList hs pl pu .none (by simp) ?_ (by rw [List.size_toArray] <;> omega)
 rw [X6,<- hlen]
 refine ⟨.ref s.heap.objs.size,_,I.laid (t':=s.toks) (o:=.lst (a2n xs lo hi)) (λb ob q=>Heap.get?_push_of_some _ q) (Nat.le_refl _) ?_,rfl,q _ (I.hok.fresh (Nat.le_refl _))⟩
 exact ⟨Nat.le_trans (P5 xs lo hi) hz,_,0,(r.drop (HT.sIx xs.length 0 lo)).take (HT.sIx xs.length xs.length hi-HT.sIx xs.length 0 lo),Heap.get?_push_size _ rfl⟩
theorem a0n:j9 X (.builtin "len") (λxs H Q=>∃ p ys,xs=[.ref p]/\(SqL X.K H p ys\/SqT X.K H p ys)/\Q (.int ys.length) H):=by
 intro pins s σ H xs us Q I r h
 obtain ⟨p,ys,rfl,hq,q⟩:=h
 obtain ⟨u,rfl,rx⟩:=P7 r
 cases rx
 have hn:=O0
 rcases hq with hq | hq
 ·obtain ⟨its,r',pl,hz⟩:=I.list hq
  have hlen:=r'.length
  exact Calls.call_len_list pl.isList (by simp only [List.size_toArray] <;> omega) ⟨.int ys.length,H,I.tok _,⟨s.toks+1,by rw [List.size_toArray,hlen]⟩,q⟩
 ·obtain ⟨its,r',pl,hz⟩:=I.tuple hq
  have hlen:=r'.length
  exact len_tuple pl (by simp only [List.size_toArray] <;> omega) ⟨.int ys.length,H,I.tok _,⟨s.toks+1,by rw [List.size_toArray,hlen]⟩,q⟩
theorem a1q:j9 X (.builtin "len") (λxs H Q=>∃ z,xs=[.str z]/\z.length<=sizeLine/\Q (.int z.length) H):=by
 intro pins s σ H xs us Q I r h
 obtain ⟨z,rfl,hz,q⟩:=h
 obtain ⟨u,rfl,t,rfl⟩:=P7 r
 have hn:=O0
 exact len_str (by omega) ⟨.int z.length,H,I.tok _,⟨_,rfl⟩,q⟩
theorem M0:j9 X (.type "list") (λxs H Q=>∃ p ys,xs=[.ref p]/\(SqL X.K H p ys\/SqT X.K H p ys)/\∀ l,H l=none->Q (.ref l) (upd H l (.lst ys))):=by
 intro pins s σ H xs us Q I r h
 obtain ⟨p,ys,rfl,hq,q⟩:=h
 obtain ⟨u,rfl,rx⟩:=P7 r
 cases rx
 have fin:∀ (its:List Value),Vals ys its->ys.length<=sizeLine->∀ (h':Heap) (c':Nat),(∀ b o',s.heap.get? b=some o'->h'.get? b=some o') ->
   h'.get? s.heap.objs.size=some { cls:=.type "list",dict:=none,data:=.seq its.toArray c',slots:=#[] }->EP X pins σ Q (.ref s.heap.objs.size) { s with heap:=h' }:=λits r' hz h' c' kp e=>
  ⟨.ref s.heap.objs.size,_,I.laid (t':=s.toks) kp (Nat.le_refl _) (show ObjOk X.prog X.w _ h' _ (.lst ys) from ⟨hz,its,c',r',e⟩),rfl,q _ (I.hok.fresh (Nat.le_refl _))⟩
 rcases hq with hq | hq
 ·obtain ⟨its,r',pl,hz⟩:=I.list hq
  have hlen:=r'.length
  obtain ⟨o,ho,hc,n,hd⟩:=pl.isList
  exact call_list_seq p (.inl rfl) ho hc hd (λh' c' kp e=>fin its r' hz h' c' kp e) (by simp only [List.size_toArray] <;> omega)
 ·obtain ⟨its,r',pl,hz⟩:=I.tuple hq
  have hlen:=r'.length
  obtain ⟨o,ho,hc,n,hd⟩:=pl
  exact call_list_seq p (.inr rfl) ho hc hd (λh' c' kp e=>fin its r' hz h' c' kp e) (by simp only [List.size_toArray] <;> omega)
theorem J9:j9 X (.type "tuple") (λxs H Q=>∃ p ys,xs=[.ref p]/\((SqL X.K H p ys/\∀ l,H l=none->Q (.ref l) (upd H l (.tup ys)))\/(SqT X.K H p ys/\Q (.ref p) H))):=by
 intro pins s σ H xs us Q I r h
 obtain ⟨p,ys,rfl,h⟩:=h
 obtain ⟨u,rfl,rx⟩:=P7 r
 cases rx
 rcases h with ⟨hq,q⟩ | ⟨hq,q⟩
 ·obtain ⟨its,r',pl,hz⟩:=I.list hq
  have hlen:=r'.length
  refine call_tuple_list pl.isList (λh' kp=>?_) (by simp only [List.size_toArray] <;> omega)
  have I1:Inv X pins σ H { s with heap:=h' }:=I.kept (t':=s.toks) kp
  have I2:Inv X pins σ (upd H h'.objs.size (.tup ys)) { s with heap:=h'.push { cls:=.type "tuple",data:=.seq its.toArray } }:=
   I1.laid (t':=s.toks) (λb o e=>Heap.get?_push_of_some _ e) (Nat.le_refl _) (show ObjOk X.prog X.w _ _ _ (.tup ys) from ⟨hz,its,r',TupN.new _ _⟩)
  exact ⟨.ref h'.objs.size,_,I2,rfl,q _ (I1.hok.fresh (Nat.le_refl _))⟩
 ·obtain ⟨its,r',pl,hz⟩:=I.tuple hq
  exact call_tuple_same pl ⟨.ref p,H,I,rfl,q⟩
def tyV (K:PySem.W.Frag) (T:String) (x:V) (H:Hp):Prop:=match x with
 | .str _=>T = "str"
 | .int _=>T = "int"
 | .ref p=>(T = "list"/\∃ xs,SqL K H p xs)\/(T = "tuple"/\∃ o,K.lookup p=some o/\o.cls=.type "tuple"/\o.dict=none) \/
   (T = "dict"/\((∃ kvs,H p=some (.dK kvs))\/∃ kvs,H p=some (.dT kvs)))\/(T = "set"/\∃ S n,H p=some (.set S n))\/(T = "tuple"/\∃ xs,Rd H p (.tup xs))
 | _=>False
theorem b9y {pins:List (Addr×Obj)} {σ:St} {H:Hp} {s:Shared} {T:String} {x:V} {v:Value} (I:Inv X pins σ H s) (r:RelV x v) (ty:tyV X.K T x H) :
  s.TypeIs v T/\∀ a,v=.ref a->∃ ob,s.heap.get? a=some ob/\ob.dict=none:=by
 cases x with
 | str z=>
  obtain ⟨t,rfl⟩:=r
  cases (show T = "str" from ty)
  exact ⟨typeIs_str s z t,λ_ e=>nomatch e⟩
 | int i=>
  obtain ⟨t,rfl⟩:=r
  cases (show T = "int" from ty)
  exact ⟨typeIs_int s i t,λ_ e=>nomatch e⟩
 | ref p=>
  cases r
  rcases ty with ⟨rfl,xs,hq⟩ | ⟨rfl,o,hk,hc,hd⟩ | ⟨rfl,hk⟩ | ⟨rfl,S,n,hk⟩ | ⟨rfl,xs,hk⟩
  ·obtain ⟨its,_,pl,_⟩:=I.list hq
   refine ⟨pl.isList.typeIs,λa e=>?_⟩
   cases e
   obtain ⟨o,n,e,c,hd,_⟩:=pl
   exact ⟨o,e,hd⟩
  ·refine ⟨⟨o,I.kIn p o hk,hc⟩,λa e=>?_⟩
   cases e
   exact ⟨o,I.kIn _ o hk,hd⟩
  ·have z:∃ o,s.heap.get? p=some o/\o.ExactDict:=by
    rcases hk with ⟨kvs,hk⟩ | ⟨kvs,hk⟩
    ·obtain ⟨_,_,_,_,o,_,_,e,ex,_⟩:=I.hok p _ hk
     exact ⟨o,e,ex⟩
    ·obtain ⟨_,_,_,_,o,_,_,e,ex,_⟩:=I.hok p _ hk
     exact ⟨o,e,ex⟩
   obtain ⟨o,e,ex⟩:=z
   refine ⟨⟨o,e,ex.1⟩,λa e2=>?_⟩
   cases e2
   exact ⟨o,e,ex.2.1⟩
  ·obtain ⟨o,_,_,_,e,ex,_⟩:=I.hok p _ hk
   refine ⟨⟨o,e,ex.1⟩,λa e2=>?_⟩
   cases e2
   exact ⟨o,e,ex.2.1⟩
  ·obtain ⟨_,its,_,o,e,c,n,_,hd⟩:=(show ObjOk X.prog X.w H s.heap p (.tup xs) from hk.ok I.hok)
   exact ⟨⟨o,e,c⟩,λa e2=>by cases e2;exact ⟨o,e,hd⟩⟩
 | _=>exact False.elim ty
def tBM (K:PySem.W.Frag) (T:String) (r:V->List V->Hp->VK->Prop) (to:TE) (t:TA):TE:=λσ H Q=>to σ H λx H1=>tyV K T x H1/\t σ H1 λxs H2=>r x xs H2 Q
variable {o e:Expr} {es:List Expr} {to:TE} {t:TA} {name:Str} {apos cpos:Pos} {T id:String} {r:V->List V->Hp->VK->Prop}
theorem b6u (pa:PlainAttrs T) (slot:Slot T name id) (hty:typeOf (.builtin id)=pure (.type "method_descriptor")) (hm:MtR X id r) (ho:PE X o to) (ha:PA X (e :: es) t)
  (hbase:attributeBase o name X.env (eval o X.env)=eval o X.env:=by rfl)
  (hfew:((backTo cpos (starEach (e :: es) X.env)).all (λx=>!x.1)&&(backToKw cpos (keywordEach [] X.env)).all (λx=>x.1.isSome)
   && decide ((e :: es).length+([]:List Keyword).length+(if ([]:List Keyword).isEmpty then 0 else 1)<30))=true:=by rfl)
  (hline:(apos.endLine==cpos.line)=true:=by rfl) (hs:starEach (e :: es) X.env=(false,eval e X.env) :: starEach es X.env:=by rfl) (hplain:(backTo cpos (starEach es X.env)).any (·.1)=false:=by rfl) :
  PE X (.Call (.Attribute o name apos) (e :: es) [] cpos) (tBM X.K T r to t):=by
 intro pins s σ H Q I h
 refine wpAny_Call_method_late hbase hfew hline rfl (thn (ho pins s σ H _ I h) λv s1 ⟨x,H1,I1,r1,ty,q1⟩=>?_)
 obtain ⟨h1,h2⟩:=b9y I1 r1 ty
 refine ⟨T,id,pa,slot,hty,h1,h2,?_⟩
 have hA:=ha cpos pins s1 σ H1 _ I1 q1
 rw [hs] at hA ⊢
 refine Calls.callWith_builtin (by show (false||(backTo cpos (starEach es X.env)).any (·.1))=false;rw [hplain] <;> rfl) (Calls.evalArgs_plain ?_)
 exact thn hA λus s2 ⟨vs,H2,I2,r2,q2⟩=>hm pins s2 σ H2 x vs v us Q I2 r1 r2 q2
end
def MtM (X:Cx) (id:String) (r:V->List V->Hp->VK->Prop):Prop:=
 ∀ (pins:List (Addr×Obj)) (s:Shared) (σ:St) (H:Hp) (x:V) (xs:List V) (v:Value) (us:List Value) (Q:VK),Inv X pins σ H s->RelV x v->Vals xs us->r x xs H Q ->
  wpAny (model X.prog X.w) X.A (call (.builtin id) (v :: us)) (EP X pins σ Q) X.xe s
theorem Vals.one:∀ {x:V} {us:List Value},Vals [x] us->∃ u,us=[u]/\RelV x u
 | _,_,.cons r .nil=>⟨_,rfl,r⟩
theorem Vals.eraseIdx:∀ {xs:List V} {us:List Value} (i:Nat),Vals xs us->Vals (xs.eraseIdx i) (us.eraseIdx i)
 | _,_,_,.nil=>.nil
 | _,_,0,.cons _ t=>t
 | _,_,i+1,.cons r t=>.cons r (Vals.eraseIdx i t)
theorem Vals.rep {xs:List V} {us:List Value} (h:Vals xs us):∀ k:Nat,Vals (List.replicate k xs).flatten (List.replicate k us).flatten
 | 0=>.nil
 | k+1=>by
  rw [List.replicate_succ,List.replicate_succ,List.flatten_cons,List.flatten_cons]
  exact Vals.append h (Vals.rep h k)
theorem Z3 {α:Type}:∀ (l:List α) (i:Nat),(l.eraseIdx i).length<=l.length
 | [],_=>Nat.le_refl _
 | _ :: _,0=>Nat.le_succ _
 | _ :: r,i+1=>Nat.succ_le_succ (Z3 r i)
theorem N3 (its:List Value):∀ (k:Nat) (acc:List Value),
  List.foldl (λx1 x2=>x1++x2) acc.toArray (List.replicate k its.toArray)=(acc++(List.replicate k its).flatten).toArray
 | 0,acc=>by simp
 | k+1,acc=>by
  have e:acc.toArray++its.toArray=(acc++its).toArray:=by simp
  have e2:(acc++its)++(List.replicate k its).flatten=acc++(List.replicate (k+1) its).flatten:=by
   rw [List.replicate_succ,List.flatten_cons,List.append_assoc]
  rw [<- e2,<- N3 its k (acc++its),<- e,List.replicate_succ,List.foldl_cons]
section
variable {X:Cx} {pins:List (Addr×Obj)} {σ:St} {H:Hp} {s:Shared} {l b:Addr} {xs ys zs:List V}
theorem Inv.lset {its its':List Value} {n:Nat} {f:Array Value->Array Value} {t':Nat} (I:Inv X pins σ H s) (hH:H l=some (.lst xs))
  (e:s.heap.get? l=some { cls:=.type "list",data:=.seq its.toArray n }) (hf:f its.toArray=its'.toArray) (hv:Vals ys its') (hz:ys.length<=sizeLine) :
  Inv X pins σ (upd H l (.lst ys)) { s with heap:=s.heap.update l (Obj.mapSeq f),toks:=t' }:=by
 have q:=PySem.IsL.update e f
 rw [hf] at q
 refine I.write (x:=l) (e:=l) (by rw [hH];exact trivial) (.inl rfl) (λb' u hb hu=>(Heap.get?_update_other s.heap (Obj.mapSeq f) (Ne.symm hb)).trans hu) ⟨_,q⟩ ?_
 exact ⟨hz,its',_,hv,q⟩
theorem Inv.lnew {its:List Value} {t':Nat} (I:Inv X pins σ H s) (hv:Vals ys its) (hz:ys.length<=sizeLine) :
  Inv X pins σ (upd H s.heap.objs.size (.lst ys)) { s with heap:=s.heap.push { cls:=.type "list",data:=.seq its.toArray },toks:=t' }:=
 I.laid (λ_ _ q=>Heap.get?_push_of_some _ q) (Nat.le_refl _) ⟨hz,its,0,hv,Heap.get?_push_size _ rfl⟩
theorem Inv.fresh (I:Inv X pins σ H s):H s.heap.objs.size=none:=I.hok.fresh (Nat.le_refl _)
theorem Inv.lstM (I:Inv X pins σ H s) (hH:H l=some (.lst xs)):xs.length<=sizeLine/\∃ (its:List Value) (n:Nat),Vals xs its/\xs.length=its.length/\s.heap.get? l=some { cls:=.type "list",data:=.seq its.toArray n }:=by
 obtain ⟨z,its,n,r,e⟩:=I.hok l _ hH
 exact ⟨z,its,n,r,r.length,e⟩
theorem a2w {n:Nat} (h:n<=sizeLine):Builtin.List.listTooLong n=false:=by
 unfold Builtin.List.listTooLong
 exact decide_eq_false (by omega)
end
section
variable {X:Cx}
def rAppend:V->List V->Hp->VK->Prop:=λx vs H Q=>∃ l xs y,x=.ref l/\vs=[y]/\H l=some (.lst xs)/\xs.length<sizeLine/\Q .non (upd H l (.lst (xs++[y])))
theorem A8:MtM X "list.append" rAppend:=by
 intro pins s σ H x vs v us Q I rx rv h
 obtain ⟨l,xs,y,rfl,rfl,hH,hz,q⟩:=h
 cases rx
 obtain ⟨u,rfl,ru⟩:=rv.one
 obtain ⟨z,its,n,r,hl,e⟩:=I.lstM hH
 refine call_meets F.slot_list_append ⟨_,e,rfl⟩ F.entry_list_append (F.args_list_append_2 _ _) (PySem.list_append l its.toArray n u (by rw [List.size_toArray];omega)) ⟨e,?_⟩
 refine ⟨.non,_,I.lset (its':=its++[u]) hH e (by simp) (r.append (.cons ru .nil)) ?_,rfl,q⟩
 rw [List.length_append,List.length_singleton]
 omega
def rPopAt:V->List V->Hp->VK->Prop:=λx vs H Q=>∃ l xs i k y,x=.ref l/\vs=[.int i]/\H l=some (.lst xs)/\-(2 ^ 63)<=i/\i<2 ^ 63/\seqIndex? i xs.length=some k/\xs[k]?=some y/\Q y (upd H l (.lst (xs.eraseIdx k)))
theorem b0s:MtM X "list.pop" rPopAt:=by
 intro pins s σ H x vs v us Q I rx rv h
 obtain ⟨l,xs,i,k,y,rfl,rfl,hH,h1,h2,hk,hy,q⟩:=h
 cases rx
 obtain ⟨u,rfl,ru⟩:=rv.one
 obtain ⟨t,rfl⟩:=ru
 obtain ⟨z,its,n,r,hl,e⟩:=I.lstM hH
 obtain ⟨w,hw,rw'⟩:=r.get hy
 refine call_meets F.slot_list_pop ⟨_,e,rfl⟩ F.entry_list_pop (F.args_list_pop_2 _ _)
  (MeetsSeq.list_pop_at l its.toArray n i t k w (fitsIndex_both h1 h2) (by rw [List.size_toArray,<- hl];exact hk) (by rw [<- Array.getElem?_toList];exact hw) (by rw [List.size_toArray];omega)) ⟨e,?_⟩
 refine ⟨y,_,I.lset (its':=its.eraseIdx k) hH e ?_ (r.eraseIdx k) ?_,rw',q⟩
 ·show its.toArray.eraseIdxIfInBounds k=(its.eraseIdx k).toArray
  rw [List.eraseIdxIfInBounds_toArray]
 ·have:=Z3 xs k
  omega
def rCat:R2:=λx y H Q=>∃ l b xs zs,x=.ref l/\y=.ref b/\H l=some (.lst xs)/\H b=some (.lst zs)/\xs.length+zs.length<=sizeLine/\∀ p,H p=none->Q (.ref p) (upd H p (.lst (xs++zs)))
theorem b76:OpR X (binaryOp .Add) rCat:=by
 intro pins s σ H x y v u Q I rx ry h
 obtain ⟨l,b,xs,zs,rfl,rfl,hH,hB,hz,q⟩:=h
 cases rx
 cases ry
 obtain ⟨z,its,n,r,hl,e⟩:=I.lstM hH
 obtain ⟨z2,its2,n2,r2,hl2,e2⟩:=I.lstM hB
 refine PySem.P.add_list e e2 ?_ (by rw [List.size_toArray,List.size_toArray];omega)
 have ea:its.toArray++its2.toArray=(its++its2).toArray:=by simp
 rw [ea]
 exact ⟨.ref _,_,I.lnew (t':=s.toks) (r.append r2) (by rw [List.length_append];omega),rfl,q _ I.fresh⟩
def rRep:R2:=λx y H Q=>∃ l k xs,x=.ref l/\y=.int k/\H l=some (.lst xs)/\-(2 ^ 63)<=k/\k<2 ^ 63/\xs.length * k.toNat<=sizeLine /\
 ∀ p,H p=none->Q (.ref p) (upd H p (.lst (List.replicate k.toNat xs).flatten))
theorem a5t {α:Type} (xs:List α) (k:Nat):(List.replicate k xs).flatten.length=k * xs.length:=by
 induction k with
 | zero=>simp
 | succ k ih=>rw [List.replicate_succ,List.flatten_cons,List.length_append,ih,Nat.succ_mul,Nat.add_comm]
theorem b9v:OpR X (binaryOp .Mult) rRep:=by
 intro pins s σ H x y v u Q I rx ry h
 obtain ⟨l,k,xs,rfl,rfl,hH,h1,h2,hz,q⟩:=h
 cases rx
 obtain ⟨t,rfl⟩:=ry
 obtain ⟨z,its,n,r,hl,e⟩:=I.lstM hH
 have hlen:its.toArray.size * k.toNat<=sizeLine:=by rw [List.size_toArray,<- hl];exact hz
 have hcap:¬ its.toArray.size * k.toNat > (2 ^ 63-1) / 8:=by
  have:(sizeLine:Nat)<=(2 ^ 63-1) / 8:=by decide
  omega
 have hfit:¬ (!Builtin.List.listFitsIndex k)=true:=by
  rw [fitsIndex_both h1 h2]
  exact Bool.false_ne_true
 have hlong:¬ Builtin.List.listTooLong (its.toArray.size * k.toNat)=true:=by
  rw [a2w hlen]
  exact Bool.false_ne_true
 have hnew:List.foldl (λx1 x2=>x1++x2) #[] (List.replicate (if its.toArray.isEmpty=true then 0 else k.toNat) its.toArray)=(List.replicate k.toNat its).flatten.toArray:=by
  have f0:∀ m:Nat,List.foldl (λx1 x2=>x1++x2) #[] (List.replicate m its.toArray)=(List.replicate m its).flatten.toArray:=λm=>by
   have:=N3 its m []
   rw [List.nil_append] at this
   exact this
  rw [f0]
  cases its with
  | nil=>simp
  | cons a r'=>rw [if_neg (by simp)]
 refine wpAny_binaryOp_repeat_ref (T:="list") (U:="int") (by decide) ⟨_,e,rfl⟩ (λs'=>typeIs_int s' k t) noFill_list_mul F.fills_int_mul F.slot_int_rmul repeat_list F.slot_int_index.lookup
  (call_meets F.slot_int_rmul (typeIs_int s k t) F.entry_int_rmul (F.args_int_rmul_2 _ _) (int___rmul___int_list k t l its.toArray n)
   ⟨e,rfl,⟨_,e,rfl⟩,call_meets F.slot_list_mul ⟨_,e,rfl⟩ F.entry_list_mul (F.args_list_mul_2 _ _) (AutoListH.list___mul___list_int_3 l its.toArray n k t hfit hcap hlong) ⟨e,?_⟩⟩)
 rw [hnew]
 exact ⟨.ref _,_,I.lnew (t':=s.toks) (r.rep k.toNat) (by rw [a5t,Nat.mul_comm];exact hz),rfl,q _ I.fresh⟩
end
section
variable {κ:Type} [DecidableEq κ]
noncomputable def Q4 (kvs:List (κ×V)) (k:κ):Option V:=(kvs.find? λkv=>decide (kv.1=k)).map (·.2)
noncomputable def y9 (kvs:List (κ×V)) (k:κ) (v:V):List (κ×V):=
 if (kvs.any λkv=>decide (kv.1=k))=true then kvs.map (λkv=>if kv.1=k then (kv.1,v) else kv) else kvs++[(k,v)]
theorem N0 {p:κ×V} {r:List (κ×V)} {k:κ} (e:p.1=k):Q4 (p :: r) k=some p.2:=by simp [Q4,List.find?_cons,e]
theorem M8 {p:κ×V} {r:List (κ×V)} {k:κ} (e:¬ p.1=k):Q4 (p :: r) k=Q4 r k:=by simp [Q4,List.find?_cons,e]
theorem a2z (k:κ):∀ kvs:List (κ×V),(kvs.any λkv=>decide (kv.1=k))=(Q4 kvs k).isSome
 | []=>rfl
 | p :: r=>by
  rw [List.any_cons]
  by_cases e:p.1=k
  ·simp only [N0 e,decide_eq_true e,Bool.true_or,Option.isSome_some]
  ·rw [M8 e,decide_eq_false e,Bool.false_or];exact a2z k r
theorem P8 (kvs:List (κ×V)) (k:κ) (v:V):(y9 kvs k v).length<=kvs.length+1:=by
 unfold y9
 split
 ·rw [List.length_map];omega
 ·rw [List.length_append,List.length_cons,List.length_nil];omega
theorem RelO.isSome_eq {o:Option V} {u:Option Value} (r:RelO o u):o.isSome=u.isSome:=by
 cases o with
 | none=>cases u with
  | none=>rfl
  | some _=>exact (show False from r).elim
 | some _=>cases u with
  | none=>exact (show False from r).elim
  | some _=>rfl
theorem KV.val {kvs:List (κ×V)} {vs:List (κ×Value)} (r:KV kvs vs) (k:κ):RelO (Q4 kvs k) (valueAt vs k):=by
 unfold KV at r
 induction r with
 | nil=>exact True.intro
 | @cons p q ps qs h t ih=>
  obtain ⟨h1,h2⟩:=h
  by_cases e:p.1=k
  ·have e':q.1=k:=h1.symm.trans e
   have b:valueAt (q :: qs) k=some q.2:=by simp [valueAt,List.find?_cons,e']
   rw [N0 e,b];exact h2
  ·have e':¬ q.1=k:=λz=>e (h1.trans z)
   have b:valueAt (q :: qs) k=valueAt qs k:=by simp [valueAt,List.find?_cons,e']
   rw [M8 e,b];exact ih
theorem KV.any {kvs:List (κ×V)} {vs:List (κ×Value)} (r:KV kvs vs) (k:κ):(kvs.any λkv=>decide (kv.1=k))=vs.any λkv=>decide (kv.1=k):=by
 unfold KV at r
 induction r with
 | nil=>rfl
 | cons h t ih=>rw [List.any_cons,List.any_cons,ih,h.1]
theorem KV.repl {kvs:List (κ×V)} {vs:List (κ×Value)} (r:KV kvs vs) (k:κ) {y:V} {u:Value} (ry:RelV y u) :
  KV (kvs.map λkv=>if kv.1=k then (kv.1,y) else kv) (vs.map λkv=>if kv.1=k then (kv.1,u) else kv):=by
 unfold KV at r ⊢
 induction r with
 | nil=>exact .nil
 | @cons p q ps qs h t ih=>
  rw [List.map_cons,List.map_cons]
  refine .cons ?_ ih
  obtain ⟨h1,h2⟩:=h
  by_cases e:p.1=k
  ·rw [if_pos e,if_pos (h1.symm.trans e)];exact ⟨h1,ry⟩
  ·rw [if_neg e,if_neg (λz=>e (h1.trans z))];exact ⟨h1,h2⟩
theorem KV.put {kvs:List (κ×V)} {vs:List (κ×Value)} (r:KV kvs vs) (k:κ) {y:V} {u:Value} (ry:RelV y u):KV (y9 kvs k y) (stored vs k u):=by
 unfold y9 stored
 rw [r.any k]
 by_cases e:(vs.any λkv=>decide (kv.1=k))=true
 ·rw [if_pos e,if_pos e];exact r.repl k ry
 ·rw [if_neg e,if_neg e];exact Paired.snoc r ⟨rfl,ry⟩
theorem KV.length {kvs:List (κ×V)} {vs:List (κ×Value)} (r:KV kvs vs):kvs.length=vs.length:=Paired.length r
end
theorem b0t {P:Program} {w:World} {k:Key} {u:Value} (r:RelV (kV k) u):(k6 P w).is k u=true:=by
 cases k with
 | inl i=>obtain ⟨t,e⟩:=(show ∃ t,u=Value.int i t from r);subst e;exact a20 P w i t
 | inr x=>obtain ⟨t,e⟩:=(show ∃ t,u=Value.str x t from r);subst e;exact a2p P w x t
theorem Y8 {P:Program} {w:World}:∀ {ks:List Key} {us:List Value},Vals (ks.map kV) us->ItemsAre (k6 P w) ks us
 | [],_,r=>by rw [List.map_nil] at r;cases r;exact .nil
 | k :: ks,_,r=>by
  rw [List.map_cons] at r
  cases r with
  | cons h t=>exact .cons (b0t h) (Y8 t)
noncomputable abbrev KT (H:Hp):List (List Key×V)->List (List Key×Addr×Value)->Prop:=Paired λp q=>p.1=q.1/\H q.2.1=some (.tup (p.1.map kV))/\RelV p.2 q.2.2
theorem KT.val {H:Hp} {kvs:List (List Key×V)} {xs:List (List Key×Addr×Value)} (r:KT H kvs xs) (k:List Key):RelO (Q4 kvs k) ((atKey xs k).map (·.2)):=by
 induction r with
 | nil=>exact True.intro
 | @cons p q ps qs h t ih=>
  obtain ⟨h1,_,h2⟩:=h
  by_cases e:p.1=k
  ·have e':q.1=k:=h1.symm.trans e
   have b:atKey (q :: qs) k=some q.2:=by simp [atKey,List.find?_cons,e']
   rw [N0 e,b];exact h2
  ·have e':¬ q.1=k:=λz=>e (h1.trans z)
   have b:atKey (q :: qs) k=atKey qs k:=by simp [atKey,List.find?_cons,e']
   rw [M8 e,b];exact ih
theorem KT.repl {H:Hp} {kvs:List (List Key×V)} {xs:List (List Key×Addr×Value)} (r:KT H kvs xs) (k:List Key) {y:V} {u:Value} (ry:RelV y u) :
  KT H (kvs.map λkv=>if kv.1=k then (kv.1,y) else kv) (xs.map (putAt k u)):=by
 induction r with
 | nil=>exact .nil
 | @cons p q ps qs h t ih=>
  rw [List.map_cons,List.map_cons]
  refine .cons ?_ ih
  obtain ⟨h1,h2,h3⟩:=h
  unfold putAt
  by_cases e:p.1=k
  ·rw [if_pos e,if_pos (h1.symm.trans e)];exact ⟨h1,h2,ry⟩
  ·rw [if_neg e,if_neg (λz=>e (h1.trans z))];exact ⟨h1,h2,h3⟩
theorem KT.put {H:Hp} {kvs:List (List Key×V)} {xs:List (List Key×Addr×Value)} (r:KT H kvs xs) (k:List Key) {b:Addr} {y:V} {u:Value} (hb:H b=some (.tup (k.map kV))) (ry:RelV y u) :
  KT H (y9 kvs k y) (storedH xs k b u):=by
 have e:(kvs.any λkv=>decide (kv.1=k))=(atKey xs k).isSome:=by
  rw [a2z,(r.val k).isSome_eq,Option.isSome_map]
 unfold y9 storedH
 rw [e]
 by_cases q:(atKey xs k).isSome=true
 ·rw [if_pos q,if_pos q];exact r.repl k ry
 ·rw [if_neg q,if_neg q];exact Paired.snoc r ⟨rfl,hb,ry⟩
theorem KT.keeps {H H':Hp} {kvs:List (List Key×V)} {xs:List (List Key×Addr×Value)} (r:KT H kvs xs) (ht:∀ b ys,H b=some (.tup ys)->H' b=some (.tup ys)):KT H' kvs xs:=
 Paired.mapP r λ_ _ z=>⟨z.1,ht _ _ z.2.1,z.2.2⟩
section
variable {P:Program} {w:World} {H:Hp} {h:Heap} {a:Addr}
theorem b67 {u:HO} (ok:HOk P w H h) (e:Rd H a u):ObjOk P w H h a u:=e.ok ok
theorem a5w {kvs:List (Key×V)} (ok:HOk P w H h) (e:Rd H a (.dK kvs)):kvs.length<=sizeLine/\(a==sysModules)=false/\∃ vs,KV kvs vs/\h.DictOf (k6 P w) a vs:=
 show ObjOk P w H h a (.dK kvs) from b67 ok e
theorem c2x {kvs:List (Key×V)} (ok:HOk P w H h) (e:H a=some (.dK kvs)):kvs.length<=sizeLine/\(a==sysModules)=false/\∃ vs,KV kvs vs/\h.DictOf (k6 P w) a vs:=a5w ok (.inl e)
theorem a4x {ks:List Key} (ok:HOk P w H h) (e:H a=some (.tup (ks.map kV))):(tupleKind (k6 P w)).is h ks a:=by
 obtain ⟨_,its,r,o,h1,h2,n,h3⟩:=(show ObjOk P w H h a (.tup (ks.map kV)) from ok a _ e)
 exact ⟨o,its.toArray,n,h1,h2,h3.1,by simpa using Y8 r⟩
theorem a9f {kvs:List (List Key×V)} (ok:HOk P w H h) (e:Rd H a (.dT kvs)):kvs.length<=sizeLine/\(a==sysModules)=false /\
  ∃ xs,KT H kvs xs/\h.DictOfH (tupleKind (k6 P w)) a xs:=by
 obtain ⟨z,y,xs,r,o,es,ep,h1,h2,h3,h4,h5⟩:=(show ObjOk P w H h a (.dT kvs) from b67 ok e)
 refine ⟨z,y,xs,r,o,es,ep,h1,h2,h3,h4,λx hx=>?_,h5⟩
 have all:∀ {l:List (List Key×V)} {m:List (List Key×Addr×Value)},KT H l m->∀ x∈m,(tupleKind (k6 P w)).is h x.1 x.2.1:=by
  intro l m q
  induction q with
  | nil=>intro x hx;exact nomatch hx
  | @cons p q ps qs hq t ih=>
   intro x hx
   rcases List.mem_cons.mp hx with e | hx
   ·subst e
    exact a4x ok (by rw [<- hq.1];exact hq.2.1)
   ·exact ih x hx
 exact all r x hx
theorem c4l {kvs:List (List Key×V)} (ok:HOk P w H h) (e:H a=some (.dT kvs)):kvs.length<=sizeLine/\(a==sysModules)=false /\
  ∃ xs,KT H kvs xs/\h.DictOfH (tupleKind (k6 P w)) a xs:=a9f ok (.inl e)
end
def DGet (H:Hp) (a:Addr) (y:V) (r:Option V):Prop:=
 (∃ kvs k,Rd H a (.dK kvs)/\y=kV k/\r=Q4 kvs k)\/∃ kvs k b,Rd H a (.dT kvs)/\y=.ref b/\H b=some (.tup (k.map kV))/\r=Q4 kvs k
def DPut (H:Hp) (a:Addr) (y v:V) (H':Hp):Prop:=
 (∃ kvs k,H a=some (.dK kvs)/\y=kV k/\kvs.length<sizeLine/\H'=upd H a (.dK (y9 kvs k v))) \/
 ∃ kvs k b,H a=some (.dT kvs)/\y=.ref b/\H b=some (.tup (k.map kV))/\kvs.length<sizeLine/\H'=upd H a (.dT (y9 kvs k v))
theorem DGet.k {H:Hp} {a:Addr} {kvs:List (Key×V)} {k:Key} (e:H a=some (.dK kvs)):DGet H a (kV k) (Q4 kvs k):=.inl ⟨kvs,k,.inl e,rfl,rfl⟩
theorem DPut.k {H:Hp} {a:Addr} {kvs:List (Key×V)} {k:Key} {v:V} (e:H a=some (.dK kvs)) (hl:kvs.length<sizeLine):DPut H a (kV k) v (upd H a (.dK (y9 kvs k v))):=.inl ⟨kvs,k,e,rfl,hl,rfl⟩
section
variable {X:Cx} {pins:List (Addr×Obj)} {σ:St} {H:Hp} {s:Shared} {a:Addr} {y v:V} {u r:Value} {o:Option V} {A:Around} {E:Value->Shared->Prop}
theorem a8a {Q:Value->Shared->Prop} (hu:A.units+1<cLine) (I:Inv X pins σ H s) (g:DGet H a y (some v)) (ry:RelV y u) (h:∀ w' s',Inv X pins σ H s'->RelV v w'->Q w' s') :
  wpAny (model X.prog X.w) A (getItem (.ref a) u) Q E s:=by
 rcases g with ⟨kvs,k,e,ey,l⟩ | ⟨kvs,k,b,e,ey,eb,l⟩
 ·subst ey
  obtain ⟨z,hd,vs,rel,dd⟩:=a5w I.hok e
  obtain ⟨w',hw,rw'⟩:=RelO.some_of (v:=v) (o:=valueAt vs k) (by rw [l];exact rel.val k)
  exact wpAny_getItem_of (b0t ry) dd.mapOf hw (h w' _ (I.tok _) rw')
 ·subst ey
  cases (show u=Value.ref b from ry)
  obtain ⟨z,hd,xs,rel,dd⟩:=a9f I.hok e
  obtain ⟨w',hw,rw'⟩:=RelO.some_of (v:=v) (o:=(atKey xs k).map (·.2)) (by rw [l];exact rel.val k)
  obtain ⟨p,hp,hp2⟩:=Option.map_eq_some_iff.mp hw
  refine wpAny_getItem_heap (tupleKind_room_in1 hu) (a4x I.hok eb) dd hp ?_
  rw [hp2]
  exact h w' _ (I.tok _) rw'
theorem a50 {h':Heap} {t':Nat} {ob:HO} (I:Inv X pins σ H s) (mu:Mut (H a)) (hs:Heap.SameBut a s.heap h') (he:∃ q,h'.get? a=some q) (new:ObjOk X.prog X.w (upd H a ob) h' a ob) :
  Inv X pins σ (upd H a ob) { s with heap:=h',toks:=t' }:=
 I.write (x:=a) (e:=a) mu (.inl rfl) (λb q hb z=>(hs.2 b hb).trans z) he new
theorem b91 {P:Program} {w:World} {H':Hp} {h':Heap} {kvs:List (Key×V)} {vs:List (Key×Value)} (z:kvs.length<=sizeLine) (hd:(a==sysModules)=false) (rel:KV kvs vs) (dd:h'.DictOf (k6 P w) a vs) :
  ObjOk P w H' h' a (.dK kvs):=⟨z,hd,vs,rel,dd⟩
theorem a70 {H':Hp} {Q:Unit->Shared->Prop} (hu:A.units+1<cLine) (I:Inv X pins σ H s) (g:DPut H a y v H') (ry:RelV y u) (rv:RelV v r) (h:∀ s',Inv X pins σ H' s'->Q () s') :
  wpAny (model X.prog X.w) A (setItem (.ref a) u r) Q E s:=by
 rcases g with ⟨kvs,k,e,ey,l,eH⟩ | ⟨kvs,k,b,e,ey,eb,l,eH⟩
 ·subst ey eH
  obtain ⟨z,hd,vs,rel,dd⟩:=c2x I.hok e
  have hz:vs.length<=sizeLine:=by rw [<- rel.length];exact z
  have hl:(y9 kvs k v).length<=sizeLine:=by have:=P8 kvs k v;omega
  refine wpAny_setItem_pairs (hsz:=hz) (b0t ry) dd λh' dd' hs=>h _ ?_
  have he:∃ q,h'.get? a=some q:=let ⟨q,_,_,hq,_⟩:=dd';⟨q,hq⟩
  exact a50 I (by rw [e];exact True.intro) hs he (b91 hl hd (rel.put k rv) dd')
 ·subst ey eH
  cases (show u=Value.ref b from ry)
  obtain ⟨z,hd,xs,rel,dd⟩:=c4l I.hok e
  have hz:xs.length<=sizeLine:=by rw [<- Paired.length rel];exact z
  have hl:(y9 kvs k v).length<=sizeLine:=by have:=P8 kvs k v;omega
  refine wpAny_setItem_heap (hsz:=hz) (tupleKind_room_in1 hu) (a4x I.hok eb) dd λh' dd' hs=>h _ ?_
  obtain ⟨q,es,ep,hq,h2,h3,h4,_,h5⟩:=dd'
  refine a50 I (by rw [e];exact True.intro) hs ⟨q,hq⟩ ⟨hl,hd,_,(rel.put k eb rv).keeps λc ys ec=>?_,q,es,ep,hq,h2,h3,h4,h5⟩
  rw [a8 (b68 ec e (λz=>nomatch z))]
  exact ec
end
section
variable {X:Cx} {pins:List (Addr×Obj)} {σ:St} {H:Hp} {s:Shared} {a:Addr} {kvs:List (Key×V)} {k:Key} {u:Value} {A:Around} {E:Value->Shared->Prop}
theorem c4g {Q:Value->Shared->Prop} (I:Inv X pins σ H s) (e:Rd H a (.dK kvs)) (h:∀ t s',Inv X pins σ H s'->Q (.int kvs.length t) s'):wpAny (model X.prog X.w) A (call (.builtin "len") [.ref a]) Q E s:=by
 obtain ⟨z,hd,vs,rel,dd⟩:=a5w I.hok e
 refine call_len_dict hd dd (by rw [<- rel.length];rw [sizeLine_eq] at z;omega) ?_
 rw [<- rel.length]
 exact h _ _ (I.tok _)
end
theorem a28 {X:Cx} {pins:List (Addr×Obj)} {σ:St} {H:Hp} {s:Shared} {a:Addr} {y:V} {o:Option V} (I:Inv X pins σ H s) (g:DGet H a y o):s.TypeIs (.ref a) "dict":=by
 rcases g with ⟨kvs,k,e,_,_⟩ | ⟨kvs,k,b,e,_,_,_⟩
 ·obtain ⟨_,_,vs,_,dd⟩:=a5w I.hok e
  exact dd.typeIs
 ·obtain ⟨_,_,xs,_,dd⟩:=a9f I.hok e
  exact dd.typeIs
noncomputable abbrev VV:List (V×V)->List (Value×Value)->Prop:=Paired λp q=>RelV p.1 q.1/\RelV p.2 q.2
end L2
namespace Att
open PySem PySem.W PySem.Calls PyProof.Rows
theorem Q8 {P:Params} {h:Heap}:∀ (ns:List Int) (vs:List Value),WellAll P h vs (ns.map WData.int)->IntsAre vs ns:=by
 intro ns
 induction ns with
 | nil=>
  intro vs w
  rw [List.map_nil] at w
  cases w
  exact .nil
 | cons n ns ih=>
  intro vs w
  rw [List.map_cons] at w
  cases w with
  | cons a b=>
   cases a
   exact .cons _ _ (ih _ b)
theorem a8d {l:OpenLaw} {n:Nat} (hn:l.most=some n) {P:Params} {h:Heap} {args:List WData} {vals:List Value}
  (hpre:l.row.toRowW.claim.pre args=true) (hwl:WellAll P h vals args) :
  ∃ a vs ns,vals=[Value.ref a]/\args=[WData.list (ns.map WData.int)]/\h.get? a=some { cls:=.type "list",data:=.seq vs.toArray }/\IntsAre vs ns/\ns.length<=n:=by
 have hsh:WShape.hasAll [] args [.list .int]=true:=(pre_splitW hpre).1
 have hc:l.pre.holds [] { args:=args }=true:=(pre_splitW hpre).2
 obtain ⟨d,r,rfl,h1,h2⟩:=hasAllW_cons hsh
 obtain rfl:=hasAllW_nil h2
 obtain ⟨xs,rfl,h3⟩:=hasW_list h1
 obtain ⟨ns,rfl⟩:=items_int h3
 have hlen:ns.length<=n:=by
  unfold OpenLaw.pre at hc
  have h4:(WTm.not (.lt (.lit (.int (n:Int))) (.len (.arg 0)))).holds [] { args:=[.list (ns.map .int)] }=true:=by
   have h4:=(holds_andW hc).1
   rw [hn] at h4
   exact h4
  have h5:=condW_of h4 (w_not (w_lt w_lit (w_len_list (w_arg rfl))))
  rw [List.length_map] at h5
  refine Nat.le_of_not_lt λq=>?_
  have q':(n:Int)<((ns.length:Nat):Int):=by omega
  first
   | (rw [decide_eq_true q'] at h5;exact absurd h5 (by decide))
   | (simp at h5;omega)
 cases hwl with
 | cons w1 w2=>
  cases w2
  cases w1 with
  | list ho hall=>exact ⟨_,_,ns,rfl,rfl,ho,Q8 ns _ hall,hlen⟩
theorem a8m (l:OpenLaw) (args:List WData):l.row.toRowW.claim.post args (.bool true) args=true:=
 postW_of (r:=l.row.toRowW) (X:=(true==true))
  (show WShape.has [] (.bool true) .bool=true by first | rfl | decide | simp [WShape.has,WShape.arms,WShape.armsAll])
  (show (WTm.eq .res (.lit (.bool true))).value [] { args:=args,res:=some (.bool true),after:=args }=some (.bool (true==true)) from w_eq_bool (w_res rfl) w_lit) rfl
theorem attach_call {l:OpenLaw} {n:Nat} {q:Program} {loose:List Str} {XP:(Str->Option Value)->Heap->Prop} {YP:World->Heap->Prop} {d:DefRec}
  (hn:l.most=some n) (hdf:d.params.defaults=[])
  (call:∀ (w:World) (s₀ s₁:Shared) (mg mb:Str->Option Value) (fa:Addr) (o:Obj) (pm cd doc:Value) (a:Addr) (vs:List Value) (ns:List Int),
   Ground q loose [] XP w s₀ mg mb s₁.heap->YP w s₁.heap ->
   s₁.heap.get? fa=some o->o.data=.func (docDef d.name d.params d.body d.scope pm cd doc)->s₁.heap.CodeRec cd d.name->mg d.name=some (.ref fa) ->
   s₁.heap.get? a=some { cls:=.type "list",data:=.seq vs.toArray }->IntsAre vs ns->ns.length<=n->s₁.gens=#[] ->
   codeAny (model l.prog w) callerA (.call (.ref fa) ⟨[.ref a],[]⟩) (λr s'=>r=.ok (.ret (.bool true))/\OldK s₁.heap s'.heap/\s'.os=s₁.os/\AllBare s'.gens) s₁) :
  WalkO q loose XP YP l.row.toRowW d [] (λf vs=>PySem.call f vs):=by
 intro w s₀ s₁ mg mb G Y fa o pm cd doc dV kV ho hd hcd hD hmg hg args vals as hpre hlay hrd hwl hlo
 obtain rfl:dV=.none:=Dflts.none hD hdf
 obtain rfl:kV=.none:=Dflts.noKw hD
 obtain ⟨a,vs,ns,rfl,rfl,hobj,hints,hlen⟩:=a8d hn hpre hwl
 refine enter_call (codeAny_mono (call w s₀ s₁ mg mb fa o pm cd doc a vs ns G Y ho (fd_plain hd) hcd hmg hobj hints hlen hg) λr s' hq=>?_)
 obtain ⟨rfl,h2,h3,h4⟩:=hq
 exact ⟨.inl ⟨.bool true,.bool true,[],rfl,λ_=>rfl,.bool true,a8m l _,λ_=>⟨List.Pairwise.nil,λ_ hm=>(nomatch hm)⟩⟩,h2,h3,h4⟩
end Att
namespace L2
open PySem PySem.Spec PyProof.Rows
theorem a0e:∀ {vs:List Value} {ns:List Int},IntsAre vs ns->Vals (ns.map V.int) vs
 | _,_,.nil=>.nil
 | _,_,.cons n t h=>.cons ⟨t,rfl⟩ (a0e h)
def b89 (H:Hp):Prop:=∀ b,H b=none\/∃ o xs,H b=some (.frz o (.lst xs))
theorem a9t {P:Program} {w:World} {K:PySem.W.Frag} {mg mb:Str->Option Value} {CX:CXT} {k:Nat} {fa a:Addr} {fd:FuncData} {x:Str} {sp:Sp} {s₁:Shared} {vs:List Value} {ns:List Int}
  (KX:K.In s₁.heap) (hns:s₁.heap.Ns mainGlobals mg) (hb:s₁.heap.Ns builtinsNs mb) (hbb:∀ x:Str,x ≠ "__name__"->mb x=bootBuiltins x) (hlim:s₁.heap.NoLimit) (hg:s₁.gens=#[])
  (ha:s₁.heap.get? a=some { cls:=.type "list",data:=.seq vs.toArray }) (hi:IntsAre vs ns) (hl:ns.length<=sizeLine) (hr:Room false k callerA)
  (F:∀ base:Heap,K.In base->base.Ns mainGlobals mg->FnOk P w K mg base CX k fa fd [x] sp) (hbind:∀ (s:Shared) (u:Value),BindsTo s fd ⟨[u],[]⟩ [(x,u)])
  (hsp:∀ H:Hp,b89 H->SqL K H a (ns.map V.int)->sp [.ref a] H (λv _=>v=.bl true) λ_ _ _=>False)
  (hCX:∀ H e s',CX [] H s₁ (λ_ _ _=>False) e s'->False) :
  codeAny (model P w) callerA (.call (.ref fa) ⟨[.ref a],[]⟩) (λr s'=>r=.ok (.ret (.bool true))/\OldK s₁.heap s'.heap/\s'.os=s₁.os/\AllBare s'.gens) s₁:=by
 have rv:=a0e hi
 have lenV:=hi.length
 have core:∀ H:Hp,b89 H->SqL K H a (ns.map V.int)->HOk P w H s₁.heap->(∀ b,H b≠none->b=a)->(H a≠none->K.lookup a=none) ->
   codeAny (model P w) callerA (.call (.ref fa) ⟨[.ref a],[]⟩) (λr s'=>r=.ok (.ret (.bool true))/\OldK s₁.heap s'.heap/\s'.os=s₁.os/\AllBare s'.gens) s₁:=by
  intro H hO hS hok hA hK
  have L8:∀ {b:Addr} {o:Obj},s₁.heap.get? b=some o->H b=none->(a0p s₁.heap H).get? b=some o:=λe n=>b05 e n
  have noA:∀ {b:Addr} {o:Obj} {es:Array DictEntry} {ep:Nat},s₁.heap.get? b=some o->o.data=.dict es ep->H b=none:=λ{b o es ep} e d=>by
   cases q:H b with
   | none=>rfl
   | some u=>
    have e':b=a:=hA b (by rw [q];simp)
    subst e'
    rw [ha] at e;cases e
    have d':Data.seq vs.toArray _=Data.dict es ep:=d
    cases d'
  have nsK:∀ {b:Addr} {m:Str->Option Value},s₁.heap.Ns b m->(a0p s₁.heap H).Ns b m:=λ{b m} ⟨o,es,ep,e,d,r⟩=>⟨o,es,ep,L8 e (noA e d),d,r⟩
  have hKb:K.In (a0p s₁.heap H):=λb o e=>L8 (KX b o e) (by
   cases q:H b with
   | none=>rfl
   | some u=>
    have e':b=a:=hA b (by rw [q];simp)
    subst e'
    rw [hK (by rw [q];simp)] at e;cases e)
  have hM:Mod K mg (a0p s₁.heap H):=⟨hKb,nsK hns,⟨mb,nsK hb,hbb⟩,let ⟨mc,h1,h2⟩:=hlim;⟨mc,nsK h1,h2⟩⟩
  have e0:Env0 P w K mg (a0p s₁.heap H) callerA [] s₁ H:=⟨rfl,hM,λb o e=>b3v e,Nat.le_of_eq (a7c _ _),trivial,λb hb=>absurd (show b∈([]:List Addr) from hb) (by simp),hok,.of_eq hg⟩
  refine codeAny_mono ((F _ hKb (nsK hns)).run callerA [] s₁ H ⟨[.ref a],[]⟩ [.ref a] [.ref a] _ _ hr.any e0 (hbind s₁ (.ref a)) (.cons rfl .nil) (hsp H hO hS)) λr s' h=>?_
  cases r with
  | error e=>exact (hCX H e s' h).elim
  | ok fl=>
   cases fl with
   | next=>exact False.elim h
   | brk=>exact False.elim h
   | cont=>exact False.elim h
   | ret u=>
    obtain ⟨v,H',os,bare,un,hok',r',q⟩:=h
    have q':v=.bl true:=q
    subst q'
    obtain rfl:u=Value.bool true:=r'
    refine ⟨rfl,OldK.of_keep λb o e=>?_,os,bare⟩
    cases q:H b with
    | none=>exact un.keep b o e q (by intro z;exact absurd (show b∈([]:List Addr) from z) (by simp)) (by simp)
    | some u=>
     rcases hO b with z | ⟨ob,xs,z⟩
     ·rw [q] at z;cases z
     ·have z2:=un.frzs b ob _ z
      obtain ⟨e1,_⟩:=hok b _ z
      obtain ⟨e2,_⟩:=hok' b _ z2
      rw [e] at e1;cases e1
      exact e2
 cases hk:K.lookup a with
 | some o=>
  have e:=KX a o hk
  rw [ha] at e
  cases e
  refine core (λ_=>none) (λ_=>.inl rfl) (.inr ⟨_,vs.toArray,_,hk,rfl,rfl,rfl,by rw [List.size_toArray,lenV];exact hl,by simpa using rv⟩) (λb u z=>by have z':(none:Option HO)=some u:=z;cases z') (λb z=>absurd rfl z) λz=>absurd rfl z
 | none=>
  refine core (λb=>if b=a then some (.frz { cls:=.type "list",data:=.seq vs.toArray } (.lst (ns.map V.int))) else none) (λb=>?_) (.inl (.inr ⟨{ cls:=.type "list",data:=.seq vs.toArray },if_pos rfl⟩)) (λb u z=>?_) (λb z=>?_) λ_=>hk
  ·by_cases hb:b=a
   ·exact .inr ⟨_,_,if_pos hb⟩
   ·exact .inl (if_neg hb)
  ·by_cases hb:b=a
   ·have z':=(if_pos hb).symm.trans z
    cases z'
    subst hb
    exact ⟨ha,by rw [List.length_map];exact hl,vs,_,rv,ha⟩
   ·have z':=(if_neg hb).symm.trans z
    cases z'
  ·by_cases hb:b=a
   ·exact hb
   ·exact absurd (if_neg hb) z
theorem walk_of {l:PySem.W.OpenLaw} {n k:Nat} {q:Program} {loose:List Str} {XP:(Str->Option Value)->Heap->Prop} {YP:World->Heap->Prop} {d:DefRec} {K:Params->PySem.W.Frag} {CX:World->CXT} {sp:World->Sp} {x:Str}
  (hn:l.most=some n) (hn2:n<=sizeLine) (hdf:d.params.defaults=[]) (hr:Room false k callerA)
  (hY:∀ (w:World) (h:Heap),YP w h->(K w.params).In h)
  (F:∀ (w:World) (mg:Str->Option Value) (fa:Addr) (h:Heap),(K w.params).In h->h.Ns mainGlobals mg->mg d.name=some (.ref fa) ->
   ∃ fd:FuncData,(∀ (s:Shared) (u:Value),BindsTo s fd ⟨[u],[]⟩ [(x,u)]) /\
    ∀ base:Heap,(K w.params).In base->base.Ns mainGlobals mg->FnOk l.prog w (K w.params) mg base (CX w) k fa fd [x] (sp w))
  (hsp:∀ (w:World) (H:Hp) (a:Addr) (ns:List Int),ns.length<=n->b89 H->SqL (K w.params) H a (ns.map V.int)->sp w [.ref a] H (λv _=>v=.bl true) λ_ _ _=>False)
  (hCX:∀ (w:World) (H:Hp) (s:Shared) (e:Value) (s':Shared),CX w [] H s (λ_ _ _=>False) e s'->False) :
  PySem.W.WalkO q loose XP YP l.row.toRowW d [] (λf vs=>PySem.call f vs):=by
 refine Att.attach_call hn hdf λw s₀ s₁ mg mb fa o pm cd doc a vs ns G Y ho hd hcd hmg hobj hints hlen hg=>?_
 have KX:=hY w _ Y
 obtain ⟨fd,hb,hF⟩:=F w mg fa _ KX G.T.g hmg
 exact a9t KX G.T.g G.T.b G.T.builtins G.T.nolimit hg hobj hints (Nat.le_trans hlen hn2) hr hF hb (λH hO hS=>hsp w H a ns hlen hO hS) λH e s'=>hCX w H s₁ e s'
noncomputable def a6z (s:Stmt) (j:Nat):Stmt:=match s with
 | .ClassDef _ _ _ body _ _ _ _ _ _ _=>body.getD j (.Pass ⟨0,0,0,0⟩)
 | _=>.Pass ⟨0,0,0,0⟩
noncomputable def o7 (s:Stmt):Arguments:=match s with
 | .FunctionDef _ a _ _ _ _ _ _ _ _=>a
 | _=>{ posonlyargs:=[],args:=[],vararg:=none,kwonlyargs:=[],kw_defaults:=[],kwarg:=none,defaults:=[] }
noncomputable def j5 (s:Stmt):List Stmt:=match s with
 | .FunctionDef _ _ b _ _ _ _ _ _ _=>b
 | _=>[]
noncomputable def b7 (s:Stmt):Scope:=match s with
 | .FunctionDef _ _ _ _ _ _ sc _ _ _=>sc
 | _=>{ kind:=.function,names:=[],isGenerator:=false,isCoroutine:=false }
noncomputable abbrev CX0:CXT:=⟨λ_ _ _ _ _ _=>False,false⟩
noncomputable abbrev E0:XK:=λ_ _ _=>False
theorem a5n {X:Cx}:A0 CX0 X E0:=λ_ _ _ _ _ _ _ h=>False.elim h
structure Fun (K:PySem.W.Frag) (x qual:Str) (st:Stmt) (f:Addr) (fd:FuncData):Prop where
 ex:∃ (oc:Value) (od:Option Addr) (kV doc pm:Value) (an:Option Addr) (cdv ct:Value) (osl:Array (Option Value)),
  fd=PySem.W.fnOf x qual (o7 st) (j5 st) (b7 st) .none kV doc pm an cdv ct/\K.lookup f=some ⟨oc,od,.func fd,osl⟩/\PySem.W.codeIn K cdv qual=true
 kp:PySem.W.keepIn K (.ref f)=true
section
variable {P:Program} {w:World} {K:PySem.W.Frag} {mg:Str->Option Value} {base:Heap}
theorem Fun.ok {x qual:Str} {st:Stmt} {f:Addr} {fd:FuncData} {N ps:List Str} {k:Nat} {sp:Sp} (F:Fun K x qual st f fd) (S:FnScope N ps (b7 st)) (len:∀ vs H Q E,sp vs H Q E->vs.length=ps.length)
  (hbody:∀ (cdv:Value) (A:Around) (outer:List Env) (s:Shared) (H:Hp) (vs:List V) (Q:VK) (E:XK),Room false k (A.deeper (envOfC qual (b7 st) s.heap.objs.size f cdv))->sp vs H Q E ->
   ∃ t,PSs (T3 CX0 P w K mg base N qual (b7 st) f cdv A outer s H E).nox (j5 st) t/\t { nx:=λ_ H'=>Q .non H',rt:=Q } (start N vs) H):FnOk P w K mg base CX0 (k+1) f fd ps sp:=by
 obtain ⟨oc,od,kV,doc,pm,an,cdv,ct,osl,rfl,lk,hcd⟩:=F.ex
 refine b6t lk hcd S len λA outer s H vs Q E hr hsp=>?_
 obtain ⟨t,h,q⟩:=hbody cdv A outer s H vs Q E hr hsp
 exact ⟨t,h.nox,q⟩
theorem Fun.binds {x qual:Str} {st:Stmt} {f:Addr} {fd:FuncData} {ps:List Str} (F:Fun K x qual st f fd)
  (h:∀ (kV doc pm:Value) (an:Option Addr) (cdv ct:Value) (us:List Value),us.length=ps.length->bindArgs (PySem.W.fnOf x qual (o7 st) (j5 st) (b7 st) .none kV doc pm an cdv ct) ⟨us,[]⟩=pure (ps.zip us)):Binds K fd ps []:=by
 obtain ⟨oc,od,kV,doc,pm,an,cdv,ct,osl,rfl,lk,hcd⟩:=F.ex
 exact .all (h kV doc pm an cdv ct)
theorem a0m {x qual:Str} {st:Stmt} {f:Addr} {oc:Value} {od an:Option Addr} {osl:Array (Option Value)} {kV doc pm cdv ct:Value} (l:K.lookup f=some ⟨oc,od,.func (PySem.W.fnOf x qual (o7 st) (j5 st) (b7 st) .none kV doc pm an cdv ct),osl⟩)
  (c:PySem.W.codeIn K cdv qual=true) (k:PySem.W.keepIn K (.ref f)=true):Fun K x qual st f (PySem.W.fnOf x qual (o7 st) (j5 st) (b7 st) .none kV doc pm an cdv ct):=⟨⟨oc,od,kV,doc,pm,an,cdv,ct,osl,rfl,l,c⟩,k⟩
end
theorem c3b {q:Bool} {A:Around} {k:Nat} (hr:Room q k A):A.units+1<cLine:=Nat.lt_of_le_of_lt (Nat.add_le_add_left (by decide:1<=64) _) hr.units
section
variable {X:Cx}
theorem pv (i:Nat) {x:Str} {pos:Pos} (hN:X.N[i]?=some x:=by rfl) (hv:Vis X.env.scope x:=by first | exact Or.inl rfl | exact Or.inr (Or.inl rfl) | exact Or.inr (Or.inr rfl)) (hd:(x==("__debug__" : Str))=false:=by decide)
  (hcd:(x==("__classdict__" : Str))=false:=by decide):PE X (.Name x pos) (b8i i):=a80 hN hv hd hcd
theorem a7y:j9 X (.builtin "len") (λxs H Q=>∃ a kvs,xs=[V.ref a]/\H a=some (.dK kvs)/\Q (.int kvs.length) H):=by
 intro pins s σ H xs us Q I r h
 obtain ⟨a,kvs,rfl,ha,q⟩:=h
 obtain ⟨u,rfl,ru⟩:=P7 r
 cases ru
 exact c4g I (.inl ha) λt s' I'=>⟨.int kvs.length,H,I',⟨t,rfl⟩,q⟩
end
theorem c3k {A B:Prop} (h:A):if true=true then A else B:=by
 rw [if_pos rfl]
 exact h
def Same (H H':Hp):Prop:=∀ b o,H b=some o->H' b=some o
theorem Same.seq {K:PySem.W.Frag} {H H':Hp} {a:Addr} {xs:List V} (e:Same H H') (h:SqL K H a xs):SqL K H' a xs:=by
 rcases h with (h | ⟨o,h⟩) | h
 ·exact .inl (.inl (e _ _ h))
 ·exact .inl (.inr ⟨o,e _ _ h⟩)
 ·exact .inr h
theorem X0 {α β:Type} (g:β->α->β) {f:α->β->Sem (ForInStep β)}:∀ (l:List α) (c:β),(∀ x∈l,∀ c,f x c=pure (.yield (g c x)))->forIn l c f=pure (l.foldl g c)
 | [],_,_=>rfl
 | x :: l,c,h=>by
  rw [List.forIn_cons,h x List.mem_cons_self,pure_bind]
  exact X0 g l (g c x) λy hy=>h y (List.mem_cons_of_mem _ hy)
noncomputable def j8 (cells:List (Str×Addr)) (acc:List (Str×Addr)) (x:Str×NameKind):List (Str×Addr):=if x.2=NameKind.free then (x.1,(cells.lookup x.1).getD 0) :: acc else acc
noncomputable def E3 (cells:List (Str×Addr)) (names:List (Str×NameKind)):List (Str×Addr):=names.foldl (j8 cells) []
theorem q9 {scope:Scope} {env:Env} (h:∀ x∈scope.names,x.2=NameKind.free->∃ c,env.cells.lookup x.1=some c):closureFor scope env=pure (E3 env.cells scope.names):=by
 simp only [closureFor]
 rw [X0 (j8 env.cells) scope.names [] (λx hx c=>by
  obtain ⟨n,k⟩:=x
  by_cases hk:k=NameKind.free
  ·subst hk
   obtain ⟨a,ha⟩:=h _ hx rfl
   simp [cellOf,j8,ha]
  ·have:(k==NameKind.free)=false:=by simpa using hk
   simp [j8,hk,this])]
 rfl
theorem K2 {cells:List (Str×Addr)}:∀ (names:List (Str×NameKind)) (acc:List (Str×Addr)),(∀ x∈names,x.2=NameKind.free->∃ c,cells.lookup x.1=some c)->(∀ x c,acc.lookup x=some c->cells.lookup x=some c) ->
  ∀ x c,(names.foldl (j8 cells) acc).lookup x=some c->cells.lookup x=some c
 | [],_,_,ha,x,c,e=>ha x c e
 | y :: r,acc,hn,ha,x,c,e=>by
  refine K2 r (j8 cells acc y) (λz hz=>hn z (List.mem_cons_of_mem _ hz)) (λz d q=>?_) x c e
  unfold j8 at q
  split at q
  ·rename_i hk
   obtain ⟨a,hy⟩:=hn y List.mem_cons_self hk
   rw [List.lookup_cons] at q
   split at q
   ·rename_i hz
    have hz':z=y.1:=by simpa using hz
    rw [hy] at q
    rw [hz',hy];exact q
   ·exact ha z d q
  ·exact ha z d q
theorem U4 {cells:List (Str×Addr)}:∀ (names:List (Str×NameKind)) (acc:List (Str×Addr)) (x:Str),(acc.lookup x).isSome=true->((names.foldl (j8 cells) acc).lookup x).isSome=true
 | [],_,_,h=>h
 | y :: r,acc,x,h=>by
  refine U4 r (j8 cells acc y) x ?_
  unfold j8
  split
  ·rw [List.lookup_cons];split
   ·rfl
   ·exact h
  ·exact h
theorem T9 {cells:List (Str×Addr)}:∀ (names:List (Str×NameKind)) (acc:List (Str×Addr)) (x:Str),(x,NameKind.free)∈names->((names.foldl (j8 cells) acc).lookup x).isSome=true
 | [],_,_,h=>nomatch h
 | y :: r,acc,x,h=>by
  rcases List.mem_cons.mp h with h | h
  ·subst h
   refine U4 r _ x ?_
   simp [j8]
  ·exact T9 r _ x h
theorem mem_of_lookup {α β:Type} [BEq α] [LawfulBEq α]:∀ {l:List (α×β)} {x:α} {y:β},l.lookup x=some y->(x,y)∈l
 | [],_,_,h=>by simp at h
 | (a,b) :: r,x,y,h=>by
  rw [List.lookup_cons] at h
  split at h
  ·rename_i hx
   have:x=a:=by simpa using hx
   cases h;subst this;exact List.mem_cons_self
  ·exact List.mem_cons_of_mem _ (mem_of_lookup h)
theorem P9 {f:Str×NameKind->Str×NameKind} (hf:∀ y,(f y).1=y.1):∀ (l:List (Str×NameKind)) (x:Str),(l.map f).lookup x=(l.lookup x).map λk=>(f (x,k)).2
 | [],_=>rfl
 | (n,k) :: r,x=>by
  rw [List.map_cons,show f (n,k) :: r.map f=((f (n,k)).1,(f (n,k)).2) :: r.map f from rfl,List.lookup_cons,List.lookup_cons,hf]
  cases hx:x==n with
  | true=>
   have e:x=n:=by simpa using hx
   subst e;rfl
  | false=>exact P9 hf r x
noncomputable def rlF (env:Env) (y:Str×NameKind):Str×NameKind:=if (y.2==.free&&env.scope.kind==.function&&env.kindOf y.1==some .cell) then (y.1,.cell) else (y.1,y.2)
theorem b54 (env:Env) (y:Str×NameKind):(rlF env y).1=y.1:=by unfold rlF;split <;> rfl
theorem F5 (scope:Scope) (env:Env) (x:Str):(relabel scope env).names.lookup x=(scope.names.lookup x).map λk=>(rlF env (x,k)).2:=P9 (f:=rlF env) (b54 env) scope.names x
theorem X7 {scope:Scope} {env:Env} {x:Str} (h:scope.names.lookup x=some .free):(relabel scope env).names.lookup x=some .cell\/(relabel scope env).names.lookup x=some .free:=by
 rw [F5,h]
 show some (rlF env (x,.free)).2=_\/some (rlF env (x,.free)).2=_
 unfold rlF
 split
 ·exact .inl rfl
 ·exact .inr rfl
theorem L9 {scope:Scope} {env:Env} {x:Str} {k:NameKind} (h:(relabel scope env).names.lookup x=some k) (hk:k=.cell\/k=.free) (hc:∀ y∈scope.names,y.2≠NameKind.cell):scope.names.lookup x=some .free:=by
 rw [F5] at h
 cases e:scope.names.lookup x with
 | none=>rw [e] at h;cases h
 | some k'=>
  rw [e] at h
  have h':(rlF env (x,k')).2=k:=Option.some.inj h
  have hn:=hc (x,k') (mem_of_lookup e)
  unfold rlF at h'
  split at h'
  ·rename_i hb
   simp only [Bool.and_eq_true,beq_iff_eq] at hb
   exact congrArg some hb.1.1
  ·have h'':k'=k:=h'
   subst h''
   rcases hk with rfl | rfl
   ·exact absurd rfl hn
   ·rfl
theorem HOk.sameBut {P:Program} {w:World} {H:Hp} {h h':Heap} {a:Addr} (ok:HOk P w H h) (hf:H a=none) (hs:Heap.SameBut a h h'):HOk P w H h':=λb ob e=>by
 refine (ok b ob e).stay (λc w' hc q=>(hs.2 c ?_).trans q) (λ_ q=>q) λ_ _ q=>q
 rintro rfl
 rcases hc with rfl | hc
 ·rw [hf] at e;cases e
 ·rw [hf] at hc;cases hc
theorem Un.sameBut {fs ex:List Addr} {H H':Hp} {h h1 h':Heap} {C:Addr} (u:Un fs ex H H' h h1) (hs:Heap.SameBut C h1 h') (hC:h.objs.size<=C):Un fs ex H H' h h':=by
 have ne:∀ b o,h.get? b=some o->b≠C:=λb o e=>Nat.ne_of_lt (Nat.lt_of_lt_of_le (Heap.lt_size e) hC)
 exact ⟨λb o e n hb hx=>(hs.2 b (ne b o e)).trans (u.keep b o e n hb hx),λb o e n hb hx=>let ⟨sl,q⟩:=u.slot b o e n hb hx;⟨sl,(hs.2 b (ne b o e)).trans q⟩,u.free,
  λb o e hx=>let ⟨o',q⟩:=u.there b o e hx;⟨o',(hs.2 b (ne b o e)).trans q⟩,u.tups,u.frzs,u.tbls⟩
noncomputable def a9 (X:Cx) (pins:List (Addr×Obj)) (N':List Str) (scope:Scope) (C:Addr) (fp:List Addr) (s:Shared) (H:Hp):Cx where
 prog:=X.prog
 w:=X.w
 K:=X.K
 mg:=X.mg
 base:=X.base
 A:=X.A
 N:=N'
 s₀:=s
 H₀:=H
 env:=compEnvC scope (E3 X.env.cells scope.names) C X.env
 outer:=X.stack
 stack:=X.stack
 ex:=fp
 fn:=λ_=>false
 calm:=X.calm
 pn:=X.pn++pins
 xe:=λ_ _=>False
structure CompText (N:List Str) (env:Env) (N':List Str) (k:Nat) (caps:List Nat) (scope:Scope):Prop where
 kind:scope.kind=.function
 cell:∀ y∈scope.names,y.2≠NameKind.cell
 loc:∀ y∈scope.names,y.2=NameKind.local->scope.names.lookup y.1=some .local
 free:∀ y∈scope.names,y.2=NameKind.free->scope.names.lookup y.1=some .free/\(env.scope.names.lookup y.1=some .cell\/env.scope.names.lookup y.1=some .free)
 cps:∀ (j i:Nat),caps[j]?=some i->∃ x,N[i]?=some x/\N'[k+j]?=some x/\scope.names.lookup x=some .free
 len:N'.length=k+caps.length
noncomputable def t6 (caps:List Nat) (σ:St):St:=caps.map λi=>(σ[i]?).join
theorem a99 {caps:List Nat} {σ:St} {j:Nat} {v:V} (h:(t6 caps σ)[j]?=some (some v)):∃ i,caps[j]?=some i/\σ[i]?=some (some v):=by
 unfold t6 at h
 rw [List.getElem?_map] at h
 cases e:caps[j]? with
 | none=>rw [e] at h;cases h
 | some i=>
  rw [e] at h
  refine ⟨i,rfl,?_⟩
  have h':(σ[i]?).join=some v:=Option.some.inj h
  cases q:σ[i]? with
  | none=>rw [q] at h';cases h'
  | some o=>rw [q] at h';exact congrArg some h'
section
variable {X:Cx} {pins:List (Addr×Obj)} {σ:St} {H:Hp} {s:Shared} {N':List Str} {k:Nat} {caps:List Nat} {scope:Scope} {fp:List Addr}
theorem b4l (T:CompText X.N X.env N' k caps scope) (I:Inv X pins σ H s) (hf:∀ b∈fp,D1 X pins H b) {C:Addr} (hC:s.heap.objs.size<=C) (hlt:∀ b∈fp,b<s.heap.objs.size):(a9 X pins N' scope C fp s H).Ok:=by
 have fr:∀ x∈scope.names,x.2=NameKind.free->∃ c,X.env.cells.lookup x.1=some c:=λx hx hk=>I.ok.has x.1 (T.free x hx hk).2
 have snd:∀ x c,(E3 X.env.cells scope.names).lookup x=some c->X.env.cells.lookup x=some c:=K2 scope.names [] fr λx c e=>by simp at e
 refine ⟨I.mod,?_,I.ok.glob,I.ok.blt,hC,λx y c a b=>I.ok.inj x y c (snd x c a) (snd y c b),λx hx=>?_,λx c hfn=>(by cases hfn),I.ok.hd,I.ok.frames,.inl rfl,λb hb=>⟨?_,λx c e=>(hf b hb).2.2.2.2.1 x c (snd x c e)⟩,I.bs,?_,λb o e hb=>?_,λb hb hfs=>?_,I.stack,I.stkFree⟩
 ·exact T.kind
 ·have h:scope.names.lookup x=some .free:=by
   rcases hx with hx | hx
   ·exact L9 hx (.inl rfl) T.cell
   ·exact L9 hx (.inr rfl) T.cell
  exact Option.isSome_iff_exists.mp (T9 scope.names [] x (mem_of_lookup h))
 ·exact Nat.ne_of_lt (Nat.lt_of_lt_of_le (hlt b hb) hC)
 ·exact Nat.le_trans I.ok.bsz I.sz
 ·rcases (hf b hb).2.2.2.1 with z | z
  ·exact I.ok.noex b o e z
  ·exact absurd (Nat.lt_of_lt_of_le (Heap.lt_size (I.ok.bs b o e).1) z) (Nat.lt_irrefl _)
 ·rcases List.mem_cons.mp (I.stkSub b hfs) with z | z
  ·exact (hf b hb).2.1 z
  ·exact (hf b hb).2.2.1 z
theorem B9 (T:CompText X.N X.env N' k caps scope) (I:Inv X pins σ H s) (hf:∀ b∈fp,D1 X pins H b) (hlt:∀ b∈fp,b<s.heap.objs.size) {h':Heap} {m:Str->Option Value} {t:Nat}
  (hn:h'.Ns (s.heap.objs.size+1) m) (hk:∀ b o,s.heap.get? b=some o->h'.get? b=some o) (ha:h'.get? s.heap.objs.size=some { cls:=.type "list",data:=.seq #[] }) :
  Inv (a9 X pins N' scope (s.heap.objs.size+1) fp s H) [] (List.replicate k none++t6 caps σ) (upd H s.heap.objs.size (.lst [])) { s with heap:=h',toks:=t }:=by
 have ok:=b4l T I hf (C:=s.heap.objs.size+1) (Nat.le_succ _) hlt
 have fr:∀ x∈scope.names,x.2=NameKind.free->∃ c,X.env.cells.lookup x.1=some c:=λx hx hk=>I.ok.has x.1 (T.free x hx hk).2
 have snd:∀ x c,(E3 X.env.cells scope.names).lookup x=some c->X.env.cells.lookup x=some c:=K2 scope.names [] fr λx c e=>by simp at e
 have nacc:H s.heap.objs.size=none:=I.hok.fresh (Nat.le_refl _)
 have lt:∀ b u,H b=some u->b<s.heap.objs.size:=λb u e=>I.hok.lt e
 refine ⟨ok,rfl,I.bare,Un.laid hk (Nat.le_refl _) nacc,⟨m,hn,λi x v e1 e2 e3=>?_⟩,λx c e=>?_,?_,λx c e=>?_,λp hp=>?_,I.hok.laid hk (Nat.le_refl _) ⟨Nat.zero_le _,[],_,.nil,ha⟩,?_⟩
 ·by_cases hi:i<k
  ·rw [List.getElem?_append_left (by simpa using hi)] at e2
   simp [hi] at e2
  ·rw [List.getElem?_append_right (by simpa using Nat.le_of_not_lt hi)] at e2
   rw [List.length_replicate] at e2
   obtain ⟨j,hj,hv⟩:=a99 e2
   obtain ⟨y,h1,h2,h3⟩:=T.cps _ _ hj
   have hik:k+(i-k)=i:=by omega
   rw [hik] at h2
   have hxy:y=x:=Option.some.inj (h2.symm.trans e1)
   subst hxy
   have hvis:=(T.free (y,.free) (mem_of_lookup h3) rfl).2
   obtain ⟨mX,hnX,hlX⟩:=I.loc
   obtain ⟨u,r,l⟩:=hlX j y v h1 hv (by rcases hvis with z | z;exact .inr (.inl z);exact .inr (.inr z))
   refine ⟨u,r,?_⟩
   rcases l with ⟨hk',_⟩ | ⟨_,c,hc,hcell⟩
   ·have hk'':X.env.scope.names.lookup y=some .local:=hk'
    rcases hvis with z | z
    ·rw [hk''] at z;cases z
    ·rw [hk''] at z;cases z
   ·obtain ⟨c',hc'⟩:=Option.isSome_iff_exists.mp (T9 (cells:=X.env.cells) scope.names [] y (mem_of_lookup h3))
    have:c'=c:=Option.some.inj ((snd y c' hc').symm.trans hc)
    subst this
    obtain ⟨oc,ho,hd⟩:=hcell
    exact .inr ⟨X7 h3,c',hc',oc,hk _ _ ho,hd⟩
 ·obtain ⟨v,oc,ho,hd⟩:=I.cell x c (snd x c e)
  exact ⟨v,oc,hk _ _ ho,hd⟩
 ·show upd H s.heap.objs.size (.lst []) (s.heap.objs.size+1)=none
  rw [a8 (Nat.succ_ne_self _)]
  exact I.hok.fresh (Nat.le_succ _)
 ·obtain ⟨v,oc,ho,hd⟩:=I.cell x c (snd x c e)
  rw [a8 (Nat.ne_of_lt (Heap.lt_size ho))]
  exact I.freeC x c (snd x c e)
 ·have hp':p∈X.pn++pins:=by
   have:p∈(X.pn++pins)++[]:=hp
   rwa [List.append_nil] at this
  obtain ⟨e,n,ne,nf,d⟩:=I.pin p hp'
  refine ⟨hk _ _ e,?_,Nat.ne_of_lt (Nat.lt_succ_of_lt (Heap.lt_size e)),λhb=>?_,d⟩
  ·rw [a8 (Nat.ne_of_lt (Heap.lt_size e))];exact n
  ·rcases List.mem_cons.mp (I.stkSub p.1 hb) with z | z
   ·exact ne z
   ·exact nf z
 ·show _=N'.length
  rw [T.len,List.length_append,List.length_replicate]
  unfold t6
  rw [List.length_map]
end
def PTL (X:Cx) (ifs:List Expr) (t:TT):Prop:=
 ∀ (pins:List (Addr×Obj)) (s:Shared) (σ:St) (H:Hp) (Q:Bool->Hp->Prop),Inv X pins σ H s->t σ H Q ->
  wpAny (model X.prog X.w) X.A (forIn ifs true λc r=>if r=true then do let ok <- isTrue c X.env (eval c X.env);pure (ForInStep.yield ok) else pure (ForInStep.yield r)) (TP X pins σ Q) X.xe s
def tTrue:TT:=λ_ H Q=>Q true H
theorem b4b {X:Cx}:PTL X [] tTrue:=λ_ _ _ H _ I h=>by
 rw [List.forIn_nil]
 exact wpAny_pure ⟨H,I,h⟩
theorem b5u {X:Cx} {c:Expr} {t:TT} (h:PT X c t):PTL X [c] t:=λpins s σ H Q I q=>by
 rw [List.forIn_cons]
 refine wpAny_bind ?_
 rw [if_pos rfl]
 refine wpAny_bind (thn (h pins s σ H Q I q) λb s' ⟨H',I',q'⟩=>wpAny_pure ?_)
 dsimp only
 rw [List.forIn_nil]
 exact wpAny_pure ⟨H',I',q'⟩
def b0o (caps:List Nat) (wi:TI) (tc:TT) (te:TE):TE:=λσ H Q=>wi σ H λJ H1=>∀ acc,H1 acc=none->∃ W:Nat->Nat->List V->Hp->Prop,(∃ m,W 0 m [] (upd H1 acc (.lst []))) /\
 ∀ i m ys H2,W i m ys H2->H2 acc=some (.lst ys)/\((J.stop i H2/\Q (.ref acc) H2)\/(J.go i H2/\∀ x H3,J.yld i H2 x H3->tc (some x :: t6 caps σ) H3 λb H5=>
  if b=true then te (some x :: t6 caps σ) H5 λy H6=>H6 acc=some (.lst ys)/\ys.length<sizeLine/\∃ m',m'<m/\W (i+1) m' (ys++[y]) (upd H6 acc (.lst (ys++[y])))
  else ∃ m',m'<m/\W (i+1) m' ys H5))
theorem K4 {M:Model} {A:Around} {E:Value->Shared->Prop} {s:Shared} {α:Type} {t:Sem α} {Q:α->Shared->Prop} {u:Sem Unit} (hu:u=pure ()) (h:wpAny M A u (λ_ s1=>wpAny M A t Q E s1) E s):wpAny M A t Q E s:=by
 have h1:=wpAny_bind (f:=λ_=>t) h
 rw [hu,pure_bind] at h1
 exact h1
theorem b9 {M:Model} {A:Around} {E:Value->Shared->Prop} {s:Shared} {α:Type} {t:Sem α} {Q:α->Shared->Prop} (h:wpAny M A t Q (λ_ _=>False) s):wpAny M A t Q E s:=wpAny_mono h (λ_ _ q=>q) λ_ _ q=>q.elim
theorem b5g {X:Cx} {elt iter:Expr} {x:Str} {px:Pos} {ifs:List Expr} {scope:Scope} {pos:Pos} {N':List Str} {caps:List Nat} {wi:TI} {tc:TT} {te:TE}
  (T:CompText X.N X.env N' 1 caps scope) (hc:X.calm=true) (hN:N'.Nodup) (hx0:N'[0]?=some x) (hxl:scope.names.lookup x=some .local) (hi:PI X (.Name x px) iter wi)
  (ht:∀ pins C fp s H,PTL (a9 X pins N' scope C fp s H) ifs tc) (he:∀ pins C fp s H,PE (a9 X pins N' scope C fp s H) elt te)
  (hs:∀ x,foldedSetIterable iter X.env x=pure x:=by intro _;rfl):PE X (.ListComp elt [⟨.Name x px,iter,ifs,0⟩] scope pos) (b0o caps wi tc te):=by
 intro pins s σ H Q I h
 have fr:∀ x∈scope.names,x.2=NameKind.free->∃ c,X.env.cells.lookup x.1=some c:=λx hx hk=>I.ok.has x.1 (T.free x hx hk).2
 rw [eval_ListComp]
 refine wpAny_comprehension_free (use:=none) rfl hs (q9 fr) T.kind T.loc ?_
 refine thn (hi pins s σ H _ I h) λv s1 h1=>thn h1 λitv s2 h2=>?_
 obtain ⟨it,fp,tn,J,H2,rfl,I2,Tn,st2,f2,h2⟩:=h2
 obtain ⟨W,⟨m0,w0⟩,turn⟩:=h2 s2.heap.objs.size (I2.hok.fresh (Nat.le_refl _))
 have hlt:∀ b∈fp,b<s2.heap.objs.size:=λb hb=>let ⟨o,e,_⟩:=Tn.obj _ _ st2 b hb;Heap.lt_size e
 refine wpAny_newObj_type (wpAny_newFunctionEnv T.cell (by intro y hy;simp at hy) (λh₁ hns₁ hsb₁=>?_) T.kind)
 dsimp only at hns₁ hsb₁ ⊢
 have hC:(s2.heap.push { cls:=.type "list",dict:=none,data:=.seq ([]:List Value).toArray }).objs.size=s2.heap.objs.size+1:=Heap.size_push ..
 rw [hC] at hns₁ hsb₁
 have old:∀ b o,s2.heap.get? b=some o->h₁.get? b=some o:=λb o e=>hsb₁.extBut b o (Nat.ne_of_lt (Nat.lt_succ_of_lt (Heap.lt_size e))) (Heap.get?_push_of_some _ (Heap.get?_push_of_some _ e))
 have hacc:h₁.get? s2.heap.objs.size=some { cls:=.type "list",data:=.seq #[] }:=hsb₁.extBut _ _ (Nat.ne_of_lt (Nat.lt_succ_self _)) (Heap.get?_push_of_some _ (Heap.get?_push_size _ rfl))
 have hst₁:tn 0 h₁:=Tn.keep _ _ _ st2 λb _ o e=>old b o e
 have I3:=B9 (t:=s2.toks+([]:List (Str×Value)).length) T I2 f2 hlt hns₁ old hacc
 have stat:∀ {H':Hp},(∀ b∈fp,H' b=none)->∀ b∈fp,D1 (a9 X pins N' scope (s2.heap.objs.size+1) fp s2 H2) [] H' b:=λhn b hb=>by
  refine ⟨hn b hb,(I3.ok.exf b hb).1,I3.ok.exfs b hb,.inl hb,(I3.ok.exf b hb).2,λp hp=>?_⟩
  have hp':p∈X.pn++pins:=by
   have:p∈(X.pn++pins)++[]:=hp
   rwa [List.append_nil] at this
  exact (f2 b hb).2.2.2.2.2 p hp'
 have loop:∀ s3:Shared,s3={ s2 with heap:=h₁,toks:=s2.toks+([]:List (Str×Value)).length } ->
   codeAny (model X.prog X.w) X.A (.compLoop (.ListComp elt [⟨.Name x px,iter,ifs,0⟩] scope pos) 0 (.ref it) (.ref s2.heap.objs.size) (compEnvC scope (E3 X.env.cells scope.names) (s2.heap.objs.size+1) X.env))
    (compPost (model X.prog X.w) X.A X.xe none (EP X pins σ Q) (.ref s2.heap.objs.size) (s2.heap.objs.size+1)) s3:=by
  rintro s3 rfl
  refine codeAny_compLoop_tests (λn s'=>∃ i ys H',Inv (a9 X pins N' scope (s2.heap.objs.size+1) fp s2 H2) [] (none :: t6 caps σ) H' s'/\tn i s'.heap/\(∀ b∈fp,H' b=none)/\W i n ys H') ?_ m0
   ⟨0,[],_,I3,hst₁,λb hb=>by rw [a8 (Nat.ne_of_lt (hlt b hb))];exact (f2 b hb).1,w0⟩ (λ_=>rfl)
  rintro n s4 ⟨i,ys,H4,I4,st4,fr4,w4⟩
  obtain ⟨hacc4,turn4⟩:=turn i n ys H4 w4
  refine b9 ?_
  rcases turn4 with ⟨stop,q⟩ | ⟨go,step⟩
  ·refine thn (Tn.done (a9 X pins N' scope (s2.heap.objs.size+1) fp s2 H2) rfl rfl rfl hc i [] s4 _ H4 (λ_ _=>False) I4 (stat fr4) st4 stop) λr s5 ⟨hr,I5⟩=>?_
   subst hr
   obtain ⟨m5,hn5,_⟩:=id I5.loc
   refine ⟨m5,hn5,λh' hs'=>?_⟩
   refine ⟨.ref s2.heap.objs.size,H4,?_,rfl,q⟩
   refine I2.call' (ch:=fp) (s':={ s5 with heap:=h' }) I5.os (Un.sameBut I5.base hs' (Nat.le_succ _)) (I5.hok.sameBut I5.free hs') I5.bare λb hb=>?_
   have:=f2 b hb
   exact ⟨this.2.2.2.1,this.2.1,this.2.2.2.2.1,this.2.2.2.2.2⟩
  ·refine thn (Tn.item (a9 X pins N' scope (s2.heap.objs.size+1) fp s2 H2) rfl rfl rfl hc i [] s4 _ H4 (λ_ _=>False) I4 (stat fr4) st4 go) λr s5 ⟨u,hr,h5⟩=>?_
   subst hr
   dsimp only
   refine b9 (K4 (u:=letOwnedTupleGo (.Name x px) (.ref it) u) rfl (thn h5 λ_ s6 ⟨xv,H6,I6,r6,y6,st6,fr6⟩=>?_))
   have I6':=I6.pinned (stat fr6) (Tn.obj _ _ st6)
   refine thn (v7 (X:=a9 X pins N' scope (s2.heap.objs.size+1) fp s2 H2) (i:=0) hN hx0 (.inl (lookup_relabel_local hxl)) (.inr (lookup_relabel_local hxl)) _ s6 _ H6 xv u (λσ2 H4=>σ2=some xv :: t6 caps σ/\H4=H6) I6' r6 ⟨rfl,rfl⟩) λ_ s7 ⟨σ7,H7,I7,e7,e7'⟩=>?_
   subst e7 e7'
   have back:∀ {σ8:St} {H8:Hp} {s8:Shared},Inv (a9 X pins N' scope (s2.heap.objs.size+1) fp s2 H2) ([]++t8 fp s6.heap) σ8 H8 s8->tn (i+1) s8.heap/\∀ b∈fp,H8 b=none:=λ{σ8 H8 s8} I8=>by
    refine ⟨Tn.keep _ _ _ st6 λb hb o e=>(I8.pin (b,o) (List.mem_append_right _ (List.mem_append_right _ (j3 hb e)))).1,λb hb=>?_⟩
    obtain ⟨o,e,d⟩:=Tn.obj _ _ st6 b hb
    exact (I8.pin (b,o) (List.mem_append_right _ (List.mem_append_right _ (j3 hb e)))).2.1
   refine b9 (thn (ht pins _ fp s2 H2 _ s7 _ _ _ I7 (step xv _ y6)) λb s8 ⟨H8,I8,q8⟩=>?_)
   have wk:∀ {H9:Hp} {s9:Shared},Inv (a9 X pins N' scope (s2.heap.objs.size+1) fp s2 H2) ([]++t8 fp s6.heap) (some xv :: t6 caps σ) H9 s9->Inv (a9 X pins N' scope (s2.heap.objs.size+1) fp s2 H2) [] (none :: t6 caps σ) H9 s9:=λ{H9 s9} I9=>
    I9.unpinned.weak rfl λj v e=>by
     cases j with
     | zero=>simp at e
     | succ j=>simpa using e
   cases b with
   | false=>
    obtain ⟨m',hm,w'⟩:=q8
    exact ⟨m',hm,i+1,ys,H8,wk I8,(back I8).1,(back I8).2,w'⟩
   | true=>
    refine b9 (thn (he pins _ fp s2 H2 _ s8 _ H8 _ I8 q8) λz s9 ⟨y,H9,I9,r9,hacc9,hl9,m',hm,w'⟩=>?_)
    refine b9 (thn (A8 (X:=a9 X pins N' scope (s2.heap.objs.size+1) fp s2 H2) _ s9 _ H9 (.ref s2.heap.objs.size) [y] (.ref s2.heap.objs.size) [z] (λ_ H'=>H'=upd H9 s2.heap.objs.size (.lst (ys++[y]))) I9 rfl (.cons r9 .nil) ⟨_,ys,y,rfl,rfl,hacc9,hl9,rfl⟩) λ_ s10 ⟨_,H10,I10,_,e10⟩=>?_)
    subst e10
    exact ⟨m',hm,i+1,ys++[y],_,wk I10,(back I10).1,(back I10).2,w'⟩
 have fin:=codeAny_compStart_list (loop _ rfl) (Tn.self _ 0 _ _ _ hst₁ (loop _ rfl))
 rw [<- hC] at fin
 exact fin
theorem a49 {X:Cx} {elt iter:Expr} {x:Str} {px:Pos} {y:Str} {py spos:Pos} {iy:Nat} {ifs:List Expr} {scope:Scope} {pos:Pos} {N':List Str} {caps:List Nat} {wi:TI} {tc:TT} {te:TE}
  (hsw:swapsWith (.ListComp elt [⟨.Name x px,iter,ifs,0⟩] scope pos) (some (.Name y py)) spos.line X.env=pure true) (hNX:X.N.Nodup) (hiy:X.N[iy]?=some y) (hy:Loc X.env.scope y) (hf:X.fn y=true\/X.env.scope.names.lookup y=some .local)
  (T:CompText X.N X.env N' 1 caps scope) (hc:X.calm=true) (hN:N'.Nodup) (hx0:N'[0]?=some x) (hxl:scope.names.lookup x=some .local) (hi:PI X (.Name x px) iter wi)
  (ht:∀ pins C fp s H,PTL (a9 X pins N' scope C fp s H) ifs tc) (he:∀ pins C fp s H,PE (a9 X pins N' scope C fp s H) elt te)
  (hs:∀ x,foldedSetIterable iter X.env x=pure x:=by intro _;rfl):PS X (.Assign [.Name y py] (.ListComp elt [⟨.Name x px,iter,ifs,0⟩] scope pos) spos) (b2m (b0o caps wi tc te) (U3 iy)):=by
 intro pins s σ H D I h
 have fr:∀ x∈scope.names,x.2=NameKind.free->∃ c,X.env.cells.lookup x.1=some c:=λx hx hk=>I.ok.has x.1 (T.free x hx hk).2
 rw [exec_Assign_Name_used _ _ _ _ hsw]
 refine wpAny_bind (wpAny_standAt (wpAny_bind ?_))
 show wpAny _ X.A (do let _ <- comprehension (.ListComp elt [⟨.Name x px,iter,ifs,0⟩] scope pos) scope X.env _ (newList []) false (eval iter X.env) (some (assign (.Name y py) X.env))) _ _ s
 refine wpAny_bind (wpAny_mono (wpAny_comprehension_free (use:=some (assign (.Name y py) X.env)) (Q:=λ_ s'=>SP X pins D .next s') rfl hs (q9 fr) T.kind T.loc ?_) (λ_ s' hq=>wpAny_pure (wpAny_pure hq)) λ_ _ e=>e)
 refine thn (hi pins s σ H _ I h) λv s1 h1=>thn h1 λitv s2 h2=>?_
 obtain ⟨it,fp,tn,J,H2,rfl,I2,Tn,st2,f2,h2⟩:=h2
 obtain ⟨W,⟨m0,w0⟩,turn⟩:=h2 s2.heap.objs.size (I2.hok.fresh (Nat.le_refl _))
 have hlt:∀ b∈fp,b<s2.heap.objs.size:=λb hb=>let ⟨o,e,_⟩:=Tn.obj _ _ st2 b hb;Heap.lt_size e
 refine wpAny_newObj_type (wpAny_newFunctionEnv T.cell (by intro y hy;simp at hy) (λh₁ hns₁ hsb₁=>?_) T.kind)
 dsimp only at hns₁ hsb₁ ⊢
 have hC:(s2.heap.push { cls:=.type "list",dict:=none,data:=.seq ([]:List Value).toArray }).objs.size=s2.heap.objs.size+1:=Heap.size_push ..
 rw [hC] at hns₁ hsb₁
 have old:∀ b o,s2.heap.get? b=some o->h₁.get? b=some o:=λb o e=>hsb₁.extBut b o (Nat.ne_of_lt (Nat.lt_succ_of_lt (Heap.lt_size e))) (Heap.get?_push_of_some _ (Heap.get?_push_of_some _ e))
 have hacc:h₁.get? s2.heap.objs.size=some { cls:=.type "list",data:=.seq #[] }:=hsb₁.extBut _ _ (Nat.ne_of_lt (Nat.lt_succ_self _)) (Heap.get?_push_of_some _ (Heap.get?_push_size _ rfl))
 have hst₁:tn 0 h₁:=Tn.keep _ _ _ st2 λb _ o e=>old b o e
 have I3:=B9 (t:=s2.toks+([]:List (Str×Value)).length) T I2 f2 hlt hns₁ old hacc
 have stat:∀ {H':Hp},(∀ b∈fp,H' b=none)->∀ b∈fp,D1 (a9 X pins N' scope (s2.heap.objs.size+1) fp s2 H2) [] H' b:=λhn b hb=>by
  refine ⟨hn b hb,(I3.ok.exf b hb).1,I3.ok.exfs b hb,.inl hb,(I3.ok.exf b hb).2,λp hp=>?_⟩
  have hp':p∈X.pn++pins:=by
   have:p∈(X.pn++pins)++[]:=hp
   rwa [List.append_nil] at this
  exact (f2 b hb).2.2.2.2.2 p hp'
 have loop:∀ s3:Shared,s3={ s2 with heap:=h₁,toks:=s2.toks+([]:List (Str×Value)).length } ->
   codeAny (model X.prog X.w) X.A (.compLoop (.ListComp elt [⟨.Name x px,iter,ifs,0⟩] scope pos) 0 (.ref it) (.ref s2.heap.objs.size) (compEnvC scope (E3 X.env.cells scope.names) (s2.heap.objs.size+1) X.env))
    (compPost (model X.prog X.w) X.A X.xe (some (assign (.Name y py) X.env)) (λ_ s'=>SP X pins D .next s') (.ref s2.heap.objs.size) (s2.heap.objs.size+1)) s3:=by
  rintro s3 rfl
  refine codeAny_compLoop_tests (λn s'=>∃ i ys H',Inv (a9 X pins N' scope (s2.heap.objs.size+1) fp s2 H2) [] (none :: t6 caps σ) H' s'/\tn i s'.heap/\(∀ b∈fp,H' b=none)/\W i n ys H') ?_ m0
   ⟨0,[],_,I3,hst₁,λb hb=>by rw [a8 (Nat.ne_of_lt (hlt b hb))];exact (f2 b hb).1,w0⟩ (λ_=>rfl)
  rintro n s4 ⟨i,ys,H4,I4,st4,fr4,w4⟩
  obtain ⟨hacc4,turn4⟩:=turn i n ys H4 w4
  refine b9 ?_
  rcases turn4 with ⟨stop,q⟩ | ⟨go,step⟩
  ·refine thn (Tn.done (a9 X pins N' scope (s2.heap.objs.size+1) fp s2 H2) rfl rfl rfl hc i [] s4 _ H4 (λ_ _=>False) I4 (stat fr4) st4 stop) λr s5 ⟨hr,I5⟩=>?_
   subst hr
   obtain ⟨m5,hn5,_⟩:=id I5.loc
   have IX:Inv X pins σ H4 s5:=I2.call' (ch:=fp) I5.os I5.base I5.hok I5.bare λb hb=>by
    have:=f2 b hb
    exact ⟨this.2.2.2.1,this.2.1,this.2.2.2.2.1,this.2.2.2.2.2⟩
   have C0:s2.heap.objs.size<=s2.heap.objs.size+1:=Nat.le_succ _
   have cC:∀ z c,X.env.cells.lookup z=some c->c≠s2.heap.objs.size+1:=λz c e=>by
    obtain ⟨v,oc,ho,_⟩:=I2.cell z c e
    exact Nat.ne_of_lt (Nat.lt_succ_of_lt (Heap.lt_size ho))
   have lC:X.env.locals≠s2.heap.objs.size+1:=Nat.ne_of_lt (Nat.lt_succ_of_lt I2.lt)
   show wpAny _ X.A (assign (.Name y py) X.env (.ref s2.heap.objs.size)) (λ_ s''=>∃ m,s''.heap.Ns (s2.heap.objs.size+1) m/\∀ h',Heap.SameBut (s2.heap.objs.size+1) s''.heap h'->SP X pins D .next { s'' with heap:=h' }) X.xe s5
   refine wpAny_assign_Name (O4 (v:=.ref s2.heap.objs.size) IX hNX hiy hy rfl (λs6 I6 ⟨a,sb,ha⟩=>?_) hf)
   have aC:s2.heap.objs.size+1≠a:=λz=>by
    rcases ha with ha | ha
    ·exact lC (by rw [<- ha,<- z])
    ·exact cC _ _ ha z.symm
   refine ⟨m5,hn5.sameBut sb aC,λh' hs'=>?_⟩
   refine ⟨_,H4,I6.turned (t':=s6.toks) (it:=s2.heap.objs.size+1) (λb o hb e=>hs'.extBut b o hb e) I5.free lC.symm (.inr (Nat.le_trans I2.sz C0)) cC (λp hp=>?_),q⟩
   exact Nat.ne_of_lt (Nat.lt_succ_of_lt (Heap.lt_size (I2.pin p hp).1))
  ·refine thn (Tn.item (a9 X pins N' scope (s2.heap.objs.size+1) fp s2 H2) rfl rfl rfl hc i [] s4 _ H4 (λ_ _=>False) I4 (stat fr4) st4 go) λr s5 ⟨u,hr,h5⟩=>?_
   subst hr
   dsimp only
   refine b9 (K4 (u:=letOwnedTupleGo (.Name x px) (.ref it) u) rfl (thn h5 λ_ s6 ⟨xv,H6,I6,r6,y6,st6,fr6⟩=>?_))
   have I6':=I6.pinned (stat fr6) (Tn.obj _ _ st6)
   refine thn (v7 (X:=a9 X pins N' scope (s2.heap.objs.size+1) fp s2 H2) (i:=0) hN hx0 (.inl (lookup_relabel_local hxl)) (.inr (lookup_relabel_local hxl)) _ s6 _ H6 xv u (λσ2 H4=>σ2=some xv :: t6 caps σ/\H4=H6) I6' r6 ⟨rfl,rfl⟩) λ_ s7 ⟨σ7,H7,I7,e7,e7'⟩=>?_
   subst e7 e7'
   have back:∀ {σ8:St} {H8:Hp} {s8:Shared},Inv (a9 X pins N' scope (s2.heap.objs.size+1) fp s2 H2) ([]++t8 fp s6.heap) σ8 H8 s8->tn (i+1) s8.heap/\∀ b∈fp,H8 b=none:=λ{σ8 H8 s8} I8=>by
    refine ⟨Tn.keep _ _ _ st6 λb hb o e=>(I8.pin (b,o) (List.mem_append_right _ (List.mem_append_right _ (j3 hb e)))).1,λb hb=>?_⟩
    obtain ⟨o,e,d⟩:=Tn.obj _ _ st6 b hb
    exact (I8.pin (b,o) (List.mem_append_right _ (List.mem_append_right _ (j3 hb e)))).2.1
   refine b9 (thn (ht pins _ fp s2 H2 _ s7 _ _ _ I7 (step xv _ y6)) λb s8 ⟨H8,I8,q8⟩=>?_)
   have wk:∀ {H9:Hp} {s9:Shared},Inv (a9 X pins N' scope (s2.heap.objs.size+1) fp s2 H2) ([]++t8 fp s6.heap) (some xv :: t6 caps σ) H9 s9->Inv (a9 X pins N' scope (s2.heap.objs.size+1) fp s2 H2) [] (none :: t6 caps σ) H9 s9:=λ{H9 s9} I9=>
    I9.unpinned.weak rfl λj v e=>by
     cases j with
     | zero=>simp at e
     | succ j=>simpa using e
   cases b with
   | false=>
    obtain ⟨m',hm,w'⟩:=q8
    exact ⟨m',hm,i+1,ys,H8,wk I8,(back I8).1,(back I8).2,w'⟩
   | true=>
    refine b9 (thn (he pins _ fp s2 H2 _ s8 _ H8 _ I8 q8) λz s9 ⟨y,H9,I9,r9,hacc9,hl9,m',hm,w'⟩=>?_)
    refine b9 (thn (A8 (X:=a9 X pins N' scope (s2.heap.objs.size+1) fp s2 H2) _ s9 _ H9 (.ref s2.heap.objs.size) [y] (.ref s2.heap.objs.size) [z] (λ_ H'=>H'=upd H9 s2.heap.objs.size (.lst (ys++[y]))) I9 rfl (.cons r9 .nil) ⟨_,ys,y,rfl,rfl,hacc9,hl9,rfl⟩) λ_ s10 ⟨_,H10,I10,_,e10⟩=>?_)
    subst e10
    exact ⟨m',hm,i+1,ys++[y],_,wk I10,(back I10).1,(back I10).2,w'⟩
 have fin:=codeAny_compStart_list (loop _ rfl) (Tn.self _ 0 _ _ _ hst₁ (loop _ rfl))
 rw [<- hC] at fin
 exact fin
mutual
inductive DAt (K:PySem.W.Frag) (H:Hp):V->PyData->Prop where
 | non:DAt K H .non .none
 | bl (b:Bool):DAt K H (.bl b) (.bool b)
 | int (i:Int):DAt K H (.int i) (.int i)
 | str (x:Str):DAt K H (.str x) (.str x)
 | lst {a:Addr} {xs:List V} {ds:List PyData}:SqL K H a xs->DAll K H xs ds->DAt K H (.ref a) (.list ds)
 | tup {a:Addr} {xs:List V} {ds:List PyData}:SqT K H a xs->DAll K H xs ds->DAt K H (.ref a) (.tuple ds)
inductive DAll (K:PySem.W.Frag) (H:Hp):List V->List PyData->Prop where
 | nil:DAll K H [] []
 | cons {x:V} {d:PyData} {xs:List V} {ds:List PyData}:DAt K H x d->DAll K H xs ds->DAll K H (x :: xs) (d :: ds)
end
def Keeps (K:PySem.W.Frag) (H H':Hp):Prop:=(∀ a xs,SqL K H a xs->SqL K H' a xs)/\∀ a xs,SqT K H a xs->SqT K H' a xs
mutual
theorem DAt.keeps {K:PySem.W.Frag} {H H':Hp} (k:Keeps K H H'):∀ {v:V} {d:PyData},DAt K H v d->DAt K H' v d
 | _,_,.non=>.non
 | _,_,.bl b=>.bl b
 | _,_,.int i=>.int i
 | _,_,.str x=>.str x
 | _,_,.lst h r=>.lst (k.1 _ _ h) (DAll.keeps k r)
 | _,_,.tup h r=>.tup (k.2 _ _ h) (DAll.keeps k r)
theorem DAll.keeps {K:PySem.W.Frag} {H H':Hp} (k:Keeps K H H'):∀ {xs:List V} {ds:List PyData},DAll K H xs ds->DAll K H' xs ds
 | _,_,.nil=>.nil
 | _,_,.cons h r=>.cons (DAt.keeps k h) (DAll.keeps k r)
end
theorem Keeps.of_same {K:PySem.W.Frag} {H H':Hp} (e:Same H H'):Keeps K H H':=
 ⟨λa xs h=>e.seq h,λa xs h=>by
  rcases h with (h | ⟨o,h⟩) | h
  ·exact .inl (.inl (e _ _ h))
  ·exact .inl (.inr ⟨o,e _ _ h⟩)
  ·exact .inr h⟩
theorem Same.laid {H:Hp} {p:Addr} {o:HO} (h:H p=none):Same H (upd H p o):=λb u e=>by rw [a8 (b6 e h)];exact e
theorem Keeps.laid {K:PySem.W.Frag} {H:Hp} {p:Addr} {o:HO} (h:H p=none):Keeps K H (upd H p o):=Keeps.of_same (Same.laid h)
section
variable {X:Cx} {pins:List (Addr×Obj)} {σ:St} {H:Hp} {s:Shared}
mutual
theorem DAt.reads (I:Inv X pins σ H s):∀ {v:V} {d:PyData},DAt X.K H v d->∀ {u:Value},RelV v u->∃ as,Reads s.heap u d as
 | _,_,.non,u,r=>by cases (show u=Value.none from r);exact ⟨_,.none⟩
 | _,_,.bl b,u,r=>by cases (show u=Value.bool b from r);exact ⟨_,.bool b⟩
 | _,_,.int i,u,r=>by obtain ⟨t,e⟩:=(show ∃ t,u=Value.int i t from r);subst e;exact ⟨_,.int i t⟩
 | _,_,.str x,u,r=>by obtain ⟨t,e⟩:=(show ∃ t,u=Value.str x t from r);subst e;exact ⟨_,.str x t⟩
 | _,_,.lst (a:=a) h q,u,r=>by
  cases (show u=Value.ref a from r)
  obtain ⟨its,rv,⟨o,n,e1,e2,e3,e4⟩,_⟩:=I.list h
  obtain ⟨as,ra⟩:=DAll.reads I q rv
  exact ⟨_,.list e1 e2 e4 ra⟩
 | _,_,.tup (a:=a) h q,u,r=>by
  cases (show u=Value.ref a from r)
  obtain ⟨its,rv,⟨o,e1,e2,n,e4⟩,_⟩:=I.tuple h
  obtain ⟨as,ra⟩:=DAll.reads I q rv
  exact ⟨_,.tuple e1 e2 e4 ra⟩
theorem DAll.reads (I:Inv X pins σ H s):∀ {vs:List V} {ds:List PyData},DAll X.K H vs ds->∀ {us:List Value},Vals vs us->∃ as,ReadsAll s.heap us ds as
 | _,_,.nil,us,r=>by cases r;exact ⟨_,.nil⟩
 | _,_,.cons h q,us,r=>by
  cases r with
  | cons r1 r2=>
   obtain ⟨as,h1⟩:=DAt.reads I h r1
   obtain ⟨bs,h2⟩:=DAll.reads I q r2
   exact ⟨_,.cons h1 h2⟩
end
structure Shows (d:PyData):Prop where
 sh:d.showable=true
 nd:d.hasDict=false
 dp:d.depth<=60
 sz:d.shown.length<=sizeLine
theorem a71 (hg:X.A.guards=some []) (hu:X.A.units+64<cLine):j9 X (.builtin "repr") (λxs H Q=>∃ v d,xs=[v]/\DAt X.K H v d/\Shows d/\Q (.str d.shown) H):=by
 intro pins s σ H xs us Q I r h
 obtain ⟨v,d,rfl,hd,S,q⟩:=h
 obtain ⟨u,rfl,ru⟩:=P7 r
 have sh:=S.sh
 have sz:=S.sz
 cases hd with
 | non=>cases (show u=Value.none from ru);exact PySem.P.repr_of_none ⟨.str (PyData.shown .none),H,I.tok _,⟨_,rfl⟩,q⟩
 | bl b=>cases (show u=Value.bool b from ru);exact PySem.P.repr_of_bool ⟨.str (PyData.shown (.bool b)),H,I.tok _,⟨_,rfl⟩,q⟩
 | int i=>obtain ⟨t,e⟩:=(show ∃ t,u=Value.int i t from ru);subst e;exact PySem.P.repr_of_int (by simpa [PyData.showable] using sh) ⟨.str (PyData.shown (.int i)),H,I.tok _,⟨_,rfl⟩,q⟩
 | str x=>obtain ⟨t,e⟩:=(show ∃ t,u=Value.str x t from ru);subst e;exact PySem.P.repr_of_str ⟨.str (PyData.shown (.str x)),H,I.tok _,⟨_,rfl⟩,q⟩ sz
 | lst h1 h2=>
  obtain ⟨as,rr⟩:=DAt.reads I (.lst h1 h2) ru
  obtain ⟨a,rfl⟩:=isRef_of_reads rr rfl
  exact repr_of_reads' rr sh (PyData.noDict_hsm S.nd) hg (by have:=S.dp;omega) (λ_ _ e=>e) (λh' u tk hk=>⟨.str (PyData.shown _),H,I.kept hk,⟨_,rfl⟩,q⟩) sz
 | tup h1 h2=>
  obtain ⟨as,rr⟩:=DAt.reads I (.tup h1 h2) ru
  obtain ⟨a,rfl⟩:=isRef_of_reads rr rfl
  exact repr_of_reads' rr sh (PyData.noDict_hsm S.nd) hg (by have:=S.dp;omega) (λ_ _ e=>e) (λh' u tk hk=>⟨.str (PyData.shown _),H,I.kept hk,⟨_,rfl⟩,q⟩) sz
end
def c4m (K:PySem.W.Frag) (neg:Bool):R2:=λx y H Q=>∃ d e,DAt K H x d/\DAt K H y e/\d.canLay0=true/\e.canLay0=true/\min d.depth e.depth<=60/\Q (.bl (if neg then !PyData.eqv d e else PyData.eqv d e)) H
section
variable {X:Cx}
theorem b7o (hu:X.A.units+64<cLine):OpR X (compareOp .Eq) (c4m X.K false):=by
 intro pins s σ H x y v u Q I rx ry h
 obtain ⟨d,e,hd,he,c1,c2,dp,q⟩:=h
 obtain ⟨as,r1⟩:=hd.reads I rx
 obtain ⟨bs,r2⟩:=he.reads I ry
 exact SeqAt.compareEq_reads r1 r2 c1 c2 (by omega) ⟨.bl (PyData.eqv d e),H,I,rfl,q⟩
theorem b88 (hu:X.A.units+64<cLine):OpR X (compareOp .NotEq) (c4m X.K true):=by
 intro pins s σ H x y v u Q I rx ry h
 obtain ⟨d,e,hd,he,c1,c2,dp,q⟩:=h
 obtain ⟨as,r1⟩:=hd.reads I rx
 obtain ⟨bs,r2⟩:=he.reads I ry
 exact SeqAt.compareNe_reads r1 r2 c1 c2 (by omega) ⟨.bl (!PyData.eqv d e),H,I,rfl,q⟩
end
end L2
namespace L2
open PySem PySem.W PySem.Calls PyProof.Rows
noncomputable def Q2 (K:Frag) (C:Addr):Bool:=match K.lookup C with
 | some ⟨oc,_,.cls cd,sl⟩=>oc==.type "type" && !cd.hasDel&&cd.hasDict&&(sl.toList[4]?).join==some (.builtin "ValueError.__new__")&&!cd.mro.isEmpty&&cd.mro.contains (.ref C)&&cd.mro.contains (.type "ValueError")&&cd.mro.contains (.type "BaseException") &&
   !cd.mro.contains (.type "AttributeError")&&!cd.mro.contains (.type "NameError")&&specialIn K (.ref C) "__call__" == some (some (.builtin "type.__call__"))&&instIn K (.ref C) (.type "type")==some true
 | _=>false
structure MakesX (M:Model) (h:Heap) (C:Addr):Prop where
 obj:∃ oc od cd sl,h.get? C=some ⟨oc,od,.cls cd,sl⟩/\cd.hasDel=false/\cd.mro.isEmpty=false
 made:Looks M h (Bind.madeBy (.ref C)) (some "ValueError.__new__")
 base:Looks M h (Bind.staticBase (.ref C)) (.ref C)
 self:Looks M h (isSubtype (.ref C) (.ref C)) true
 isV:Looks M h (isSubtype (.ref C) (.type "ValueError")) true
 isB:Looks M h (isSubtype (.ref C) (.type "BaseException")) true
 noA:Looks M h (isSubtype (.ref C) (.type "AttributeError")) false
 noN:Looks M h (isSubtype (.ref C) (.type "NameError")) false
 call:Looks M h (specialOf (.ref C) "__call__") (some (.builtin "type.__call__"))
 typ:Looks M h (isInstance (.ref C) (.type "type")) true
 ty:Looks M h (typeOf (.ref C)) (.type "type")
 isT:Looks M h (isType (.ref C)) true
theorem A5 {K:Frag} {M:Model} {h:Heap} (X:K.In h) {C:Addr} (e:Q2 K C=true):MakesX M h C:=by
 unfold Q2 at e
 split at e
 case h_2=>cases e
 rename_i oc od cd sl ho
 simp only [Bool.and_eq_true,Bool.not_eq_true',beq_iff_eq] at e
 obtain ⟨⟨⟨⟨⟨⟨⟨⟨⟨⟨⟨e0,e1⟩,_⟩,e3⟩,e4⟩,e5⟩,e6⟩,e7⟩,e8⟩,e9⟩,e10⟩,e11⟩:=e
 have hc:clsIn K C=some cd:=by unfold clsIn;rw [ho]
 have sub:∀ {b:Value} {r:Bool},cd.mro.contains b=r->Looks M h (isSubtype (.ref C) b) r:=λ{b r} q=>looks_mroIn X (by unfold mroIn;rw [hc,Option.bind_some,if_neg (by rw [e4];decide),q])
 have hm:Looks M h (mroOf (.ref C)) cd.mro:=(looks_clsIn X hc).andThen .now
 obtain ⟨c,l,hl⟩:∃ c l,cd.mro=c :: l:=by
  cases q:cd.mro with
  | nil=>rw [q] at e4;cases e4
  | cons c l=>exact ⟨c,l,rfl⟩
 have made:Looks M h (Bind.madeBy (.ref C)) (some "ValueError.__new__"):=λA Q E s k q=>by
  unfold Bind.madeBy
  refine wpAny_bind (hm A _ E s k ?_)
  rw [hl,List.forIn_cons]
  refine wpAny_bind (wpAny_bind (wpAny_bind (wpAny_bind (wpAny_loadPart (k _ _ (X _ _ ho)) (wpAny_pure ?_)))))
  dsimp only
  rw [<- Array.getElem?_toList,e3]
  exact wpAny_pure (wpAny_pure (wpAny_pure q))
 refine ⟨⟨oc,od,cd,sl,X _ _ ho,e1,e4⟩,made,λA Q E s k q=>?_,sub e5,sub e6,sub e7,sub e8,sub e9,looks_specialIn X e10,looks_instIn X e11,?_,(Looks.ld (X _ _ ho)).andThen .now⟩
 ·unfold Bind.staticBase
  refine wpAny_bind (hm A _ E s k ?_)
  rw [hl,List.forIn_cons]
  exact wpAny_bind (wpAny_bind (wpAny_bind (made A _ E s k (wpAny_pure (wpAny_pure (wpAny_pure q))))))
 ·subst e0;exact (Looks.ld (X _ _ ho)).andThen .now
noncomputable abbrev v6 (C t:Addr):Obj:={ cls:=.ref C,data:=.fields #[.ref t,.none,.none,.none,.bool false,.none] }
noncomputable abbrev A3 (vs:List Value):Obj:={ cls:=.type "tuple",data:=.seq vs.toArray }
section
variable {prog:Program} {w:World} {A:Around} {K:Frag} {C:Addr} {R:Result->Shared->Prop} {h:Heap} {g:Array GenState} {d:Drawn} {t:Nat} {os:OsState}
theorem c6j {rest:List Value} (Y:MakesX (model prog w) h C) (hrest:rest.length<=sizeLine)
  (hq:R (.ok (.ret (.ref (h.objs.size+1)))) ⟨(h.push (A3 rest)).push (v6 C h.objs.size),g,d,t,os⟩) :
  codeAny (model prog w) A (.call (.builtin "ValueError.__new__") ⟨.ref C :: rest,[]⟩) R ⟨h,g,d,t,os⟩:=by
 obtain ⟨⟨oc,od,cd,sl,hC,e1,e4⟩,made,base,self,isV,isB,noA,noN,call,typ,_,_⟩:=Y
 have F:=PySem.F.excBase_ValueError
 refine codeAny_call_builtin_code (Code.quiet_builtin _ F.quiet) ?_
 simp only [checkBuiltinCall,F.newKind,F.newSplit,F.newRow]
 have here:Looks (model prog w) h (Bind.madeHere "ValueError.__new__" (.ref C)) ():=base.andThen (made.andThen (Looks.of_pure (by simp only [Option.map_some,bne_self_eq_false,Bool.false_eq_true,if_false])))
 repeat (first | simp only [bne_self_eq_false,Bool.false_eq_true,if_false] | lk)
 have here2:Looks (model prog w) h (Bind.madeHere "BaseException.__new__" (.ref C)) ():=base.andThen (made.andThen (Looks.of_pure (by simp only [Option.map_some,F.canon,bne_self_eq_false,Bool.false_eq_true,if_false])))
 have ends:=F.ends
 refine codeAny_builtinAt F.entry (PySem.wpAt_bind ?_)
 show PySem.wpAt _ _ _ (stack >>= _) _ _ _
 refine PySem.wpAt_bind (PySem.wpAt_stack λp below=>PySem.wpAt_of_wpAny ?_)
 wp_walk
 refine PySem.wpAt_of_wpAny ?_
 rw [F.owner]
 repeat lk
 rw [if_neg (by rw [List.size_toArray];omega)]
 show wpAny _ _ (newObjAsIs _ _) _ _ _
 have hC2:(h.push (A3 rest)).get? C=some ⟨oc,od,.cls cd,sl⟩:=Heap.get?_push_of_some _ hC
 have hC3:((h.push (A3 rest)).push (v6 C h.objs.size)).get? C=some ⟨oc,od,.cls cd,sl⟩:=Heap.get?_push_of_some _ hC2
 unfold newObjAsIs
 refine wpAny_bind (wpAny_alloc (wpAny_pure (wpAny_bind ?_)))
 show wpAny _ _ (newObjAsIs _ _) _ _ _
 unfold newObjAsIs classHasDel
 refine wpAny_bind (wpAny_alloc (wpAny_bind (wpAny_bind (wpAny_load hC3 (wpAny_pure ?_)))))
 rw [e1]
 refine wpAny_pure (wpAny_pure ?_)
 show R _ _
 rw [Heap.size_push]
 exact hq
theorem c4z {rest:List Value} {f:Addr} (Y:MakesX (model prog w) h C) (hi:Looks (model prog w) h (typeLookup (.ref C) "__init__") (some (.ref f)))
  (hb:∀ self,Looks (model prog w) h (bindSpecial (.ref f) self) (.ref f,[self])) (hrest:rest.length<=sizeLine)
  (hq:codeAny (model prog w) (A.under (.builtin "type.__call__" ⟨.ref C :: rest,[]⟩)) (.call (.ref f) ⟨.ref (h.objs.size+1) :: rest,[]⟩) (InitBack (h.objs.size+1) R) ⟨(h.push (A3 rest)).push (v6 C h.objs.size),g,d,t,os⟩) :
  codeAny (model prog w) A (.call (.ref C) ⟨rest,[]⟩) R ⟨h,g,d,t,os⟩:=by
 have Y':=Y
 obtain ⟨⟨oc,od,cd,sl,hC,e1,e4⟩,made,base,self,isV,isB,noA,noN,call,typ,_,_⟩:=Y
 refine codeAny_of_tree ?_
 show wpAny _ _ (callAny (.ref C) _) _ _ _
 refine nd_load hC (show wpAny _ _ (callAny.viaDunder (.ref C) _) _ _ _ from ?_)
 unfold callAny.viaDunder
 refine wpAny_bind (call.at ?_)
 dsimp only
 rw [tc_bind]
 refine wpAny_bind (wpAny_pure (wpAny_bind (wpAny_pure (wpAny_pure (a:=Fin.again (.call (.builtin "type.__call__") ⟨.ref C :: rest,[]⟩)) (And.intro rfl ?_)))))
 refine codeAny_call_builtin_at (Code.quiet_builtin _ (by decide +kernel)) entry_typeCall (check_slot tc_kind tc_split typ (tc_args _ _ _) ?_)
 have hm:Looks (model prog w) h (mroOf (.ref C)) cd.mro:=((Looks.ld (part:=none) hC).andThen .now).andThen .now
 unfold Builtin.«type.__call__»
 repeat (first | simp only [e4,Bool.false_eq_true,if_false] | with_reducible refine wpAny_call ?_ | lk)
 refine c6j Y' hrest ?_
 have k:∀ b o,h.get? b=some o->((h.push (A3 rest)).push (v6 C h.objs.size)).get? b=some o:=λb o e=>Heap.get?_push_of_some _ (Heap.get?_push_of_some _ e)
 have hx:((h.push (A3 rest)).push (v6 C h.objs.size)).get? (h.objs.size+1)=some (v6 C h.objs.size):=by heap_get
 have t1:Looks (model prog w) ((h.push (A3 rest)).push (v6 C h.objs.size)) (typeOf (.ref (h.objs.size+1))) (.ref C):=(Looks.ld hx).andThen .now
 have s1:=self.keeps k
 have i1:=hi.keeps k
 have b1:=(hb (.ref (h.objs.size+1))).keeps k
 unfold isInstance callSpecial? specialOf
 repeat (first | with_reducible refine wpAny_call ?_ | lk)
 refine codeAny_mono hq λr s' z=>?_
 rcases r with e | (v | _ | _ | _) <;> first | exact z | exact z.elim | skip
 obtain ⟨rfl,z⟩:=z
 exact wpAny_pure (wpAny_pure z)
end
end L2
namespace L2
open PySem PySem.W PySem.Calls PyProof.Rows Builtin Builtin.ObjectAttr
theorem b00:builtinKind "BaseException.__getattribute__" = some .slot:=by decide +kernel
theorem a77:splitId "BaseException.__getattribute__" = some ("BaseException","__getattribute__"):=by decide +kernel
theorem a75:plainId "BaseException.__getattribute__" = true:=by decide +kernel
section
variable {prog:Program} {w:World} {A:Around} {R:Result->Shared->Prop} {s:Shared} {x:Addr} {name:Str} {t:Tok}
theorem a9n (hi:Looks (model prog w) s.heap (isInstance (.ref x) (.type "BaseException")) true)
  (h:wpAny (model prog w) A.in1 (Builtin.«object.__getattribute__» ⟨[.ref x,.str name t],[]⟩) (λfin s'=>match fin with | .done f=>R (.ok f) s' | .again c'=>c'.quiet=true/\codeAny (model prog w) A c' R s') (λe s'=>R (.error e) s') s) :
  codeAny (model prog w) A (.call (.builtin "BaseException.__getattribute__") ⟨[.ref x,.str name t],[]⟩) R s:=
 codeAny_call_builtin a75 PySem.F.entry_bexc_ga (@check_slot (model prog w) _ _ _ "BaseException.__getattribute__" "BaseException" "__getattribute__" (.ref x) [.str name t] [] _ b00 a77 hi (PySem.F.args_bexc_ga (.ref x) (.str name t)) h)
end
section
variable {prog:Program} {w:World} {A:Around} {E:Value->Shared->Prop} {s:Shared} {K:Frag} {x C:Addr} {ox:Obj} {od:Option Obj} {name:Str} {expr:Bool} {Q:Value->Shared->Prop}
structure XCls (K:Frag) (C:Addr):Prop where
 ga:findIn K (.ref C) "__getattribute__" = some (some (.builtin "BaseException.__getattribute__"))
 gg:findIn K (.ref C) "__getattr__" = some none
 be:mroIn K C (.type "BaseException")=some true
 ob:mroIn K C (.type "object")=some true
 hd:hasDictIn K C=true
 cl:findIn K (.ref C) "__class__" = some (some (.builtin "object.__class__"))
 cg:specialIn K (.builtin "object.__class__") "__get__" = some (some (.builtin "getset_descriptor.__get__"))
 ct:takesIn K (.builtin "object.__class__")=some true
theorem c0m {fill:Bool} {t:Tok} (X:K.In s.heap) (I:InstAt s.heap x ox C od) (hx:XCls K C)
  (h:wpAny (model prog w) A.in1 (Builtin.«object.__getattribute__» ⟨[.ref x,.str name t],[]⟩) (λfin s'=>match fin with | .done (.ret v)=>wpAny (model prog w) A (handedOut v) Q E s' | _=>False) (λ_ _=>False) s) :
  wpAny (model prog w) A (getAttrBy (.ref x) (.str name t) fill expr) Q E s:=by
 obtain ⟨hp,g,d,tk,os⟩:=s
 have L0:=I.type (M:=model prog w)
 have L1:=looks_findIn (M:=model prog w) X hx.ga
 have L2:=looks_findIn (M:=model prog w) X hx.gg
 have L4:Looks (model prog w) hp (isInstance (.ref x) (.type "BaseException")) true:=L0.andThen (looks_mroIn X hx.be)
 have f3:=(PySem.F.attrBase_ValueError).ga.bind (.ref x)
 have hx0:(expr&&onTheHeap (Value.builtin "BaseException.__getattribute__"))=false:=by cases expr <;> rfl
 have hx2:(Value.builtin "BaseException.__getattribute__" == Value.builtin "object.__getattribute__")=false:=by decide +kernel
 unfold getAttrBy
 refine wpAny_holding (wpAny_bind (L0.at (wpAny_bind (L1.at ?_))))
 repeat (first | simp only [hx2,Bool.and_false,Bool.false_eq_true,if_false] | lk)
 refine wpAny_attempt (wpAny_holding ?_)
 unfold callGetattribute
 rw [hx0]
 simp only [Bool.false_eq_true,if_false]
 unfold boundAndCalled
 refine wpAny_bind (wpAny_of_eq f3 ?_)
 refine wpAny_call (show codeAny _ _ (.call (.builtin "BaseException.__getattribute__") ⟨[.ref x,.str name t],[]⟩) _ _ from a9n L4 ?_)
 refine wpAny_mono h (λfin s' z=>?_) λ_ _ z=>z.elim
 rcases fin with (v | _ | _ | _) | _ <;> first | exact z | exact z.elim
theorem a15 {od:Option Obj} (hx:XCls K C):findObj K C od "__class__" = some (.bind (.builtin "getset_descriptor.__get__") (.builtin "object.__class__")):=by
 obtain ⟨cd,hc,_⟩:=any_some hx.hd
 unfold findObj
 rw [hc,Option.bind_some,hx.cl,Option.bind_some]
 dsimp only
 rw [hx.cg,Option.bind_some]
 dsimp only
 rw [hx.ct]
 rfl
theorem c05 {R:Option Value->Shared->Prop} (X:K.In s.heap) (I:InstAt s.heap x ox C od) (hx:XCls K C) (h:R (some (.ref C)) { s with toks:=s.toks+1 }):wpAny (model prog w) A (getAttr? (.ref x) "__class__") R E s:=by
 have hf:=a15 (od:=od) hx
 obtain ⟨hp,g,d,t,os⟩:=s
 have L0:=I.type (M:=model prog w)
 have L3:=looks_find (M:=model prog w) X I hf
 unfold getAttr? getAttrBy?
 refine wpAny_bind (wpAny_mkText (wpAny_bind (wpAny_attempt (c0m (s:=⟨hp,g,d,t+1,os⟩) X I hx ?_))))
 refine wpAny_bind (wpAny_pure (wpAny_bind (wpAny_pure (wpAny_bind (L0.at (wpAny_bind (L3.at ?_)))))))
 show wpAny _ _ (holding [.builtin "object.__class__"] (call (.builtin "getset_descriptor.__get__") [.builtin "object.__class__",.ref x,.ref C]) >>= ret) _ _ _
 refine wpAny_bind (wpAny_holding (wpAny_call (class_get (s:=⟨hp,g,d,t+1,os⟩) (ox:=ox) (od:=od) X I hx.ob ?_)))
 refine wpAny_pure ?_
 show wpAny _ _ (handedOut (.ref C)) _ _ _
 exact handed_on rfl (wpAny_pure h)
theorem c5d (hx:XCls K C):KitX K (.ref x) (.ref C) (λh=>∃ ox od,InstAt h x ox C od) where
 ty:=λ_ _ _ ⟨_,_,I⟩=>I.type
 it:=λ_ _ X _=>by
  obtain ⟨cd,hc,_⟩:=any_some hx.hd
  unfold clsIn at hc
  split at hc
  ·rename_i oc odd cd' sl ho
   exact λA' Q' E' s' k q=>by
    unfold isType loadHead
    exact wpAny_bind (wpAny_loadPart (k _ _ (X _ _ ho)) (wpAny_pure q))
  ·cases hc
 ne:=λh tp dd its n sl X htp=>by
  obtain ⟨cd,hc,_⟩:=any_some hx.hd
  refine Bool.eq_false_iff.mpr λq=>?_
  obtain rfl:C=tp:=Value.ref.inj (beq_iff_eq.mp q)
  unfold clsIn at hc
  split at hc
  ·rename_i oc odd cd' sl ho
   have z:=(X _ _ ho).symm.trans htp
   cases z
  ·cases hc
 ca:=λX ⟨_,_,I⟩ k=>c05 X I hx k
end
noncomputable def v5:List Value->Bool
 | .ref _ :: r=>v5 r
 | l=>l==[.type "ValueError",.type "Exception",.type "BaseException",.type "object"]
theorem C9 (self:Value):∀ {l:List Value},v5 l=true->refuseLoop self "__setattr__" l=pure ()
 | .ref c :: r,e=>by rw [refuseLoop_ref];exact C9 self e
 | [],e=>by cases e
 | .none :: r,e=>by cases e
 | .type n :: r,e=>by rw [show (Value.type n :: r)=_ from beq_iff_eq.mp e];exact PySem.F.store_ValueError.passes self
 | .bool _ :: _,e=>by cases e
 | .int _ _ :: _,e=>by cases e
 | .str _ _ :: _,e=>by cases e
 | .bytes _ _ :: _,e=>by cases e
 | .float _ _ :: _,e=>by cases e
 | .builtin _ :: _,e=>by cases e
 | .ellipsis :: _,e=>by cases e
 | .notImplemented :: _,e=>by cases e
section
variable {prog:Program} {w:World} {A:Around} {E:Value->Shared->Prop} {s:Shared} {K:Frag} {x C:Addr} {ox:Obj} {od:Option Obj} {name:Str} {R:Result->Shared->Prop} {v:Value}
theorem c32 {tk:Tok} (X:K.In s.heap) (I:InstAt s.heap x ox C od) (hx:XCls K C) (hv:(clsIn K C).any (λcd=>v5 cd.mro)=true) (hn:findIn K (.ref C) name=some none)
  (h:∀ b,wpAny (model prog w) A.in1 (storeInOwnDict (.ref x) (.ref C) (.str name tk) name v b) (λfin s'=>match fin with | .done f=>R (.ok f) s' | .again c'=>c'.quiet=true/\codeAny (model prog w) A c' R s') (λe s'=>R (.error e) s') s) :
  codeAny (model prog w) A (.call (.builtin "object.__setattr__") ⟨[.ref x,.str name tk,v],[]⟩) R s:=by
 have SF:=PySem.F.store_object
 obtain ⟨cd,hc,ho⟩:=any_some hv
 have sub:Looks (model prog w) s.heap (isInstance (.ref x) (.type "object")) true:=I.type.andThen (looks_mroIn X hx.ob)
 have hm:Looks (model prog w) s.heap (mroOf (.ref C)) cd.mro:=(looks_clsIn X hc).andThen .now
 refine codeAny_call_builtin SF.slot.plain SF.entry (@check_slot (model prog w) _ _ s "object.__setattr__" "object" "__setattr__" (.ref x) [.str name tk,v] [] _ SF.kind SF.split sub (SF.args (.ref x) (.str name tk) v) ?_)
 rw [osa_eq,refuse_eq]
 refine wpAny_bind (wpAny_bind (I.type.here (wpAny_bind (hm.here ?_))))
 rw [C9 _ ho]
 exact wpAny_pure (wpAny_bind (I.type.here (wpAny_bind ((looks_findIn X hn).here (wpAny_bind (wpAny_pure (h _)))))))
noncomputable def tbV:Option Addr->Value
 | none=>.none
 | some T=>.ref T
def IsX (fr:Option Addr) (h:Heap) (x C:Addr) (d:Option Addr):Prop:=∃ vs,h.get? x=some { cls:=.ref C,dict:=d,data:=.fields vs }/\vs.size=6/\vs[1]?=some (tbV fr)
theorem IsX.inst0 {fr:Option Addr} {h:Heap} (i:IsX fr h x C none):∃ ox,InstAt h x ox C none:=by
 obtain ⟨vs,e,_⟩:=i
 exact ⟨_,e,rfl,rfl,True.intro⟩
theorem IsX.inst1 {fr:Option Addr} {h:Heap} {d:Addr} (i:IsX fr h x C (some d)) {o:Obj} (hd:h.get? d=some o):∃ ox,InstAt h x ox C (some o):=by
 obtain ⟨vs,e,_⟩:=i
 exact ⟨_,e,rfl,rfl,hd⟩
theorem c4q {fr:Option Addr} {Q:Unit->Shared->Prop} (X:K.In s.heap) (i:IsX fr s.heap x C none) (hx:XCls K C) (hv:(clsIn K C).any (λcd=>v5 cd.mro)=true) (hs:findIn K (.ref C) "__setattr__" = some (some (.builtin "object.__setattr__"))) (hn:findIn K (.ref C) name=some none)
  (h:∀ h' t',IsX fr h' x C (some s.heap.objs.size)->h'.Ns1 s.heap.objs.size (λy=>if y=name then some v else none)->(∀ b o,b≠x->s.heap.get? b=some o->h'.get? b=some o)->Q () { s with heap:=h',toks:=t' }):wpAny (model prog w) A (setAttr (.ref x) name v) Q E s:=by
 obtain ⟨ox,I⟩:=i.inst0
 obtain ⟨vs,hxo,hsz⟩:=i
 obtain ⟨cd,hc,hd⟩:=any_some hx.hd
 refine set_plain X I hs (c32 (s:={ s with toks:=s.toks+1 }) X I hx hv hn λb=>?_)
 refine wpAny_bind (wpAny_pure (wpAny_bind (wpAny_bind (wpAny_loadPart hxo (wpAny_bind (Looks.here (s:={ s with toks:=s.toks+1 }) (looks_clsIn X hc) ?_))))))
 rw [hd]
 have hxs:x≠s.heap.objs.size:=Nat.ne_of_lt (Heap.lt_size hxo)
 have hx1:(s.heap.push { cls:=.type "dict",data:=.dict #[] }).get? x=some { cls:=.ref C,data:=.fields vs }:=Heap.get?_push_of_some _ hxo
 refine wpAny_bind (wpAny_alloc (wpAny_bind (wpAny_update hx1 (wpAny_pure (a:=some s.heap.objs.size) ?_))))
 have e0:((s.heap.push { cls:=.type "dict",data:=.dict #[] }).update x λo=>{ cls:=o.cls,dict:=some s.heap.objs.size,data:=o.data,slots:=o.slots }).get? s.heap.objs.size=some { cls:=.type "dict",data:=.dict #[] }:=
  (Heap.get?_update_ne _ _ _ _ hxs.symm).trans (Heap.get?_push_at rfl rfl)
 have e1:((s.heap.push { cls:=.type "dict",data:=.dict #[] }).update x λo=>{ cls:=o.cls,dict:=some s.heap.objs.size,data:=o.data,slots:=o.slots }).get? x=some { cls:=.ref C,dict:=some s.heap.objs.size,data:=.fields vs }:=
  Heap.get?_update_self _ hx1 rfl
 have e2:∀ b o,b≠x->s.heap.get? b=some o->((s.heap.push { cls:=.type "dict",data:=.dict #[] }).update x λo=>{ cls:=o.cls,dict:=some s.heap.objs.size,data:=o.data,slots:=o.slots }).get? b=some o:=
  λb o hb e=>(Heap.get?_update_ne _ _ _ _ hb).trans (Heap.get?_push_of_some _ e)
 have n0:((s.heap.push { cls:=.type "dict",data:=.dict #[] }).update x λo=>{ cls:=o.cls,dict:=some s.heap.objs.size,data:=o.data,slots:=o.slots }).Ns s.heap.objs.size (λ_=>none):=
  ⟨_,#[],_,e0,rfl,λe he=>absurd he (by simp),λ_=>rfl⟩
 generalize ((s.heap.push { cls:=.type "dict",data:=.dict #[] }).update x λo=>{ cls:=o.cls,dict:=some s.heap.objs.size,data:=o.data,slots:=o.slots })=h1 at e0 e1 e2 n0 ⊢
 show wpAny _ _ (storeInDict s.heap.objs.size (.str name s.toks) name v) _ _ _
 unfold storeInDict newKeyGuard
 refine wpAny_bind (wpAny_pure (wpAny_bind (wpAny_nsSet1 (Heap.Ns1.of_empty n0) λh' hn' hs'=>?_)))
 obtain ⟨oD,esD,epD,hoD,hdD,hcD⟩:=hn'.count (Within.cons name v Within.nil)
 refine wpAny_bind (wpAny_lookBehind hoD (by rw [hdD];exact pastItsLine_dict (Nat.le_trans hcD (by rw [List.length_cons,List.length_nil,sizeLine_eq];omega))) (wpAny_pure ?_))
 exact h h' _ ⟨vs,(hs'.2 x hxs).trans e1,hsz⟩ hn' λb o hb e=>(hs'.2 b (Nat.ne_of_lt (Heap.lt_size e))).trans (e2 b o hb e)
theorem c47 {fr:Option Addr} {Q:Unit->Shared->Prop} {d:Addr} {mA:Str->Option Value} {ns:List Str} (X:K.In s.heap) (i:IsX fr s.heap x C (some d)) (hd:s.heap.Ns1 d mA) (hdx:d≠x) (hx:XCls K C) (hv:(clsIn K C).any (λcd=>v5 cd.mro)=true) (hs:findIn K (.ref C) "__setattr__" = some (some (.builtin "object.__setattr__"))) (hn:findIn K (.ref C) name=some none)
  (hw:Within mA ns) (hz:ns.length<=1000)
  (h:∀ h' t',h'.Ns1 d (λy=>if y=name then some v else mA y)->Heap.SameBut d s.heap h'->Q () { s with heap:=h',toks:=t' }):wpAny (model prog w) A (setAttr (.ref x) name v) Q E s:=by
 obtain ⟨od,hod,hl⟩:=Z4 hd
 obtain ⟨ox,I⟩:=i.inst1 hod
 obtain ⟨vs,hxo,hsz⟩:=i
 obtain ⟨cd,hc,hd'⟩:=any_some hx.hd
 refine set_plain X I hs (c32 (s:={ s with toks:=s.toks+1 }) X I hx hv hn λb=>?_)
 refine wpAny_bind (wpAny_pure (wpAny_bind (wpAny_bind (wpAny_loadPart hxo (wpAny_bind (Looks.here (s:={ s with toks:=s.toks+1 }) (looks_clsIn X hc) ?_))))))
 rw [hd']
 refine wpAny_pure (a:=some d) ?_
 show wpAny _ _ (storeInDict d (.str name s.toks) name v) _ _ _
 unfold storeInDict newKeyGuard
 refine wpAny_bind (wpAny_pure (wpAny_bind (wpAny_nsSet1 (s:={ s with toks:=s.toks+1 }) hd λh' hn' hs'=>?_)))
 obtain ⟨oD,esD,epD,hoD,hdD,hcD⟩:=hn'.count (Within.cons name v hw)
 refine wpAny_bind (wpAny_lookBehind hoD (by rw [hdD];exact pastItsLine_dict (Nat.le_trans hcD (by rw [List.length_cons,sizeLine_eq];omega))) (wpAny_pure ?_))
 exact h h' _ hn' hs'
end
section
variable {prog:Program} {w:World} {A:Around} {E:Value->Shared->Prop} {s:Shared} {K:Frag} {x C:Addr} {d:Option Addr} {R:Result->Shared->Prop} {y:Value}
theorem c2m {fr:Option Addr} (X:K.In s.heap) (i:IsX fr s.heap x C d) (ex:Q2 K C=true)
  (h:∀ h',(∀ b o,b≠x->s.heap.get? b=some o->h'.get? b=some o)->IsX fr h' x C d->R (.ok (.ret .none)) { s with heap:=h' }) :
  codeAny (model prog w) A (.call (.builtin "ValueError.__init__") ⟨[.ref x,y],[]⟩) R s:=by
 have F:=PySem.F.excBase_ValueError
 obtain ⟨vs,hxo,hsz,hfr⟩:=i
 have L0:Looks (model prog w) s.heap (typeOf (.ref x)) (.ref C):=(Looks.ld hxo).andThen .now
 have Y:=A5 (M:=model prog w) X ex
 have sub:Looks (model prog w) s.heap (isInstance (.ref x) (.type "ValueError")) true:=L0.andThen Y.isV
 obtain ⟨oc,odc,cd,sl,hC,_,_⟩:=Y.obj
 have star:=F.noStar
 refine codeAny_call_builtin F.init.plain F.initEntry ?_
 simp only [checkBuiltinCall,F.initKind,F.initSplit,F.initRow]
 refine wpAny_bind (sub.here ?_)
 simp only [Bool.not_true,Bool.false_eq_true,if_false]
 have e1:(s.heap.push { cls:=.type "tuple",data:=.seq #[y] }).get? x=some { cls:=.ref C,dict:=d,data:=.fields vs }:=Heap.get?_push_of_some _ hxo
 obtain ⟨v0,h0⟩:∃ v0,vs[0]?=some v0:=⟨vs[0]'(by omega),Array.getElem?_eq_getElem _⟩
 have fin:R (.ok (.ret .none)) { s with heap:=(s.heap.push { cls:=.type "tuple",data:=.seq #[y] }).update x (Obj.mapFields (·.setIfInBounds 0 (.ref s.heap.objs.size))) }:=by
  refine h _ (λb o hb e=>(Heap.get?_update_ne _ _ _ _ hb).trans (Heap.get?_push_of_some _ e)) ⟨vs.setIfInBounds 0 (.ref s.heap.objs.size),Heap.get?_update_self _ e1 rfl,?_⟩
  rw [Array.size_setIfInBounds]
  exact ⟨hsz,by rw [Array.getElem?_setIfInBounds_ne (by decide)];exact hfr⟩
 unfold Bind.checkArgs
 repeat lk
 rw [h0]
 refine wpAny_pure (wpAny_bind (wpAny_setField e1 rfl (by omega) ?_))
 cases v0 <;> first | exact wpAny_pure (wpAny_pure fin) | exact wpAny_letGo (wpAny_pure fin)
end
end L2
namespace L2
open PySem PySem.Spec PyProof.Rows
noncomputable def M9 (fr:Option Addr) (x C:Addr) (d:Option Addr):HO:=.ext λh=>IsX fr h x C d
noncomputable abbrev J0 (x C:Addr) (d:Option Addr):HO:=M9 none x C d
noncomputable def E9 (d:Addr) (fs:List (Str×V)):HO:=.ext λh=>∃ mA,h.Ns1 d mA/\(∀ f,RelO (fs.lookup f) (mA f))/\PySem.Within mA (fs.map (·.1))/\fs.length<=900
theorem okX {fr:Option Addr} {P:Program} {w:World} {H:Hp} {h:Heap} {x C:Addr} {d:Option Addr} (i:IsX fr h x C d):ObjOk P w H h x (M9 fr x C d):=by
 obtain ⟨vs,e,z⟩:=id i
 refine ⟨i,⟨_,e⟩,λh1 h2 ⟨vs1,e1,z1⟩ k=>⟨vs1,k _ e1,z1⟩⟩
theorem okD {P:Program} {w:World} {H:Hp} {h:Heap} {d:Addr} {fs:List (Str×V)} {mA:Str->Option Value} (n:h.Ns1 d mA) (r:∀ f,RelO (fs.lookup f) (mA f)) (wi:PySem.Within mA (fs.map (·.1))) (l:fs.length<=900):ObjOk P w H h d (E9 d fs):=by
 obtain ⟨o,es,ep,e,q⟩:=id n
 exact ⟨⟨mA,n,r,wi,l⟩,⟨o,e⟩,λh1 h2 ⟨m1,n1,r1,w1,l1⟩ k=>⟨m1,n1.at k,r1,w1,l1⟩⟩
structure XC (K:PySem.W.Frag) (C:Addr):Prop where
 xc:XCls K C
 ex:Q2 K C=true
 vm:(PySem.W.clsIn K C).any (λcd=>v5 cd.mro)=true
 sa:PySem.W.findIn K (.ref C) "__setattr__" = some (some (.builtin "object.__setattr__"))
 kp:PySem.W.keepIn K (.ref C)=true
section
variable {X:Cx} {pins:List (Addr×Obj)} {σ:St} {H:Hp} {s:Shared} {x C:Addr}
theorem Inv.isX {fr:Option Addr} {d:Option Addr} (I:Inv X pins σ H s) (e:H x=some (M9 fr x C d)):IsX fr s.heap x C d:=(I.hok x _ e).1
theorem Inv.isD {d:Addr} {fs:List (Str×V)} (I:Inv X pins σ H s) (e:H d=some (E9 d fs)):∃ mA,s.heap.Ns1 d mA/\(∀ f,RelO (fs.lookup f) (mA f))/\PySem.Within mA (fs.map (·.1))/\fs.length<=900:=(I.hok d _ e).1
theorem Inv.madeX {us:List Value} (I:Inv X pins σ H s):Inv X pins σ (upd H (s.heap.objs.size+1) (J0 (s.heap.objs.size+1) C none)) { s with heap:=(s.heap.push (A3 us)).push (v6 C s.heap.objs.size) }:=by
 have e2:((s.heap.push (A3 us)).push (v6 C s.heap.objs.size)).get? (s.heap.objs.size+1)=some (v6 C s.heap.objs.size):=by
  have:=Heap.get?_push_size (s.heap.push (A3 us)) (o:=v6 C s.heap.objs.size) rfl
  rwa [Heap.size_push] at this
 exact I.laid (a:=s.heap.objs.size+1) (t':=s.toks) (λb u q=>Heap.get?_push_of_some _ (Heap.get?_push_of_some _ q)) (Nat.le_succ _) (okX ⟨_,e2,rfl,rfl⟩)
end
def b8e (C:Addr) (sp:Sp) (E:XK) (t:TA):TE:=λσ H Q=>t σ H λvs H1=>vs.length<=1000/\∀ x,H1 x=none->sp (.ref x :: vs) (upd H1 x (J0 x C none)) (λv H2=>v=.non/\Q (.ref x) H2) E
section
variable {X:Cx} {CX:CXT} {k:Nat} {f C:Addr} {fd:FuncData} {ps:List Str} {sp:Sp} {E:XK} {nm:Str} {p pos:Pos} {e:Expr} {es:List Expr} {t:TA}
theorem T5 (M:XC X.K C) (hi:PySem.W.findIn X.K (.ref C) "__init__" = some (some (.ref f))) (hf:PySem.W.isFn X.K (.ref f)=true) (F:FnOk X.prog X.w X.K X.mg X.base CX k f fd ps sp) (hr:Room CX.q (k+1) X.A) (hg:Gl X nm) (hm:X.mg nm=some (.ref C)) (hb:Binds X.K fd ps []) (hx:A0 CX X E)
  (ha:PA X (e :: es) t) (hdb:(nm==("__debug__" : Str))=false:=by decide) (he:starEach (e :: es) X.env=(false,eval e X.env) :: starEach es X.env:=by rfl) (hpl:(backTo pos (starEach es X.env)).any (·.1)=false:=by rfl) :
  PE X (.Call (.Name nm p) (e :: es) [] pos) (b8e C sp E t):=by
 intro pins s σ H Q I h
 refine wpAny_Call_Name_kw (C6 I hg hm ?_ hdb)
 refine PySem.W.callWith_K (h₀:=X.base) I.ok.mod.kin M.kp (thn (ha pos pins s σ H _ I h) λus s1 ⟨vs,H1,I1,r,hl,q⟩=>⟨I1.kIn,?_⟩) he hpl
 have hq:=q (s1.heap.objs.size+1) (I1.hok.fresh (Nat.le_succ _))
 have I2:=Inv.madeX (C:=C) (us:=us) I1
 have r2:Vals (V.ref (s1.heap.objs.size+1) :: vs) (Value.ref (s1.heap.objs.size+1) :: us):=.cons rfl r
 have hlen:(Value.ref (s1.heap.objs.size+1) :: us++[]).length=ps.length:=by
  have e:=r2.length
  rw [F.len _ _ _ _ hq] at e
  simpa using e.symm
 have hus:us.length<=sizeLine:=by
  have:=r.length
  have z:(1000:Nat)<=sizeLine:=by decide
  omega
 have hb2:=hb _ (Value.ref (s1.heap.objs.size+1) :: us) I2.kIn hlen
 rw [List.append_nil] at hb2
 refine wpAny_call (c4z (f:=f) (A5 I1.kIn M.ex) (PySem.W.looks_findIn I1.kIn hi) (λself=>PySem.W.bind_fn I1.kIn self (beq_iff_eq.mp hf)) hus
  (codeAny_mono (F.run _ X.stack _ _ ⟨Value.ref (s1.heap.objs.size+1) :: us,[]⟩ _ _ _ E (hr.make C us []) (I2.env0.make C us []) hb2 r2 hq) λr s' hq'=>?_))
 cases r with
 | error e=>exact hx pins σ _ _ e s' I2 hq'
 | ok fl=>
  cases fl with
  | ret u=>
   obtain ⟨v,H',I3,rv,ev,q3⟩:=I2.after hq'
   subst ev
   exact ⟨rv,⟨V.ref (s1.heap.objs.size+1),H',I3,rfl,q3⟩⟩
  | next=>exact False.elim hq'
  | brk=>exact False.elim hq'
  | cont=>exact False.elim hq'
end
theorem a9u {H:Hp} {x:Addr} {o:HO} (h:H x=some o):upd H x o=H:=funext λb=>by
 by_cases e:b=x
 ·subst e;rw [b8,h]
 ·rw [a8 e]
def c1h (K:PySem.W.Frag) (ta tv:TE) (f:Str):TS:=λD σ H=>tv σ H λy H1=>ta σ H1 λxv H2=>∃ x C,xv=.ref x/\XC K C/\t7 K C f /\
 ((H2 x=some (J0 x C none)/\∀ d,H2 d=none->D.nx σ (upd (upd H2 d (E9 d [(f,y)])) x (J0 x C (some d)))) \/
 ∃ d fs,d≠x/\H2 x=some (J0 x C (some d))/\H2 d=some (E9 d fs)/\fs.length<900/\D.nx σ (upd H2 d (E9 d (I0 f y fs))))
section
variable {X:Cx} {o e value:Expr} {f:Str} {pos pos':Pos} {ta tv:TE}
theorem b4u (ha:PE X o ta) (hv:PE X value tv) (hs:swapsWith value (some (.Attribute o f pos')) pos.line X.env=pure false):PS X (.Assign [.Attribute o f pos'] value pos) (c1h X.K ta tv f):=by
 intro pins s σ H D I h
 refine plainObj_wpAny_Assign_Attribute (thn (hv pins s σ H _ I h) λu s1 ⟨y,H1,I1,ry,q⟩=>thn (ha pins s1 σ H1 _ I1 q) λov s2 ⟨xv,H2,I2,rx,x,C,ex,M,n,q2⟩=>?_) hs
 subst ex
 obtain rfl:ov=Value.ref x:=rx
 rcases q2 with ⟨e0,q2⟩ | ⟨d,fs,hdx,e0,e1,hl,q2⟩
 ·have i0:=I2.isX e0
  obtain ⟨vs0,hx0,_⟩:=id i0
  have nd:H2 s2.heap.objs.size=none:=I2.hok.fresh (Nat.le_refl _)
  have hne:s2.heap.objs.size≠x:=Nat.ne_of_gt (Heap.lt_size hx0)
  refine c4q I2.kIn i0 M.xc M.vm M.sa n λh' t' i1 n1 k1=>?_
  obtain ⟨vs1,hx1,_⟩:=id i1
  obtain ⟨oD,esD,epD,hoD,rD⟩:=id n1
  have m1:(h'.update x λ_=>{ cls:=.ref C,data:=.fields vs0 }).get? x=some { cls:=.ref C,data:=.fields vs0 }:=Heap.get?_update_self _ hx1 rfl
  have m2:∀ b,b≠x->(h'.update x λ_=>{ cls:=.ref C,data:=.fields vs0 }).get? b=h'.get? b:=λb hb=>Heap.get?_update_ne _ _ _ _ hb
  have I3:Inv X pins σ (upd H2 s2.heap.objs.size (E9 s2.heap.objs.size [(f,y)])) { s2 with heap:=h'.update x λ_=>{ cls:=.ref C,data:=.fields vs0 },toks:=t' }:=by
   refine I2.laid (λb ob e=>?_) (Nat.le_refl _) (okD (mA:=λz=>if z=f then some u else none) (n1.at λob e=>(m2 _ hne).trans e) (λg=>?_) (λg hg=>?_) (by show 1<=900;decide))
   ·by_cases hb:b=x
    ·subst hb;rw [hx0] at e;cases e;exact m1
    ·exact (m2 b hb).trans (k1 b ob hb e)
   ·show RelO (List.lookup g [(f,y)]) (if g=f then some u else none)
    rw [List.lookup_cons,List.lookup_nil]
    by_cases q:g=f
    ·subst q;rw [if_pos rfl,show (g==g)=true from by simp];exact ry
    ·have:(g==f)=false:=by simpa using q
     rw [this,if_neg q];exact True.intro
   ·by_cases q:g=f
    ·subst q;exact List.mem_cons_self
    ·exact absurd (if_neg q) hg
  have I4:=I3.write (h':=h') (t':=t') (x:=x) (e:=x) (o:=J0 x C (some s2.heap.objs.size)) (by rw [a8 hne.symm,e0];exact True.intro) (.inl rfl) (λb ob hb e=>((m2 b hb).symm.trans e)) ⟨_,hx1⟩ (okX i1)
  exact ⟨σ,_,I4,q2 _ nd⟩
 ·obtain ⟨mA,n0,r0,w0,l0⟩:=I2.isD e1
  refine c47 I2.kIn (I2.isX e0) n0 hdx M.xc M.vm M.sa n w0 (by rw [List.length_map];omega) λh' t' n1 sb=>?_
  obtain ⟨oD,esD,epD,hoD,rD⟩:=id n1
  refine ⟨σ,_,I2.write (t':=t') (x:=d) (e:=d) (o:=E9 d (I0 f y fs)) (by rw [e1];exact True.intro) (.inl rfl) (λb ob hb e=>(sb.2 b hb).trans e) ⟨_,hoD⟩ (okD n1 (λg=>?_) (λg hg=>?_) ?_),q2⟩
  ·show RelO ((I0 f y fs).lookup g) (if g=f then some u else mA g)
   rw [P4]
   by_cases q:g=f
   ·rw [if_pos q,if_pos q];exact ry
   ·rw [if_neg q,if_neg q];exact r0 g
  ·by_cases q:g=f
   ·rw [q];exact (N6 f y fs).1
   ·exact (N6 f y fs).2 g (w0 g λz=>hg (by show (if g=f then some u else mA g)=none;rw [if_neg q];exact z))
  ·have:=Q0 f y fs;omega
noncomputable def c13:V->Option Value
 | .ref a=>some (.ref a)
 | .ty n=>some (.type n)
 | _=>none
theorem X9:j9 X (.builtin "isinstance") (λxs H Q=>∃ fr x C d y c b,xs=[.ref x,y]/\XC X.K C/\H x=some (M9 fr x C d)/\(∀ d',d=some d'->∃ fs,H d'=some (E9 d' fs))/\c13 y=some c/\PySem.W.kitOne X.K (.ref C) c=some b/\Q (.bl b) H):=by
 intro pins s σ H xs us Q I r h
 obtain ⟨fr,x,C,d,y,c,b,rfl,M,e0,hd,hc,hk,q⟩:=h
 obtain ⟨u,u2,rfl,ru,ru2⟩:=b2h r
 cases (show u=Value.ref x from ru)
 have e2:u2=c:=by
  cases y <;> first | (cases hc;exact ru2) | cases hc
 subst e2
 have J:∃ ox od,PySem.W.InstAt s.heap x ox C od:=by
  cases d with
  | none=>obtain ⟨ox,J⟩:=(I.isX e0).inst0;exact ⟨ox,_,J⟩
  | some d'=>
   obtain ⟨fs,e1⟩:=hd d' rfl
   obtain ⟨mA,n0,_⟩:=I.isD e1
   obtain ⟨od,hod,_⟩:=Z4 n0
   obtain ⟨ox,J⟩:=(I.isX e0).inst1 hod
   exact ⟨ox,_,J⟩
 exact PySem.W.kia_one (c5d M.xc) I.kIn J hk (λz=>nomatch z) λtk=>⟨.bl b,H,I.tok _,rfl,q⟩
end
noncomputable def TbO (T:Addr):HO:=.ext λh=>∃ o ts,h.get? T=some o/\o.data=.fields ts/\3<ts.size
theorem okT {P:Program} {w:World} {H:Hp} {h:Heap} {T:Addr} {o:Obj} {ts:Array Value} (e:h.get? T=some o) (d:o.data=.fields ts) (z:3<ts.size):ObjOk P w H h T (TbO T):=
 ⟨⟨o,ts,e,d,z⟩,⟨o,e⟩,λh1 h2 ⟨o,ts,e,d,z⟩ k=>⟨o,ts,k _ e,d,z⟩⟩
structure Fx (K:PySem.W.Frag) (H:Hp) (a C:Addr) (d tb:Option Addr):Prop where
 xc:XC K C
 at_:H a=some (M9 tb a C d)
 dc:∀ d',d=some d'->d'≠a/\∃ fs,H d'=some (E9 d' fs)
 tb_:∀ T,tb=some T->T≠a/\H T=some (TbO T)
def Mv (H:Hp) (a C:Addr) (d:Option Addr) (H':Hp):Prop:=(∀ b o,b≠a->H b=some o->H' b=some o)/\∃ tb,H' a=some (M9 tb a C d)
section
variable {X:Cx} {pins:List (Addr×Obj)} {σ:St} {H:Hp} {s:Shared} {a C T:Addr} {d tb:Option Addr} {A:Around} {E:Value->Shared->Prop} {Q:Unit->Shared->Prop}
theorem Inv.slots {h':Heap} (I:Inv X pins σ H s) (hs:Heap.SlotsOnly (frs X.stack) s.heap h'):Inv X pins σ H { s with heap:=h' }:=by
 have k:∀ b u,H b≠none->s.heap.get? b=some u->h'.get? b=some u:=λb u n e=>(hs.2.1 b λz=>n (I.stkFree b z)).trans e
 have un:Un (frs X.stack) [] H H s.heap h':=⟨λb o e _ nf _=>(hs.2.1 b nf).trans e,λb o e _ _ _=>hs.2.2 b o e,λ_ _ _ n _=>n,λb o e _=>let ⟨sl,q⟩:=hs.2.2 b o e;⟨_,q⟩,λ_ _ e=>e,λ_ _ _ e=>e,λb ps e=>⟨#[],by rw [e];simp⟩⟩
 have hk:HOk X.prog X.w H h':=λb u e=>(I.hok b u e).stay (λc v hc q=>k c v (by
  rcases hc with hc | hc
  ·rw [hc,e];simp
  ·rw [hc];simp) q) (λ_ q=>q) λ_ _ q=>q
 exact I.call (g':=s.gens) (d':=s.drawn) (t':=s.toks) (ch:=[]) un hk I.bare λb z=>absurd z (by simp)
theorem Fx.isX (fx:Fx X.K H a C d tb) (I:Inv X pins σ H s):IsX tb s.heap a C d:=I.isX fx.at_
theorem Inv.setTb {v:Value} (I:Inv X pins σ H s) (e:H T=some (TbO T)) (k:Inv X pins σ H { s with heap:=s.heap.update T (Obj.mapFields (·.setIfInBounds 3 v)) }->Q () { s with heap:=s.heap.update T (Obj.mapFields (·.setIfInBounds 3 v)) }) :
  wpAny (model X.prog X.w) A (setField (.ref T) 3 v) Q E s:=by
 obtain ⟨o,ts,e1,e2,z⟩:=(I.hok T _ e).1
 refine wpAny_setField e1 e2 z (k ?_)
 have hd:=Obj.data_mapFields e2 (·.setIfInBounds 3 v)
 have hu:=Heap.get?_update_self (Obj.mapFields (·.setIfInBounds 3 v)) e1 (Obj.isFreed_of_fields hd)
 have I2:=I.write (h':=s.heap.update T (Obj.mapFields (·.setIfInBounds 3 v))) (t':=s.toks) (x:=T) (e:=T) (o:=TbO T) (by rw [e];exact True.intro) (.inl rfl) (λb u n q=>(Heap.get?_update_other _ _ (Ne.symm n)).trans q) ⟨_,hu⟩ (okT hu hd (by simpa using z))
 rw [a9u e] at I2
 exact I2
theorem a3m {hadNext:Bool} {head:Value} (I:Inv X pins σ H s) (hA:A.frames=some X.stack) (hst:X.stack=X.env :: X.outer) (hf:X.env.frame=some X.env.locals) (fx:Fx X.K H a C d tb)
  (h:∀ H' s' T,Inv X pins σ H' s'->Fx X.K H' a C d (some T)->Mv H a C d H'->Q () s') :
  wpAny (model X.prog X.w) A (do let fr <- frameOf X.env;let pl <- entryPlaceOf X.env.locals hadNext;let b <- EntryCells.newEntry head fr .none (rawInt X.env.locals) .none pl;setField (.ref a) 1 b) Q E s:=by
 have hl:=I.stack
 rw [hst] at hl hA
 refine wpAny_bind (wpAny_frameOf_fun hA hl hf λh₁ hs₁=>?_)
 have I1:Inv X pins σ H { s with heap:=h₁ }:=I.slots (by rw [hst];exact hs₁)
 refine wpAny_bind (wpAny_entryPlaceOf λpl hpl=>?_)
 unfold EntryCells.newEntry newFields
 refine wpAny_bind (wpAny_newObj_type ?_ (hpl.sizeOk5 _ _ _ _ _))
 have e0:=Heap.get?_push_size h₁ (o:={ cls:=.type "traceback",dict:=none,data:=.fields ([head,.ref X.env.locals,.none,rawInt X.env.locals,.none]++(if pl.isEmpty then List.replicate 6 Value.none else pl)).toArray }) rfl
 have I2:=I1.laid (h':=h₁.push { cls:=.type "traceback",dict:=none,data:=.fields ([head,.ref X.env.locals,.none,rawInt X.env.locals,.none]++(if pl.isEmpty then List.replicate 6 Value.none else pl)).toArray }) (a:=h₁.objs.size) (t':=s.toks) (o:=TbO h₁.objs.size) (λb u q=>Heap.get?_push_of_some _ q) (Nat.le_refl _)
  (okT e0 rfl (by simp only [List.size_toArray,List.length_append,List.length_cons,List.length_nil] <;> omega))
 have nT:H h₁.objs.size=none:=I1.hok.fresh (Nat.le_refl _)
 have hTa:h₁.objs.size≠a:=λz=>by rw [z,fx.at_] at nT;cases nT
 have e2:upd H h₁.objs.size (TbO h₁.objs.size) a=some (M9 tb a C d):=by rw [a8 hTa.symm];exact fx.at_
 generalize (h₁.push { cls:=.type "traceback",dict:=none,data:=.fields ([head,.ref X.env.locals,.none,rawInt X.env.locals,.none]++(if pl.isEmpty then List.replicate 6 Value.none else pl)).toArray })=h₂ at I2 ⊢
 obtain ⟨vs,hxo,hsz,hv⟩:=I2.isX e2
 refine wpAny_setField hxo rfl (by omega) ?_
 have hu:=Heap.get?_update_self (Obj.mapFields (·.setIfInBounds 1 (Value.ref h₁.objs.size))) hxo rfl
 have I3:=I2.write (h':=h₂.update a (Obj.mapFields (·.setIfInBounds 1 (Value.ref h₁.objs.size)))) (t':=s.toks) (x:=a) (e:=a) (o:=M9 (some h₁.objs.size) a C d) (by rw [e2];exact True.intro) (.inl rfl)
  (λb u n q=>(Heap.get?_update_other _ _ (Ne.symm n)).trans q) ⟨_,hu⟩ (okX ⟨_,hu,by simpa using hsz,by simp [tbV,hsz]⟩)
 refine h _ _ h₁.objs.size I3 ⟨fx.xc,b8,λd' z=>?_,λT z=>?_⟩ ⟨λb o n q=>?_,_,b8⟩
 ·obtain ⟨n,fs,q⟩:=fx.dc d' z
  exact ⟨n,fs,by rw [a8 n,a8 (b6 q nT)];exact q⟩
 ·cases z
  exact ⟨hTa,by rw [a8 hTa];exact b8⟩
 ·rw [a8 n,a8 (b6 q nT)];exact q
theorem a6f (I:Inv X pins σ H s) (hA:A.frames=some X.stack) (hst:X.stack=X.env :: X.outer) (hf:X.env.frame=some X.env.locals) (fx:Fx X.K H a C d tb)
  (h:∀ H' s' T,Inv X pins σ H' s'->Fx X.K H' a C d (some T)->Mv H a C d H'->Q () s'):wpAny (model X.prog X.w) A (noteFrame (.ref a) X.env) Q E s:=by
 obtain ⟨vs,hxo,hsz,hv⟩:=fx.isX I
 unfold noteFrame
 simp only [hf]
 cases tb with
 | none=>
  refine wpAny_bind (wpAny_field hxo rfl (x:=.none) hv ?_)
  rw [if_neg (by decide)]
  exact a3m I hA hst hf fx h
 | some T=>
  refine wpAny_bind (wpAny_field hxo rfl (x:=.ref T) hv ?_)
  rw [if_pos (show (Value.ref T != Value.none)=true from by simp)]
  obtain ⟨nT,eT⟩:=fx.tb_ T rfl
  obtain ⟨o,ts,e1,e2,z⟩:=(I.hok T _ eT).1
  refine wpAny_bind (wpAny_field e1 e2 (x:=ts[3]) (Array.getElem?_eq_getElem z) ?_)
  by_cases hq:(ts[3]==rawInt X.env.locals)=true
  ·rw [if_pos hq]
   exact wpAny_pure (h H s T I fx ⟨λb o _ q=>q,_,fx.at_⟩)
  ·rw [if_neg hq]
   exact wpAny_bind (I.setTb eT λI2=>a3m I2 hA hst hf fx h)
theorem F7 {fl:Option Addr} (I:Inv X pins σ H s) (fx:Fx X.K H a C d (some T)) (h:∀ s',Inv X pins σ H s'->Q () s'):wpAny (model X.prog X.w) A (setFlight (.ref a) fl) Q E s:=by
 obtain ⟨vs,hxo,hsz,hv⟩:=fx.isX I
 unfold setFlight
 refine wpAny_bind (wpAny_field hxo rfl (x:=.ref T) hv ?_)
 rw [if_pos (show (Value.ref T != Value.none)=true from by simp)]
 exact I.setTb (fx.tb_ T rfl).2 λI2=>h _ I2
theorem a3u (I:Inv X pins σ H s) (hA:A.frames=some X.stack) (hst:X.stack=X.env :: X.outer) (hf:X.env.frame=some X.env.locals) (fx:Fx X.K H a C d tb)
  (h:∀ H' s' T,Inv X pins σ H' s'->Fx X.K H' a C d (some T)->Mv H a C d H'->Q () s'):wpAny (model X.prog X.w) A (leaving X.env (.ref a)) Q E s:=by
 unfold leaving
 exact wpAny_bind (a6f I hA hst hf fx λH1 s1 T I1 fx1 m1=>F7 I1 fx1 λs2 I2=>h H1 s2 T I2 fx1 m1)
end
end L2
namespace L2
open PySem PySem.W PySem.Calls PySem.Spec PyProof.Rows
section
variable {prog:Program} {w:World} {A:Around} {E:Value->Shared->Prop} {s:Shared} {K:Frag} {env:PySem.Env}
theorem a06 {x:Sem Value} {Q:Flow->Shared->Prop} (hh:A.handled=none)
  (h:wpAny (model prog w) A x (λv s1=>∃ a C d,v=.ref a/\K.In s1.heap/\XC K C/\IsX none s1.heap a C d/\E (.ref a) s1) E s):wpAny (model prog w) A (raiseStmt env (some x) none) Q E s:=by
 unfold raiseStmt
 refine wpAny_bind (wpAny_mono h (λv s1 h1=>?_) λ_ _ x=>x)
 obtain ⟨a,C,d,rfl,X,M,⟨vs,hxo,hsz,hv⟩,hE⟩:=h1
 have Y:=A5 (M:=model prog w) X M.ex
 have L0:Looks (model prog w) s1.heap (typeOf (.ref a)) (.ref C):=(Looks.ld hxo).andThen .now
 have L1:Looks (model prog w) s1.heap (isType (.ref a)) false:=(Looks.ld hxo).andThen .now
 have L2:Looks (model prog w) s1.heap (isInstance (.ref a) (.type "BaseException")) true:=L0.andThen Y.isB
 have L3:=Y.ty
 unfold excFromValue isExcClass raisedInstance setFlight
 refine wpAny_bind (wpAny_pure (wpAny_bind (wpAny_holding (wpAny_bind (wpAny_bind (L1.here ?_))))))
 simp only [Bool.false_eq_true,if_false]
 refine wpAny_pure ?_
 simp only [Bool.false_eq_true,if_false]
 refine wpAny_bind (L2.here ?_)
 simp only [if_true]
 refine wpAny_pure (wpAny_bind (L1.here ?_))
 simp only [Bool.false_eq_true,if_false]
 refine wpAny_bind (wpAny_bind (L0.here (wpAny_bind (L3.here ?_))))
 rw [if_pos (by rfl)]
 refine wpAny_pure (wpAny_bind (wpAny_bind (wpAny_field hxo rfl (x:=.none) hv ?_)))
 rw [if_neg (by decide)]
 exact wpAny_pure (wpAny_raiseNew_none hh hE)
theorem a3t {a C T:Addr} {d tb:Option Addr} {b:Bool} {Q:Bool->Shared->Prop} (X:K.In s.heap) (M:XC K C) (MT:XC K T) (i:IsX tb s.heap a C d) (hk:kitOne K (.ref C) (.ref T)=some b) (h:Q b s) :
  wpAny (model prog w) A (excMatches (.ref a) (.ref T)) Q E s:=by
 obtain ⟨vs,hxo,hsz,hv⟩:=i
 have Y:=A5 (M:=model prog w) X M.ex
 have YT:=A5 (M:=model prog w) X MT.ex
 have L0:Looks (model prog w) s.heap (typeOf (.ref a)) (.ref C):=(Looks.ld hxo).andThen .now
 have LT:Looks (model prog w) s.heap (isInstance (.ref T) (.type "tuple")) false:=YT.ty.andThen (Looks.of_pure tc_notTuple)
 have LE:Looks (model prog w) s.heap (isExcClass (.ref T)) true:=YT.isT.andThen YT.isB
 have LS:Looks (model prog w) s.heap (isSubtype (.ref C) (.ref T)) b:=by
  unfold kitOne at hk
  by_cases e:((Value.ref C:Value)==.ref T)=true
  ·rw [if_pos e] at hk;cases hk
   cases (eq_of_beq e);exact Y.self
  ·rw [if_neg e] at hk
   exact (kit_cls X hk).2.2
 unfold excMatches
 refine wpAny_bind (LT.here ?_)
 simp only [Bool.false_eq_true,if_false]
 refine wpAny_bind (wpAny_pure ?_)
 rw [List.forIn_cons]
 refine wpAny_bind (wpAny_bind (wpAny_bind (LE.here ?_)))
 simp only [Bool.not_true,Bool.false_eq_true,if_false]
 refine wpAny_pure ?_
 dsimp only
 rw [List.forIn_nil]
 refine wpAny_pure (wpAny_bind (L0.here ?_))
 rw [List.forIn_cons]
 refine wpAny_bind (wpAny_bind (wpAny_bind (LS.here ?_)))
 cases b with
 | true=>exact wpAny_pure (wpAny_pure (wpAny_pure h))
 | false=>
  simp only [Bool.false_eq_true,if_false]
  refine wpAny_pure ?_
  dsimp only
  rw [List.forIn_nil]
  exact wpAny_pure (wpAny_pure h)
end
end L2
namespace L2
open PySem PySem.Spec PyProof.Rows
noncomputable def X5 (X:Cx) (v:Value):Cx:={ X with A:=X.A.mark (some v),calm:=false,xe:=λ_ _=>False }
section
variable {X:Cx} {pins:List (Addr×Obj)} {σ:St} {H:Hp} {s:Shared} {v:Value}
theorem Inv.hushed (I:Inv X pins σ H s) (v:Value):Inv (X5 X v) pins σ H s:=
 have ok:=I.ok
 ⟨⟨ok.mod,ok.kind,ok.glob,ok.blt,ok.above,ok.inj,ok.has,ok.cab,λz=>absurd (show (false:Bool)=true from z) (by decide),ok.frames,ok.stk,ok.exf,ok.bs,ok.bsz,ok.noex,ok.exfs,ok.funs,ok.frf⟩,I.os,I.bare,I.base,I.loc,I.cell,I.free,I.freeC,I.pin,I.hok,I.len⟩
theorem Inv.unhush (ok:X.Ok) (I:Inv (X5 X v) pins σ H s):Inv X pins σ H s:=⟨ok,I.os,I.bare,I.base,I.loc,I.cell,I.free,I.freeC,I.pin,I.hok,I.len⟩
theorem S8 {M:Model} {A:Around} {E:Value->Shared->Prop} {i:Nat} {x:Str} {pos:Pos} {Q:Unit->Shared->Prop} (I:Inv X pins σ H s) (hN:X.N.Nodup) (hi:X.N[i]?=some x) (hk:X.env.scope.names.lookup x=some .local)
  (h:∀ s',Inv X pins (σ.set i none) H s'->Q () s'):wpAny M A (do bindName X.env x .none;unbindBehindTheSuite X.env x pos) Q E s:=by
 obtain ⟨m,hn,hl⟩:=id I.loc
 have hcls:(X.env.scope.kind==.class||(X.env.scope.kind==.module&&X.env.locals != X.env.globals))=false:=by rw [I.ok.kind];rfl
 have hiσ:i<σ.length:=by rw [I.len];exact (List.getElem?_eq_some_iff.mp hi).1
 have cne:=I.cne
 refine wpAny_nameGoes_keeps hk hn hcls λh' v hn' hs=>?_
 have tracked:HOk X.prog X.w H h':=λb ob e=>by
  refine (I.hok b ob e).stay (λc w' hc q=>(hs.2 c ?_).trans q) (λ_ q=>q) λ_ _ q=>q
  rintro rfl
  rcases hc with hc | hc
  ·rw [<- hc,I.free] at e;cases e
  ·rw [I.free] at hc;cases hc
 refine h _ ⟨I.ok,I.os,I.bare,⟨λb o e n hb hx=>?_,λb o e n hb hx=>?_,I.base.free,λb o e hx=>?_,I.base.tups,I.base.frzs,I.base.tbls⟩,⟨_,hn',λj y v' e1 e2 e3=>?_⟩,λy c e=>?_,I.free,I.freeC,λp hp=>?_,tracked,by simpa using I.len⟩
 ·exact (hs.2 b (Nat.ne_of_lt (Nat.lt_of_lt_of_le (Heap.lt_size e) I.ok.above))).trans (I.base.keep b o e n hb hx)
 ·obtain ⟨sl,e1⟩:=I.base.slot b o e n hb hx
  exact ⟨sl,(hs.2 b (Nat.ne_of_lt (Nat.lt_of_lt_of_le (Heap.lt_size e) I.ok.above))).trans e1⟩
 ·obtain ⟨o',e1⟩:=I.base.there b o e hx
  exact ⟨o',(hs.2 b (Nat.ne_of_lt (Nat.lt_of_lt_of_le (Heap.lt_size e) I.ok.above))).trans e1⟩
 ·by_cases hj:j=i
  ·subst hj
   rw [List.getElem?_set_self hiσ] at e2
   cases e2
  ·rw [List.getElem?_set_ne (Ne.symm hj)] at e2
   obtain ⟨u',r',q⟩:=hl j y v' e1 e2 e3
   refine ⟨u',r',?_⟩
   rcases q with ⟨k,e⟩ | ⟨k,c,e,z⟩
   ·refine .inl ⟨k,?_⟩
    have:y≠x:=λe=>hj (V9 hN e1 (e▸hi))
    simp [this,e]
   ·exact .inr ⟨k,c,e,z.sameBut hs (cne y c e)⟩
 ·obtain ⟨w',z⟩:=I.cell y c e
  exact ⟨w',z.sameBut hs (cne y c e)⟩
 ·obtain ⟨e,n,ne,nf,d⟩:=I.pin p hp
  exact ⟨(hs.2 p.1 ne).trans e,n,ne,nf,d⟩
end
section
variable {X:Cx} {pins:List (Addr×Obj)} {σ:St} {H:Hp} {s:Shared}
theorem b81 {v:V} {d:PyData} {u:Value} {E:Value->Shared->Prop} (hg:X.A.guards=some []) (hu:X.A.units+80<cLine) (I:Inv X pins σ H s) (hd:DAt X.K H v d) (ru:RelV v u) (S:Shows d) (hl:d.shown.length<=4000) (hx:∀ x,v=.str x->x.length<=4000) :
  wpAny (model X.prog X.w) X.A (formatField u Str.empty) (λz s'=>∃ y t,z=.str y t/\y.length<=4000/\Inv X pins σ H s') E s:=by
 have sh:=S.sh
 have sz:=S.sz
 have big:(4000:Nat)<=sizeLine:=by decide
 cases hd with
 | non=>cases (show u=Value.none from ru);exact wpAny_formatField_none ⟨_,_,rfl,hl,I.tok _⟩
 | bl b=>cases (show u=Value.bool b from ru);exact wpAny_formatField_bool ⟨_,_,rfl,hl,I.tok _⟩
 | int i=>obtain ⟨t,e⟩:=(show ∃ t,u=Value.int i t from ru);subst e;exact formatField_int_small (by simpa [PyData.showable] using sh) ⟨_,_,rfl,hl,I.tok _⟩
 | str x=>obtain ⟨t,e⟩:=(show ∃ t,u=Value.str x t from ru);subst e;exact formatField_str (λt' tk=>⟨_,_,rfl,hx x rfl,I.tok _⟩) (Nat.le_trans (hx x rfl) big)
 | lst h1 h2=>
  obtain ⟨as,rr⟩:=DAt.reads I (.lst h1 h2) ru
  obtain ⟨a,rfl⟩:=isRef_of_reads rr rfl
  exact formatField_of_reads rr sh (PyData.noDict_hsm S.nd) hg (by have:=S.dp;omega) (λ_ _ e=>e) (λh' u tk hk=>⟨_,_,rfl,hl,I.kept hk⟩) sz
 | tup h1 h2=>
  obtain ⟨as,rr⟩:=DAt.reads I (.tup h1 h2) ru
  obtain ⟨a,rfl⟩:=isRef_of_reads rr rfl
  exact formatField_of_reads rr sh (PyData.noDict_hsm S.nd) hg (by have:=S.dp;omega) (λ_ _ e=>e) (λh' u tk hk=>⟨_,_,rfl,hl,I.kept hk⟩) sz
end
theorem U1 {M:Model} {A:Around} {E:Value->Shared->Prop} {Q Q':Str->Shared->Prop} (k:∀ out s,Q out s->Q' out s):∀ (parts:List (Sem Value)) (acc:Str) (s:Shared),Joins M A E parts acc Q s->Joins M A E parts acc Q' s
 | [],acc,s,h=>k _ _ h
 | x :: r,acc,s,h=>wpAny_mono h (λv s1 ⟨y,t,e,l,q⟩=>⟨y,t,e,l,U1 k r _ s1 q⟩) λ_ _ z=>z
noncomputable abbrev TF:=St->Hp->(Hp->Prop)->Prop
def PFs (X:Cx) (es:List Expr) (n:Nat) (t:TF):Prop:=
 ∀ (acc:Str) (pins:List (Addr×Obj)) (s:Shared) (σ:St) (H:Hp) (Q:Hp->Prop),acc.length+n<=sizeLine->Inv X pins σ H s->t σ H Q ->
  Joins (model X.prog X.w) X.A X.xe (evalEach es X.env) acc (λout s1=>out.length<=sizeLine/\∃ H',Inv X pins σ H' s1/\Q H') s
def fNil:TF:=λ_ H Q=>Q H
def c53 (K:PySem.W.Frag) (te:TE) (t:TF):TF:=λσ H Q=>te σ H λv H1=>∃ d,DAt K H1 v d/\Shows d/\d.shown.length<=4000/\(∀ x,v=.str x->x.length<=4000)/\t σ H1 Q
section
variable {X:Cx} {e:Expr} {es:List Expr} {n:Nat} {t:TF} {te:TE} {pos:Pos}
theorem b48:PFs X [] 0 fNil:=λacc pins s σ H Q hl I q=>⟨by omega,H,I,q⟩
theorem a55 {x:Str} {k:Nat} (h:PFs X es n t) (hx:x.length<=1000:=by decide):PFs X (.Constant (.str x) k pos :: es) (1000+n) t:=λacc pins s σ H Q hl I q=>by
 refine Calls.Constant_str ⟨x,_,rfl,?_,?_⟩
 ·rw [strLen_append];omega
 ·exact h (acc++x) pins _ σ H Q (by rw [strLen_append];omega) (I.tok _) q
theorem b5q (hg:X.A.guards=some []) (hu:X.A.units+80<cLine) (he:PE X e te) (h:PFs X es n t):PFs X (.FormattedValue e (-1) none pos :: es) (4000+n) (c53 X.K te t):=λacc pins s σ H Q hl I q=>by
 refine wpAny_FormattedValue_plain (thn (he pins s σ H _ I q) λu s1 ⟨v,H1,I1,ru,d,hd,S,l1,l2,q1⟩=>?_)
 refine thn (b81 hg hu I1 hd ru S l1 l2) λz s2 ⟨y,tk,ez,ly,I2⟩=>?_
 refine ⟨y,tk,ez,?_,?_⟩
 ·rw [strLen_append];omega
 ·exact h (acc++y) pins s2 σ H1 Q (by rw [strLen_append];omega) I2 q1
def tFs (t:TF):TE:=λσ H Q=>t σ H λH'=>∀ z:Str,z.length<=sizeLine->Q (.str z) H'
theorem b5p {e2:Expr} (h:PFs X (e :: e2 :: es) n t) (hn:n<=100000):PE X (.JoinedStr (e :: e2 :: es) pos) (tFs t):=by
 intro pins s σ H Q I q
 refine wpAny_JoinedStr ?_
 have big:(100000:Nat)<=sizeLine:=by decide
 have key:=h Str.empty pins s σ H _ (by show 0+n<=sizeLine;omega) I q
 exact U1 (λout s1 ⟨l,H',I',q'⟩=>⟨l,.str out,H',I'.tok _,⟨_,rfl⟩,q' out l⟩) _ _ _ key
theorem b10 {CX:CXT} {k:Nat} {f B:Addr} {fd:FuncData} {ps:List Str} {sp:Sp} {E:XK} {nm m:Str} {p apos:Pos} {pl:Sem Bool} {mc:Value} {ta:TA}
  (hg:Gl X nm) (hm:X.mg nm=some (.ref B)) (hs:PySem.W.specialIn X.K (.ref B) "__getattribute__" = some (some (.builtin "type.__getattribute__"))) (hrd:PySem.W.readsIn X.K B mc=true) (hf:PySem.W.findCls X.K (.ref B) mc m=some (.val (.ref f))) (hk:PySem.W.keepIn X.K (.ref f)=true)
  (F:FnOk X.prog X.w X.K X.mg X.base CX k f fd ps sp) (hr:Room CX.q k X.A) (hb:Binds X.K fd ps []) (hx:A0 CX X E) (ha:PA X (e :: es) ta)
  (hdb:(nm==("__debug__" : Str))=false:=by decide) (hst:starEach (e :: es) X.env=(false,eval e X.env) :: starEach es X.env:=by rfl) (hpl:(backTo pos (starEach es X.env)).any (·.1)=false:=by rfl)
  (ht:eval (.Call (.Attribute (.Name nm p) m apos) (e :: es) [] pos) X.env=(do
   let ov <- eval (.Name nm p) X.env
   standAt apos.atName
   let (f,first) <- holding [ov] (getMethod ov m pl)
   callWith pos f first (backTo pos (starEach (e :: es) X.env)) (backToKw pos (keywordEach [] X.env))):=by rfl) :
  PE X (.Call (.Attribute (.Name nm p) m apos) (e :: es) [] pos) (b0b sp [] E ta):=by
 intro pins s σ H Q I h
 refine PySem.W.methodCall_KW (pl:=pl) (C6 I hg hm ?_ hdb) ht
 refine PySem.W.method_cls I.kIn hs (PySem.W.cls_value I.kIn hrd hf rfl ?_)
 refine PySem.W.callWith_K (first:=[]) (h₀:=X.base) I.ok.mod.kin hk (thn (ha pos pins _ σ H _ (I.tok _) h) λus s1 ⟨vs,H1,I1,r,q⟩=>⟨I1.kIn,?_⟩) hst hpl
 exact a4z F hr hb .nil hx I1 r q
def b9d (K:PySem.W.Frag) (ta:TA):TE:=λσ H Q=>ta σ H λvs H1=>∃ x C d y,vs=[.ref x,y]/\XC K C/\H1 x=some (J0 x C d)/\Q .non H1
theorem b0r {p apos:Pos} {pl:Sem Bool} {ta:TA} (hg:Gl X "ValueError") (hm:X.mg "ValueError" = none) (hf:PySem.W.findCls X.K (.type "ValueError") (.type "type") "__init__" = some (.val (.builtin "ValueError.__init__"))) (ha:PA X (e :: es) ta)
  (hst:starEach (e :: es) X.env=(false,eval e X.env) :: starEach es X.env:=by rfl) (hpl:(backTo pos (starEach es X.env)).any (·.1)=false:=by rfl)
  (ht:eval (.Call (.Attribute (.Name "ValueError" p) "__init__" apos) (e :: es) [] pos) X.env=(do
   let ov <- eval (.Name "ValueError" p) X.env
   standAt apos.atName
   let (f,first) <- holding [ov] (getMethod ov "__init__" pl)
   callWith pos f first (backTo pos (starEach (e :: es) X.env)) (backToKw pos (keywordEach [] X.env))):=by rfl) :
  PE X (.Call (.Attribute (.Name "ValueError" p) "__init__" apos) (e :: es) [] pos) (b9d X.K ta):=by
 intro pins s σ H Q I h
 refine PySem.W.methodCall_KW (pl:=pl) (u3 I hg hm (show bootBuiltins "ValueError" = some (.type "ValueError") by rfl) ?_) ht
 obtain ⟨m,hfr⟩:=I.fr
 refine PySem.W.method_type hfr I.ok.mod.kin (by rfl) (by decide +kernel) hf rfl ?_
 refine PyProof.Rows.callWith_builtin1 (thn (ha pos pins _ σ H _ (I.tok _) h) λus s1 ⟨vs,H1,I1,r,x,C,d,y,ev,M,e0,q⟩=>?_) hst hpl
 subst ev
 obtain ⟨u,u2,rfl,ru,ru2⟩:=b2h r
 cases (show u=Value.ref x from ru)
 refine wpAny_call (c2m I1.kIn (I1.isX e0) M.ex λh' k1 i1=>?_)
 obtain ⟨vs1,hx1,_⟩:=id i1
 have I2:=I1.write (h':=h') (t':=s1.toks) (x:=x) (e:=x) (o:=J0 x C d) (by rw [e0];exact True.intro) (.inl rfl) (λb ob hb z=>k1 b ob hb z) ⟨_,hx1⟩ (okX i1)
 rw [a9u e0] at I2
 exact ⟨.non,H1,I2,rfl,q⟩
end
end L2
namespace Hn
open PySem L2
def spHE (K:PySem.W.Frag):Sp:=λvs H Q _=>∃ (x:Addr) (y:V) (C:Addr) (d:Option Addr),vs=[.ref x,y]/\XC K C/\H x=some (J0 x C d)/\Q .non H
structure Fmt (K:PySem.W.Frag) (H:Hp) (v:V) (d:PyData):Prop where
 at_:DAt K H v d
 sh:Shows d
 l1:d.shown.length<=4000
 l2:∀ x,v=.str x->x.length<=4000
def Got (H:Hp) (x C:Addr) (fs:List (Str×V)) (H':Hp):Prop:=∃ d,H d=none/\d≠x/\H' x=some (J0 x C (some d))/\H' d=some (E9 d fs)/\∀ b,b≠x->b≠d->H' b=H b
def sp1 (K:PySem.W.Frag) (f:Str):Sp:=λvs H Q _=>∃ (x:Addr) (v:V) (C:Addr) (dv:PyData),vs=[.ref x,v]/\XC K C/\t7 K C f/\H x=some (J0 x C none)/\Fmt K H v dv/\∀ H',Got H x C [(f,v)] H'->Q .non H'
def sp2 (K:PySem.W.Frag) (f g:Str):Sp:=λvs H Q _=>∃ (x:Addr) (v u:V) (C:Addr) (dv du:PyData),vs=[.ref x,v,u]/\XC K C/\t7 K C f/\t7 K C g/\H x=some (J0 x C none)/\Fmt K H v dv/\Fmt K H u du /\
 ∀ H',Got H x C [(f,v),(g,u)] H'->Q .non H'
structure TxE (K:PySem.W.Frag) (mg:Str->Option Value) (B fB:Addr):Prop where
 mV:mg "ValueError" = none
 fV:PySem.W.findCls K (.type "ValueError") (.type "type") "__init__" = some (.val (.builtin "ValueError.__init__"))
 mB:mg "HandError" = some (.ref B)
 sB:PySem.W.specialIn K (.ref B) "__getattribute__" = some (some (.builtin "type.__getattribute__"))
 rB:PySem.W.readsIn K B (.type "type")=true
 cB:PySem.W.findCls K (.ref B) (.type "type") "__init__" = some (.val (.ref fB))
 kB:PySem.W.keepIn K (.ref fB)=true
section
variable {K:PySem.W.Frag}
theorem Fmt.laid {H:Hp} {x:Addr} {o:HO} {v:V} {d:PyData} (h:Fmt K H v d) (hx:H x=none):Fmt K (upd H x o) v d:=⟨h.at_.keeps (Keeps.laid hx),h.sh,h.l1,h.l2⟩
end
end Hn
namespace L3
open PySem PySem.Spec PyProof.Rows L2
inductive D where
 | non | bl (b:Bool) | int (i:Int) | str (x:Str) | tup (ds:List D) | lst (ds:List D) | scr (ds:List D) | ref (n:Nat)
inductive O where
 | lst (ds:List D) | dct (kvs:List (Key×D)) | exc (c:Nat) (fs:List (Str×D))
noncomputable abbrev Sto:=List O
inductive R (α:Type) where
 | ok (a:α) (S:Sto) | exn (n:Nat) (S:Sto) | bad
noncomputable abbrev M (α:Type):=Sto->R α
noncomputable def ret {α:Type} (a:α):M α:=λS=>.ok a S
noncomputable def bad {α:Type}:M α:=λ_=>.bad
noncomputable def bind {α β:Type} (m:M α) (k:α->M β):M β:=λS=>match m S with
 | .ok a S'=>k a S'
 | .exn n S'=>.exn n S'
 | .bad=>.bad
noncomputable abbrev Env:=List (Option D)
structure Mp where
 pl:List Addr
 rs:List Addr
noncomputable def Mp.push (μ:Mp) (p:Addr):Mp:=⟨μ.pl++[p],μ.rs⟩
def TupAt (K:PySem.W.Frag) (μ:Mp) (H:Hp) (a:Addr) (xs:List V):Prop:=
 (Rd H a (.tup xs)/\a∉μ.pl/\a∉μ.rs)\/∃ (o:Obj) (its:Array Value) (n:Nat),K.lookup a=some o/\o.cls=.type "tuple"/\o.data=.seq its n/\its.size<=sizeLine/\Vals xs its.toList/\o.dict=none
def ScrAt (K:PySem.W.Frag) (μ:Mp) (H:Hp) (a:Addr) (xs:List V):Prop:=
 (Rd H a (.lst xs)/\a∉μ.pl/\a∉μ.rs)\/∃ (o:Obj) (its:Array Value) (n:Nat),K.lookup a=some o/\o.cls=.type "list"/\o.dict=none/\o.data=.seq its n/\its.size<=sizeLine/\Vals xs its.toList
def LstAt (μ:Mp) (H:Hp) (a:Addr) (xs:List V):Prop:=H a=some (.lst xs)/\a∉μ.pl/\a∉μ.rs
theorem TupAt.sq {K:PySem.W.Frag} {μ:Mp} {H:Hp} {a:Addr} {xs:List V} (h:TupAt K μ H a xs):SqT K H a xs:=h.imp (λz=>z.1) λ⟨o,its,n,a,b,c,d,e,_⟩=>⟨o,its,n,a,b,c,d,e⟩
theorem ScrAt.sq {K:PySem.W.Frag} {μ:Mp} {H:Hp} {a:Addr} {xs:List V} (h:ScrAt K μ H a xs):SqL K H a xs:=h.imp (λz=>z.1) id
theorem LstAt.sq {K:PySem.W.Frag} {μ:Mp} {H:Hp} {a:Addr} {xs:List V} (h:LstAt μ H a xs):SqL K H a xs:=.inl (.inl h.1)
mutual
inductive RD (K:PySem.W.Frag) (μ:Mp) (H:Hp):D->V->Prop where
 | non:RD K μ H .non .non
 | bl (b:Bool):RD K μ H (.bl b) (.bl b)
 | int (i:Int):RD K μ H (.int i) (.int i)
 | str (x:Str):RD K μ H (.str x) (.str x)
 | tup {a:Addr} {xs:List V} {ds:List D}:TupAt K μ H a xs->RDs K μ H ds xs->RD K μ H (.tup ds) (.ref a)
 | lst {a:Addr} {xs:List V} {ds:List D}:LstAt μ H a xs->RDs K μ H ds xs->RD K μ H (.lst ds) (.ref a)
 | scr {a:Addr} {xs:List V} {ds:List D}:ScrAt K μ H a xs->RDs K μ H ds xs->RD K μ H (.scr ds) (.ref a)
 | ref {n:Nat} {a:Addr}:μ.pl[n]?=some a->RD K μ H (.ref n) (.ref a)
inductive RDs (K:PySem.W.Frag) (μ:Mp) (H:Hp):List D->List V->Prop where
 | nil:RDs K μ H [] []
 | cons {d:D} {v:V} {ds:List D} {vs:List V}:RD K μ H d v->RDs K μ H ds vs->RDs K μ H (d :: ds) (v :: vs)
end
structure Lat (μ:Mp) (H:Hp) (μ':Mp) (H':Hp):Prop where
 pre:∀ (n:Nat) (a:Addr),μ.pl[n]?=some a->μ'.pl[n]?=some a
 oth:∀ a o,H a=some o->a∉μ.pl->H' a=some o
 new:∀ a,a∈μ'.pl->a∈μ.pl\/H a=none
 rsv:μ'.rs=μ.rs
theorem Lat.refl (μ:Mp) (H:Hp):Lat μ H μ H:=⟨λ_ _ h=>h,λ_ _ h _=>h,λ_ h=>.inl h,rfl⟩
theorem Lat.out {μ μ':Mp} {H H':Hp} (l:Lat μ H μ' H') {a:Addr} {o:HO} (h:H a=some o) (n:a∉μ.pl):a∉μ'.pl:=λz=>by
 rcases l.new a z with q | q
 ·exact n q
 ·rw [h] at q;cases q
theorem Lat.trans {μ μ1 μ2:Mp} {H H1 H2:Hp} (l:Lat μ H μ1 H1) (k:Lat μ1 H1 μ2 H2):Lat μ H μ2 H2:=by
 refine ⟨λn a h=>k.pre n a (l.pre n a h),λa o h n=>k.oth a o (l.oth a o h n) (l.out h n),λa h=>?_,k.rsv.trans l.rsv⟩
 rcases k.new a h with q | q
 ·exact l.new a q
 ·by_cases m:a∈μ.pl
  ·exact .inl m
  ·right
   cases e:H a with
   | none=>rfl
   | some o=>rw [l.oth a o e m] at q;cases q
theorem Rd.later {μ μ':Mp} {H H':Hp} (l:Lat μ H μ' H') {a:Addr} {u:HO} (h:Rd H a u) (n:a∉μ.pl):Rd H' a u/\a∉μ'.pl:=by
 rcases h with h | ⟨o,h⟩
 ·exact ⟨.inl (l.oth _ _ h n),l.out h n⟩
 ·exact ⟨.inr ⟨o,l.oth _ _ h n⟩,l.out h n⟩
theorem TupAt.later {K:PySem.W.Frag} {μ μ':Mp} {H H':Hp} (l:Lat μ H μ' H') {a:Addr} {xs:List V} (h:TupAt K μ H a xs):TupAt K μ' H' a xs:=h.imp (λz=>⟨(Rd.later l z.1 z.2.1).1,(Rd.later l z.1 z.2.1).2,by rw [l.rsv];exact z.2.2⟩) id
theorem ScrAt.later {K:PySem.W.Frag} {μ μ':Mp} {H H':Hp} (l:Lat μ H μ' H') {a:Addr} {xs:List V} (h:ScrAt K μ H a xs):ScrAt K μ' H' a xs:=h.imp (λz=>⟨(Rd.later l z.1 z.2.1).1,(Rd.later l z.1 z.2.1).2,by rw [l.rsv];exact z.2.2⟩) id
theorem LstAt.later {μ μ':Mp} {H H':Hp} (l:Lat μ H μ' H') {a:Addr} {xs:List V} (h:LstAt μ H a xs):LstAt μ' H' a xs:=⟨l.oth _ _ h.1 h.2.1,l.out h.1 h.2.1,by rw [l.rsv];exact h.2.2⟩
mutual
theorem RD.later {K:PySem.W.Frag} {μ μ':Mp} {H H':Hp} (l:Lat μ H μ' H'):∀ {d:D} {v:V},RD K μ H d v->RD K μ' H' d v
 | _,_,.non=>.non
 | _,_,.bl b=>.bl b
 | _,_,.int i=>.int i
 | _,_,.str x=>.str x
 | _,_,.tup h r=>.tup (h.later l) (RDs.later l r)
 | _,_,.lst h r=>.lst (h.later l) (RDs.later l r)
 | _,_,.scr h r=>.scr (h.later l) (RDs.later l r)
 | _,_,.ref h=>.ref (l.pre _ _ h)
theorem RDs.later {K:PySem.W.Frag} {μ μ':Mp} {H H':Hp} (l:Lat μ H μ' H'):∀ {ds:List D} {vs:List V},RDs K μ H ds vs->RDs K μ' H' ds vs
 | _,_,.nil=>.nil
 | _,_,.cons h r=>.cons (RD.later l h) (RDs.later l r)
end
section
variable {K:PySem.W.Frag} {μ:Mp} {H:Hp}
theorem RDs.length:∀ {ds:List D} {vs:List V},RDs K μ H ds vs->ds.length=vs.length
 | _,_,.nil=>rfl
 | _,_,.cons _ r=>by simp [RDs.length r]
theorem RDs.get:∀ {ds:List D} {vs:List V} {i:Nat} {d:D},RDs K μ H ds vs->ds[i]?=some d->∃ v,vs[i]?=some v/\RD K μ H d v
 | _,_,_,_,.nil,e=>by simp at e
 | _,_,0,_,.cons h _,e=>by simp at e;subst e;exact ⟨_,rfl,h⟩
 | _,_,i+1,d,.cons _ r,e=>by
  obtain ⟨v,h1,h2⟩:=RDs.get (i:=i) (d:=d) r (by simpa using e)
  exact ⟨v,by simpa using h1,h2⟩
theorem RDs.append:∀ {ds es:List D} {vs us:List V},RDs K μ H ds vs->RDs K μ H es us->RDs K μ H (ds++es) (vs++us)
 | _,_,_,_,.nil,s=>s
 | _,_,_,_,.cons h r,s=>.cons h (RDs.append r s)
theorem RDs.take:∀ {ds:List D} {vs:List V} (n:Nat),RDs K μ H ds vs->RDs K μ H (ds.take n) (vs.take n)
 | _,_,0,_=>by simpa using RDs.nil
 | _,_,_+1,.nil=>by simpa using RDs.nil
 | _,_,n+1,.cons h r=>by simpa using RDs.cons h (RDs.take n r)
theorem RDs.drop:∀ {ds:List D} {vs:List V} (n:Nat),RDs K μ H ds vs->RDs K μ H (ds.drop n) (vs.drop n)
 | _,_,0,h=>by simpa using h
 | _,_,_+1,.nil=>by simpa using RDs.nil
 | _,_,n+1,.cons _ r=>by simpa using RDs.drop n r
theorem RDs.set {d:D} {v:V} (q:RD K μ H d v):∀ {ds:List D} {vs:List V} (n:Nat),RDs K μ H ds vs->RDs K μ H (ds.set n d) (vs.set n v)
 | _,_,_,.nil=>by simpa using RDs.nil
 | _,_,0,.cons h r=>by simpa using RDs.cons q r
 | _,_,n+1,.cons h r=>by simpa using RDs.cons h (RDs.set q n r)
theorem RDs.rep {ds:List D} {vs:List V} (r:RDs K μ H ds vs):∀ k:Nat,RDs K μ H (List.replicate k ds).flatten (List.replicate k vs).flatten
 | 0=>.nil
 | k+1=>by
  rw [List.replicate_succ,List.replicate_succ,List.flatten_cons,List.flatten_cons]
  exact r.append (RDs.rep r k)
theorem RDs.ints:∀ ns:List Int,RDs K μ H (ns.map D.int) (ns.map V.int)
 | []=>.nil
 | n :: ns=>.cons (.int n) (RDs.ints ns)
end
def b2e (K:PySem.W.Frag) (μ:Mp) (H:Hp):List (Str×D)->List (Str×V)->Prop:=Paired λp q=>p.1=q.1/\RD K μ H p.2 q.2
def KvsAt (K:PySem.W.Frag) (μ:Mp) (H:Hp):List (Key×D)->List (Key×V)->Prop:=Paired λp q=>p.1=q.1/\RD K μ H p.2 q.2
def OAt (K:PySem.W.Frag) (cl:Nat->Addr) (μ:Mp) (H:Hp) (a:Addr):O->Prop
 | .lst ds=>∃ xs,H a=some (.lst xs)/\RDs K μ H ds xs
 | .dct kvs=>∃ ks,H a=some (.dK ks)/\KvsAt K μ H kvs ks
 | .exc c fs=>XC K (cl c)/\∃ gs,b2e K μ H fs gs/\∃ fr,((gs=[]/\H a=some (M9 fr a (cl c) none))\/∃ d,d≠a/\d∉μ.pl/\H a=some (M9 fr a (cl c) (some d))/\H d=some (E9 d gs))
structure Rep (K:PySem.W.Frag) (cl:Nat->Addr) (μ:Mp) (S:Sto) (H:Hp):Prop where
 len:μ.pl.length=S.length
 nd:μ.pl.Nodup
 ats:∀ (n:Nat) (o:O) (a:Addr),S[n]?=some o->μ.pl[n]?=some a->OAt K cl μ H a o
 res:∀ a,a∈μ.rs->a∉μ.pl/\∃ u,H a=some u
theorem Paired.mono {α β:Type} {P Q:α->β->Prop} (h:∀ a b,P a b->Q a b):∀ {xs:List α} {ys:List β},Paired P xs ys->Paired Q xs ys
 | _,_,.nil=>.nil
 | _,_,.cons r t=>.cons (h _ _ r) (Paired.mono h t)
section
variable {K:PySem.W.Frag} {cl:Nat->Addr} {μ:Mp} {S:Sto} {H:Hp}
theorem OAt.some {a:Addr} {o:O} (h:OAt K cl μ H a o):∃ u,H a=some u:=by
 cases o with
 | lst ds=>obtain ⟨xs,e,_⟩:=h;exact ⟨_,e⟩
 | dct kvs=>obtain ⟨xs,e,_⟩:=h;exact ⟨_,e⟩
 | exc c fs=>
  obtain ⟨_,gs,_,fr,⟨_,e⟩ | ⟨d,_,_,e,_⟩⟩:=h
  ·exact ⟨_,e⟩
  ·exact ⟨_,e⟩
theorem Rep.tracked (r:Rep K cl μ S H) {a:Addr} (h:a∈μ.pl):∃ u,H a=some u:=by
 obtain ⟨n,hn,e⟩:=List.getElem_of_mem h
 have hs:n<S.length:=by rw [<- r.len];exact hn
 exact (r.ats n S[n] a (List.getElem?_eq_getElem hs) (by rw [List.getElem?_eq_getElem hn,e])).some
theorem Rep.notrs (r:Rep K cl μ S H) {p:Addr} (h:H p=none):p∉μ.rs:=λz=>by
 obtain ⟨_,u,e⟩:=r.res p z
 rw [h] at e;cases e
theorem Rep.notin (r:Rep K cl μ S H) {p:Addr} (h:H p=none):p∉μ.pl:=λz=>by
 obtain ⟨u,e⟩:=r.tracked z
 rw [h] at e;cases e
theorem Lat.laid {p:Addr} {o:HO} (h:H p=none):Lat μ H μ (upd H p o):=⟨λ_ _ h=>h,λa u e _=>by rw [a8 (b6 e h)];exact e,λ_ h=>.inl h,rfl⟩
theorem Rep.keep {H':Hp} (r:Rep K cl μ S H) (l:Lat μ H μ H') (k:∀ a,a∈μ.pl->H' a=H a):Rep K cl μ S H':=by
 refine ⟨r.len,r.nd,λn o a e1 e2=>?_,λa m=>let ⟨h1,u,h2⟩:=r.res a m;⟨h1,u,l.oth _ _ h2 h1⟩⟩
 have ka:=k a (List.mem_of_getElem? e2)
 have h:=r.ats n o a e1 e2
 cases o with
 | lst ds=>obtain ⟨xs,e,q⟩:=h;exact ⟨xs,by rw [ka];exact e,q.later l⟩
 | dct kvs=>obtain ⟨xs,e,q⟩:=h;exact ⟨xs,by rw [ka];exact e,Paired.mono (λ_ _ ⟨z,w⟩=>⟨z,w.later l⟩) q⟩
 | exc c fs=>
  obtain ⟨xc,gs,q,fr,h⟩:=h
  refine ⟨xc,gs,Paired.mono (λ_ _ ⟨z,w⟩=>⟨z,w.later l⟩) q,fr,?_⟩
  rcases h with ⟨z,e⟩ | ⟨d,h1,h2,e,e2⟩
  ·exact .inl ⟨z,by rw [ka];exact e⟩
  ·exact .inr ⟨d,h1,h2,by rw [ka];exact e,l.oth _ _ e2 h2⟩
theorem Rep.laid {p:Addr} {o:HO} (r:Rep K cl μ S H) (h:H p=none):Rep K cl μ S (upd H p o):=r.keep (Lat.laid h) λa m=>a8 λz=>r.notin h (z▸m)
theorem Lat.pushed {p:Addr} {H':Hp} (h:H p=none) (k:∀ a u,H a=some u->H' a=some u):Lat μ H (μ.push p) H':=
 ⟨λn a e=>by show (μ.pl++[p])[n]?=_;rw [List.getElem?_append_left (List.getElem?_eq_some_iff.mp e).1];exact e,λa u e _=>k a u e,λa m=>by
  rcases List.mem_append.mp m with z | z
  ·exact .inl z
  ·exact .inr (by rw [List.mem_singleton.mp z];exact h),rfl⟩
theorem OAt.later {μ':Mp} {H':Hp} {a:Addr} {o:O} (h:OAt K cl μ H a o) (l:Lat μ H μ' H') (ka:H' a=H a):OAt K cl μ' H' a o:=by
 cases o with
 | lst ds=>obtain ⟨xs,e,q⟩:=h;exact ⟨xs,by rw [ka];exact e,q.later l⟩
 | dct kvs=>obtain ⟨xs,e,q⟩:=h;exact ⟨xs,by rw [ka];exact e,Paired.mono (λ_ _ ⟨z,w⟩=>⟨z,w.later l⟩) q⟩
 | exc c fs=>
  obtain ⟨xc,gs,q,fr,h⟩:=h
  refine ⟨xc,gs,Paired.mono (λ_ _ ⟨z,w⟩=>⟨z,w.later l⟩) q,fr,?_⟩
  rcases h with ⟨z,e⟩ | ⟨d,h1,h2,e,e2⟩
  ·exact .inl ⟨z,by rw [ka];exact e⟩
  ·exact .inr ⟨d,h1,l.out e2 h2,by rw [ka];exact e,l.oth _ _ e2 h2⟩
theorem Rep.pushed {p:Addr} {H':Hp} {o:O} (r:Rep K cl μ S H) (h:H p=none) (k:∀ a u,H a=some u->H' a=some u) (ho:OAt K cl (μ.push p) H' p o):Rep K cl (μ.push p) (S++[o]) H':=by
 have l:=Lat.pushed (μ:=μ) h k
 refine ⟨by simp [Mp.push,r.len],?_,λn u a e1 e2=>?_,λa m=>?_⟩
 ·show (μ.pl++[p]).Nodup
  rw [List.nodup_append]
  exact ⟨r.nd,by simp,λa m b m2=>by rw [List.mem_singleton.mp m2];rintro rfl;exact r.notin h m⟩
 ·have e2:(μ.pl++[p])[n]?=some a:=e2
  by_cases hn:n<S.length
  ·rw [List.getElem?_append_left hn] at e1
   rw [List.getElem?_append_left (by rw [r.len];exact hn)] at e2
   have q:=r.ats n u a e1 e2
   obtain ⟨z,ez⟩:=q.some
   exact q.later l ((k a z ez).trans ez.symm)
  ·have hn2:n=S.length:=by
    have:=(List.getElem?_eq_some_iff.mp e1).1
    simp at this;omega
   subst hn2
   rw [<- r.len] at e2
   simp at e1 e2
   subst e1;subst e2
   exact ho
 ·obtain ⟨h1,u,h2⟩:=r.res a m
  refine ⟨λz=>?_,u,k a u h2⟩
  rcases List.mem_append.mp (show a∈μ.pl++[p] from z) with z | z
  ·exact h1 z
  ·rw [List.mem_singleton.mp z,h] at h2;cases h2
theorem Lat.wrote {a:Addr} {o:HO} (h:a∈μ.pl):Lat μ H μ (upd H a o):=⟨λ_ _ h=>h,λb u e n=>by rw [a8 (λz=>n (by rw [z];exact h))];exact e,λ_ h=>.inl h,rfl⟩
theorem Rep.wrote {n:Nat} {a:Addr} {u:HO} {o:O} (r:Rep K cl μ S H) (e:μ.pl[n]?=some a) (ho:OAt K cl μ (upd H a u) a o):Rep K cl μ (S.set n o) (upd H a u):=by
 have m:a∈μ.pl:=List.mem_of_getElem? e
 refine ⟨by simp [r.len],r.nd,λk w b e1 e2=>?_,λb mb=>let ⟨h1,u',h2⟩:=r.res b mb;⟨h1,u',by rw [a8 (λz=>h1 (by rw [z];exact m))];exact h2⟩⟩
 by_cases hk:n=k
 ·subst hk
  rw [e] at e2;cases e2
  rw [List.getElem?_set_self (by have:=(List.getElem?_eq_some_iff.mp e).1;rw [r.len] at this;exact this)] at e1
  cases e1;exact ho
 ·rw [List.getElem?_set_ne hk] at e1
  have hb:b≠a:=λz=>by
   subst z
   obtain ⟨h1,q1⟩:=List.getElem?_eq_some_iff.mp e
   obtain ⟨h2,q2⟩:=List.getElem?_eq_some_iff.mp e2
   exact hk ((List.getElem_inj r.nd).mp (q1.trans q2.symm))
  exact (r.ats k w b e1 e2).later (Lat.wrote m) (a8 hb)
end
noncomputable def Mp.hold (μ:Mp) (p:Addr):Mp:=⟨μ.pl,p :: μ.rs⟩
mutual
theorem RD.move {K:PySem.W.Frag} {μ μ':Mp} {H H':Hp} (hp:∀ (n:Nat) (a:Addr),μ.pl[n]?=some a->μ'.pl[n]?=some a) (ho:∀ a u,H a=some u->a∉μ.pl->a∉μ.rs->H' a=some u/\a∉μ'.pl/\a∉μ'.rs):∀ {d:D} {v:V},RD K μ H d v->RD K μ' H' d v
 | _,_,.non=>.non
 | _,_,.bl b=>.bl b
 | _,_,.int i=>.int i
 | _,_,.str x=>.str x
 | _,_,.tup h r=>.tup (h.imp (λ⟨q,n1,n2⟩=>by
   rcases q with q | ⟨o,q⟩
   ·exact ⟨.inl (ho _ _ q n1 n2).1,(ho _ _ q n1 n2).2⟩
   ·exact ⟨.inr ⟨o,(ho _ _ q n1 n2).1⟩,(ho _ _ q n1 n2).2⟩) id) (RDs.move hp ho r)
 | _,_,.lst h r=>.lst (ho _ _ h.1 h.2.1 h.2.2) (RDs.move hp ho r)
 | _,_,.scr h r=>.scr (h.imp (λ⟨q,n1,n2⟩=>by
   rcases q with q | ⟨o,q⟩
   ·exact ⟨.inl (ho _ _ q n1 n2).1,(ho _ _ q n1 n2).2⟩
   ·exact ⟨.inr ⟨o,(ho _ _ q n1 n2).1⟩,(ho _ _ q n1 n2).2⟩) id) (RDs.move hp ho r)
 | _,_,.ref h=>.ref (hp _ _ h)
theorem RDs.move {K:PySem.W.Frag} {μ μ':Mp} {H H':Hp} (hp:∀ (n:Nat) (a:Addr),μ.pl[n]?=some a->μ'.pl[n]?=some a) (ho:∀ a u,H a=some u->a∉μ.pl->a∉μ.rs->H' a=some u/\a∉μ'.pl/\a∉μ'.rs):∀ {ds:List D} {vs:List V},RDs K μ H ds vs->RDs K μ' H' ds vs
 | _,_,.nil=>.nil
 | _,_,.cons h r=>.cons (RD.move hp ho h) (RDs.move hp ho r)
end
section
variable {K:PySem.W.Frag} {cl:Nat->Addr} {μ:Mp} {S:Sto} {H:Hp}
theorem Rep.move {μ':Mp} {H':Hp} (r:Rep K cl μ S H) (hr:∀ a,a∈μ'.rs->a∉μ'.pl/\∃ u,H' a=some u) (hp:μ'.pl=μ.pl) (hk:∀ a,a∈μ.pl->H' a=H a) (hx:∀ a u,H a=some (.ext u)->H' a=some (.ext u)) (ho:∀ a u,H a=some u->a∉μ.pl->a∉μ.rs->H' a=some u/\a∉μ'.pl/\a∉μ'.rs):Rep K cl μ' S H':=by
 have hp':∀ (n:Nat) (a:Addr),μ.pl[n]?=some a->μ'.pl[n]?=some a:=λn a e=>by rw [hp];exact e
 refine ⟨by rw [hp];exact r.len,by rw [hp];exact r.nd,λn o a e1 e2=>?_,hr⟩
 rw [hp] at e2
 have ka:=hk a (List.mem_of_getElem? e2)
 have h:=r.ats n o a e1 e2
 cases o with
 | lst ds=>obtain ⟨xs,e,q⟩:=h;exact ⟨xs,by rw [ka];exact e,q.move hp' ho⟩
 | dct kvs=>obtain ⟨xs,e,q⟩:=h;exact ⟨xs,by rw [ka];exact e,Paired.mono (λ_ _ ⟨z,w⟩=>⟨z,w.move hp' ho⟩) q⟩
 | exc c fs=>
  obtain ⟨xc,gs,q,fr,h⟩:=h
  refine ⟨xc,gs,Paired.mono (λ_ _ ⟨z,w⟩=>⟨z,w.move hp' ho⟩) q,fr,?_⟩
  rcases h with ⟨z,e⟩ | ⟨d,h1,h2,e,e2⟩
  ·exact .inl ⟨z,by rw [ka];exact e⟩
  ·exact .inr ⟨d,h1,by rw [hp];exact h2,by rw [ka];exact e,hx _ _ e2⟩
end
section
variable (K:PySem.W.Frag) (cl:Nat->Addr) (xe:Addr->Hp->Prop)
def Post {α:Type} (μ:Mp) (H:Hp) (r:R α) (G:α->Sto->Mp->Hp->Prop):Prop:=match r with
 | .ok a S=>∀ μ' H',Lat μ H μ' H'->Rep K cl μ' S H'->G a S μ' H'
 | .exn n S=>∀ μ' H' a,Lat μ H μ' H'->Rep K cl μ' S H'->μ'.pl[n]?=some a->xe a H'
 | .bad=>False
end
section
variable {K:PySem.W.Frag} {cl:Nat->Addr} {xe:Addr->Hp->Prop} {α β:Type} {μ μ1:Mp} {H H1:Hp}
theorem Post.later {r:R α} {G:α->Sto->Mp->Hp->Prop} (h:Post K cl xe μ H r G) (l:Lat μ H μ1 H1):Post K cl xe μ1 H1 r G:=by
 cases r with
 | ok a S=>exact λμ' H' k r=>h μ' H' (l.trans k) r
 | exn n S=>exact λμ' H' a k r e=>h μ' H' a (l.trans k) r e
 | bad=>exact h
theorem Post.imp {r:R α} {G G':α->Sto->Mp->Hp->Prop} (h:Post K cl xe μ H r G) (k:∀ a S μ' H',Lat μ H μ' H'->Rep K cl μ' S H'->G a S μ' H'->G' a S μ' H'):Post K cl xe μ H r G':=by
 cases r with
 | ok a S=>exact λμ' H' l r=>k a S μ' H' l r (h μ' H' l r)
 | exn n S=>exact h
 | bad=>exact h
theorem Post.bind {m:M α} {k:α->M β} {S:Sto} {G:β->Sto->Mp->Hp->Prop} (h:Post K cl xe μ H (bind m k S) G):Post K cl xe μ H (m S) (λa S1 μ1 H1=>Post K cl xe μ1 H1 (k a S1) G):=by
 unfold L3.bind at h
 cases e:m S with
 | ok a S1=>
  rw [e] at h
  exact λμ' H' l r=>Post.later h l
 | exn n S1=>rw [e] at h;exact h
 | bad=>rw [e] at h;exact h
theorem Post.ret {a:α} {S:Sto} {G:α->Sto->Mp->Hp->Prop} (h:Post K cl xe μ H (ret a S) G):∀ μ' H',Lat μ H μ' H'->Rep K cl μ' S H'->G a S μ' H':=h
end
def EnvOk (K:PySem.W.Frag) (μ:Mp) (H:Hp) (ρ:Env) (σ:L2.St):Prop:=ρ.length=σ.length/\∀ (i:Nat) (d:D),ρ[i]?=some (some d)->∃ v,σ[i]?=some (some v)/\RD K μ H d v
theorem EnvOk.later {K:PySem.W.Frag} {μ μ1:Mp} {H H1:Hp} {ρ:Env} {σ:L2.St} (h:EnvOk K μ H ρ σ) (l:Lat μ H μ1 H1):EnvOk K μ1 H1 ρ σ:=⟨h.1,λi d e=>let ⟨v,q,r⟩:=h.2 i d e;⟨v,q,r.later l⟩⟩
theorem EnvOk.set {K:PySem.W.Frag} {μ:Mp} {H:Hp} {ρ:Env} {σ:L2.St} {d:D} {v:V} (h:EnvOk K μ H ρ σ) (r:RD K μ H d v) (i:Nat):EnvOk K μ H (ρ.set i (some d)) (σ.set i (some v)):=by
 refine ⟨by simp [h.1],λj e he=>?_⟩
 by_cases hij:i=j
 ·subst hij
  have hi:i<ρ.length:=by
   have:=(List.getElem?_eq_some_iff.mp he).1
   simpa using this
  rw [List.getElem?_set_self hi] at he
  cases he
  exact ⟨v,List.getElem?_set_self (by rw [<- h.1];exact hi),r⟩
 ·rw [List.getElem?_set_ne hij] at he
  obtain ⟨u,q,r2⟩:=h.2 j e he
  exact ⟨u,by rw [List.getElem?_set_ne hij];exact q,r2⟩
section
variable (K:PySem.W.Frag) (cl:Nat->Addr) (xe:Addr->Hp->Prop)
def tD (f:Env->M D):TE:=λσ H Q=>∃ μ S ρ,EnvOk K μ H ρ σ/\Rep K cl μ S H/\Post K cl xe μ H (f ρ S) λd _ μ' H'=>∀ v,RD K μ' H' d v->Q v H'
def tDs (f:Env->M (List D)):TA:=λσ H Q=>∃ μ S ρ,EnvOk K μ H ρ σ/\Rep K cl μ S H/\Post K cl xe μ H (f ρ S) λds _ μ' H'=>∀ vs,RDs K μ' H' ds vs->Q vs H'
def tBo (f:Env->M Bool):TT:=λσ H Q=>∃ μ S ρ,EnvOk K μ H ρ σ/\Rep K cl μ S H/\Post K cl xe μ H (f ρ S) λb _ _ H'=>Q b H'
def rP2 (g:D->D->M D):R2:=λx y H Q=>∃ μ S d e,RD K μ H d x/\RD K μ H e y/\Rep K cl μ S H/\Post K cl xe μ H (g d e S) λr _ μ' H'=>∀ v,RD K μ' H' r v->Q v H'
def rPs (g:List D->M D):List V->Hp->VK->Prop:=λxs H Q=>∃ μ S ds,RDs K μ H ds xs/\Rep K cl μ S H/\Post K cl xe μ H (g ds S) λr _ μ' H'=>∀ v,RD K μ' H' r v->Q v H'
end
theorem PE.imp {X:Cx} {e:Expr} {t t':TE} (h:PE X e t) (k:∀ σ H Q,t' σ H Q->t σ H Q):PE X e t':=λpins s σ H Q I q=>h pins s σ H Q I (k σ H Q q)
theorem PT.imp {X:Cx} {e:Expr} {t t':TT} (h:PT X e t) (k:∀ σ H Q,t' σ H Q->t σ H Q):PT X e t':=λpins s σ H Q I q=>h pins s σ H Q I (k σ H Q q)
theorem PW.imp {X:Cx} {e:Expr} {t t':TT} (h:PW X e t) (k:∀ σ H Q,t' σ H Q->t σ H Q):PW X e t':=λw pins s σ H Q I q=>h w pins s σ H Q I (k σ H Q q)
theorem PA.imp {X:Cx} {es:List Expr} {t t':TA} (h:PA X es t) (k:∀ σ H Q,t' σ H Q->t σ H Q):PA X es t':=λp pins s σ H Q I q=>h p pins s σ H Q I (k σ H Q q)
theorem PS.imp {X:Cx} {st:Stmt} {t t':TS} (h:PS X st t) (k:∀ D σ H,t' D σ H->t D σ H):PS X st t':=λpins s σ H D I q=>h pins s σ H D I (k D σ H q)
theorem PSs.imp {X:Cx} {st:List Stmt} {t t':TS} (h:PSs X st t) (k:∀ D σ H,t' D σ H->t D σ H):PSs X st t':=λpins s σ H D I q=>h pins s σ H D I (k D σ H q)
section
variable {X:Cx} {cl:Nat->Addr} {xe:Addr->Hp->Prop} {a b c:Expr} {es:List Expr} {pos:Pos} {f g:Env->M D}
theorem i6 {e:Expr}:PE X e (tD X.K cl xe λ_=>bad):=λ_ _ _ _ _ _ ⟨_,_,_,_,_,p⟩=>p.elim
theorem a4b {e:Expr}:PT X e (tBo X.K cl xe λ_=>bad):=λ_ _ _ _ _ _ ⟨_,_,_,_,_,p⟩=>p.elim
theorem pw_bad {e:Expr}:PW X e (tBo X.K cl xe λ_=>bad):=λ_ _ _ _ _ _ _ ⟨_,_,_,_,_,p⟩=>p.elim
theorem D8 {e:Expr} {v:V} {d:D} (h:PE X e (tC v)) (r:∀ μ H,RD X.K μ H d v):PE X e (tD X.K cl xe λ_=>ret d):=PE.imp h λσ H Q ⟨μ,S,ρ,eo,rp,p⟩=>p.ret μ H (Lat.refl _ _) rp v (r μ H)
noncomputable def getD (i:Nat) (ρ:Env):M D:=match ρ[i]? with
 | some (some d)=>ret d
 | _=>bad
theorem c0p {i:Nat} {e:Expr} (h:PE X e (b8i i)):PE X e (tD X.K cl xe λρ=>getD i ρ):=PE.imp h λσ H Q ⟨μ,S,ρ,eo,rp,p⟩=>by
 cases e:ρ[i]? with
 | none=>simp only [getD,e] at p;exact p.elim
 | some o=>
  cases o with
  | none=>simp only [getD,e] at p;exact p.elim
  | some d=>
   simp only [getD,e] at p
   obtain ⟨v,q,r⟩:=eo.2 i d e
   exact ⟨v,q,p.ret μ H (Lat.refl _ _) rp v r⟩
theorem c0g {op:Operator} {h:D->D->M D} (ha:PE X a (tD X.K cl xe f)) (hb:PE X b (tD X.K cl xe g)) (ho:OpR X (binaryOp op) (rP2 X.K cl xe h)) :
  PE X (.BinOp a op b pos) (tD X.K cl xe λρ=>bind (f ρ) λx=>bind (g ρ) λy=>h x y):=PE.imp (c37 ho ha hb) λσ H Q ⟨μ,S,ρ,eo,rp,p⟩=>
 ⟨μ,S,ρ,eo,rp,p.bind.imp λx S1 μ1 H1 l1 r1 p1 v rv=>⟨μ1,S1,ρ,eo.later l1,r1,p1.bind.imp λy S2 μ2 H2 l2 r2 p2 u ru=>⟨μ2,S2,x,y,rv.later l2,ru,r2,p2⟩⟩⟩
theorem b8m {op:CmpOp} {h:D->D->M D} (ha:PE X a (tD X.K cl xe f)) (hb:PE X b (tD X.K cl xe g)) (ho:OpR X (compareOp op) (rP2 X.K cl xe h)) (hm:behindInMarks op b=false) :
  PE X (.Compare a [op] [b] pos) (tD X.K cl xe λρ=>bind (f ρ) λx=>bind (g ρ) λy=>h x y):=PE.imp (b6b ho ha hb hm) λσ H Q ⟨μ,S,ρ,eo,rp,p⟩=>
 ⟨μ,S,ρ,eo,rp,p.bind.imp λx S1 μ1 H1 l1 r1 p1 v rv=>⟨μ1,S1,ρ,eo.later l1,r1,p1.bind.imp λy S2 μ2 H2 l2 r2 p2 u ru=>⟨μ2,S2,x,y,rv.later l2,ru,r2,p2⟩⟩⟩
theorem c23 {h:D->D->M D} (ha:PE X a (tD X.K cl xe f)) (hb:PE X b (tD X.K cl xe g)) (ho:IxR X (rP2 X.K cl xe h)) (hs:a1f b) :
  PE X (.Subscript a b pos) (tD X.K cl xe λρ=>bind (f ρ) λx=>bind (g ρ) λy=>h x y):=PE.imp (c2z ho ha hb hs) λσ H Q ⟨μ,S,ρ,eo,rp,p⟩=>
 ⟨μ,S,ρ,eo,rp,p.bind.imp λx S1 μ1 H1 l1 r1 p1 v rv=>⟨μ1,S1,ρ,eo.later l1,r1,p1.bind.imp λy S2 μ2 H2 l2 r2 p2 u ru=>⟨μ2,S2,x,y,rv.later l2,ru,r2,p2⟩⟩⟩
theorem c3e {t:Env->M Bool} (hc:PT X c (tBo X.K cl xe t)) (ha:PE X a (tD X.K cl xe f)) (hb:PE X b (tD X.K cl xe g)):PE X (.IfExp c a b pos) (tD X.K cl xe λρ=>bind (t ρ) λq=>if q=true then f ρ else g ρ):=PE.imp (b0c hc ha hb) λσ H Q ⟨μ,S,ρ,eo,rp,p⟩=>
 ⟨μ,S,ρ,eo,rp,p.bind.imp λq S1 μ1 H1 l1 r1 p1=>by
  cases q with
  | true=>exact ⟨μ1,S1,ρ,eo.later l1,r1,p1⟩
  | false=>exact ⟨μ1,S1,ρ,eo.later l1,r1,p1⟩⟩
theorem b8b {t:Env->M Bool} (h:PT X a (tBo X.K cl xe t)):PT X (.UnaryOp .Not a pos) (tBo X.K cl xe λρ=>bind (t ρ) λq=>ret (!q)):=PT.imp (b9p h) λσ H Q ⟨μ,S,ρ,eo,rp,p⟩=>
 ⟨μ,S,ρ,eo,rp,p.bind.imp λq S1 μ1 H1 l1 r1 p1=>p1.ret μ1 H1 (Lat.refl _ _) r1⟩
theorem b25 {t:Env->M Bool} (h:PT X a (tBo X.K cl xe t)):PW X (.BoolOp .And [a] pos) (tBo X.K cl xe t):=pw_and1 h
theorem b8c {t:Env->M Bool} (h:PT X a (tBo X.K cl xe t)):PW X (.BoolOp .Or [a] pos) (tBo X.K cl xe t):=pw_or1 h
theorem b9w {t u:Env->M Bool} {rest:List Expr} (h:PT X a (tBo X.K cl xe t)) (k:PW X (.BoolOp .And (b :: rest) pos) (tBo X.K cl xe u)):PW X (.BoolOp .And (a :: b :: rest) pos) (tBo X.K cl xe λρ=>bind (t ρ) λq=>if q=true then u ρ else ret false):=PW.imp (pw_and h k) λσ H Q ⟨μ,S,ρ,eo,rp,p⟩=>
 ⟨μ,S,ρ,eo,rp,p.bind.imp λq S1 μ1 H1 l1 r1 p1=>by
  cases q with
  | true=>exact ⟨μ1,S1,ρ,eo.later l1,r1,p1⟩
  | false=>exact p1.ret μ1 H1 (Lat.refl _ _) r1⟩
theorem c2q {t u:Env->M Bool} {rest:List Expr} (h:PT X a (tBo X.K cl xe t)) (k:PW X (.BoolOp .Or (b :: rest) pos) (tBo X.K cl xe u)):PW X (.BoolOp .Or (a :: b :: rest) pos) (tBo X.K cl xe λρ=>bind (t ρ) λq=>if q=true then ret true else u ρ):=PW.imp (pw_or h k) λσ H Q ⟨μ,S,ρ,eo,rp,p⟩=>
 ⟨μ,S,ρ,eo,rp,p.bind.imp λq S1 μ1 H1 l1 r1 p1=>by
  cases q with
  | true=>exact p1.ret μ1 H1 (Lat.refl _ _) r1
  | false=>exact ⟨μ1,S1,ρ,eo.later l1,r1,p1⟩⟩
noncomputable def asB (d:D):M Bool:=match d with
 | .bl b=>ret b
 | _=>bad
theorem b86 {K:PySem.W.Frag} {μ1:Mp} {H1:Hp} {S:Sto} {d:D} {v:V} {Q:Bool->Hp->Prop} (rv:RD K μ1 H1 d v) (rp:Rep K cl μ1 S H1) (p:Post K cl xe μ1 H1 (asB d S) λb _ _ H'=>Q b H'):∃ k,v=.bl k/\Q k H1:=by
 cases rv with
 | bl b=>exact ⟨b,rfl,p.ret μ1 H1 (Lat.refl _ _) rp⟩
 | _=>exact p.elim
theorem b9m {op:CmpOp} {h:D->D->M D} (ha:PE X a (tD X.K cl xe f)) (hb:PE X b (tD X.K cl xe g)) (ho:OpR X (compareOp op) (rP2 X.K cl xe h)) (hm:behindInMarks op b=false) :
  PT X (.Compare a [op] [b] pos) (tBo X.K cl xe λρ=>bind (f ρ) λx=>bind (g ρ) λy=>bind (h x y) asB):=PT.imp (b3f ho ha hb hm) λσ H Q ⟨μ,S,ρ,eo,rp,p⟩=>
 ⟨μ,S,ρ,eo,rp,p.bind.imp λx S1 μ1 H1 l1 r1 p1 v rv=>⟨μ1,S1,ρ,eo.later l1,r1,p1.bind.imp λy S2 μ2 H2 l2 r2 p2 u ru=>⟨μ2,S2,x,y,rv.later l2,ru,r2,p2.bind.imp λz S3 μ3 H3 l3 r3 p3 w rw=>b86 rw r3 p3⟩⟩⟩
end
end L3
namespace HT
open PySem PySem.Spec PyProof.Rows
theorem noFill_tuple_mul:fillsNumberSlot (.type "tuple") "mul" = pure false:=
 PySem.fillsNumberSlot_seq (id:="tuple.__mul__") (r:=some (.builtin "tuple.__rmul__")) F.slot_tuple_mul.lookup (by decide +kernel) F.slot_tuple_rmul.lookup (by decide +kernel)
theorem repeat_tuple:seqRepeat? (.type "tuple")=pure (some (.builtin "tuple.__mul__")):=by
 unfold seqRepeat?
 rw [PySem.seqSlot_of (T:="tuple") (name:="__mul__") (id:="tuple.__mul__") F.slot_tuple_mul.lookup (by decide +kernel),PySem.seqSlot_of (T:="tuple") (name:="__rmul__") (id:="tuple.__rmul__") F.slot_tuple_rmul.lookup (by decide +kernel)]
 rfl
theorem int_rmul_tuple (a:Int) (t:Tok) (l:Addr) (items:Array Value) (n:Nat) (dd:Option Addr) (sl:Array (Option Value)) :
  Meets (Builtin.«int.__rmul__» ⟨[.int a t,.ref l],[]⟩) (λ_ R s=>s.heap.get? l=some { cls:=.type "tuple",dict:=dd,data:=.seq items n,slots:=sl }/\R (.ok (.ret Value.notImplemented)) s):=
 .of_wp λprog w A R s h=>by obtain ⟨hp,g,d,tk,os⟩:=s;obtain ⟨hl,h⟩:=h;wp_walk;exact ⟨_,rfl,h⟩
theorem tuple_mul1 (l:Addr) (items:Array Value) (n:Nat) (dd:Option Addr) (sl:Array (Option Value)) (u:Tok) :
  Meets (Builtin.«tuple.__mul__» ⟨[.ref l,.int 1 u],[]⟩) (λ_ R s=>s.heap.get? l=some { cls:=.type "tuple",dict:=dd,data:=.seq items n,slots:=sl }/\R (.ok (.ret (.ref l))) s):=
 .of_wp λprog w A R s h=>by obtain ⟨hp,g,d,tk,os⟩:=s;obtain ⟨hl,h⟩:=h;wp_walk;exact ⟨_,rfl,h⟩
theorem a47 {k:Int} (h1:1<=k) (h2:k<2 ^ 63):¬ ((decide (k < -(2 ^ 63))||decide (k≥2 ^ 63))=true):=by
 simp only [Bool.or_eq_true,decide_eq_true_eq]
 omega
theorem tuple_mul2 (l:Addr) (items:Array Value) (n:Nat) (dd:Option Addr) (sl:Array (Option Value)) (k:Int) (u:Tok) (h0:¬ (items.isEmpty||k==1)=true) (h1:2<=k) (h2:k<2 ^ 63) (hsz:items.size * k.toNat<=sizeLine) :
  Meets (Builtin.«tuple.__mul__» ⟨[.ref l,.int k u],[]⟩) (λ_ R s=>s.heap.get? l=some { cls:=.type "tuple",dict:=dd,data:=.seq items n,slots:=sl }/\R (.ok (.ret (.ref s.heap.objs.size))) { s with heap:=s.heap.push { cls:=.type "tuple",data:=.seq ((List.replicate k.toNat items).foldl (·++·) #[]) } }):=
 .of_wp λprog w A R s h=>by
  obtain ⟨hp,g,d,tk,os⟩:=s;obtain ⟨hl,h⟩:=h
  have c1:=a47 (k:=k) (by omega) h2
  have hsl:(sizeLine:Nat)=2 ^ 24:=sizeLine_eq
  have ek:((k.toNat:Nat):Int)=k:=Int.toNat_of_nonneg (by omega)
  have em:(items.size:Int) * k=((items.size * k.toNat:Nat):Int):=by rw [Int.natCast_mul,ek]
  have c2:¬ (decide (k<=0)||items.isEmpty)=true:=by
   simp only [Bool.or_eq_true,decide_eq_true_eq] at h0 ⊢
   intro z
   rcases z with z | z
   ·omega
   ·exact h0 (.inl z)
  have c3:¬ ((items.size:Int) * k > (2 ^ 63-1) / 8):=by rw [em];omega
  have c4:¬ Builtin.Tuple.tupleTooMany ((items.size:Int) * k)=true:=by
   rw [em]
   simp only [Builtin.Tuple.tupleTooMany,decide_eq_true_eq]
   omega
  have hz:((List.replicate k.toNat items).foldl (·++·) #[]).size<=sizeLine:=by
   rw [AutoListH.size_joined,Nat.mul_comm];simpa using hsz
  wp_walk
  rw [if_neg c1]
  have ht:IsTup hp l items:=⟨_,hl,rfl,n,rfl⟩
  show wpAny _ _ (Builtin.Tuple.tupleItemsOf (.ref l) >>= _) _ _ _
  refine wpAny_bind (tupleItemsOf_ ht ?_)
  show wpAny _ _ (if (items.isEmpty||k==1)=true then _ else _) _ _ _
  rw [if_neg h0]
  show wpAny _ _ (if (decide (k<=0)||items.isEmpty)=true then _ else _) _ _ _
  rw [if_neg c2]
  show wpAny _ _ (if (items.size:Int) * k > (2 ^ 63-1) / 8 then _ else _) _ _ _
  rw [if_neg c3]
  show wpAny _ _ (if Builtin.Tuple.tupleTooMany ((items.size:Int) * k)=true then _ else _) _ _ _
  rw [if_neg c4]
  refine wpAny_bind (m:=Builtin.Tuple.tupleExact _) (wpAny_newObj_type ?_ hz)
  exact wpAny_pure ⟨_,rfl,h⟩
end HT
namespace L2
open PySem PySem.Spec PyProof.Rows
section
variable {X:Cx}
theorem b3b:OpR X (binaryOp .Mult) (λx y H Q=>∃ a k xs,x=.ref a/\y=.int k/\SqT X.K H a xs/\xs≠[]/\1<=k/\k<2 ^ 63/\xs.length * k.toNat<=sizeLine/\(k=1->Q (.ref a) H)/\(k≠1->∀ p,H p=none->Q (.ref p) (upd H p (.tup (List.replicate k.toNat xs).flatten)))):=by
 intro pins s σ H x y v u Q I rx ry h
 obtain ⟨a,k,xs,rfl,rfl,ha,hx,k1,k2,hz,q1,q2⟩:=h
 cases rx
 obtain ⟨t,rfl⟩:=ry
 obtain ⟨its,r1,p1,_⟩:=I.tuple ha
 obtain ⟨⟨cls,dd,data,sl⟩,ho,hc,n,hd⟩:=id p1
 simp only at hc hd
 subst hc hd
 have hl:=r1.length
 by_cases he:k=1
 ·subst he
  exact wpAny_binaryOp_repeat_ref (T:="tuple") (U:="int") (by decide) ⟨_,ho,rfl⟩ (λs'=>typeIs_int s' 1 t) HT.noFill_tuple_mul F.fills_int_mul F.slot_int_rmul HT.repeat_tuple F.slot_int_index.lookup
   (call_meets F.slot_int_rmul (typeIs_int s 1 t) F.entry_int_rmul (F.args_int_rmul_2 _ _) (HT.int_rmul_tuple 1 t a its.toArray n dd sl)
    ⟨ho,rfl,⟨_,ho,rfl⟩,call_meets F.slot_tuple_mul ⟨_,ho,rfl⟩ F.entry_tuple_mul (F.args_tuple_mul_2 _ _) (HT.tuple_mul1 a its.toArray n dd sl t) ⟨ho,.ref a,H,I,rfl,q1 rfl⟩⟩)
 ·have hne:its≠[]:=λz=>hx (r1.nil_iff.mp z)
  have h0:¬ (its.toArray.isEmpty||k==1)=true:=by
   simp only [Bool.or_eq_true,beq_iff_eq]
   rintro (z | z)
   ·exact hne (by simpa using z)
   ·exact he z
  refine wpAny_binaryOp_repeat_ref (T:="tuple") (U:="int") (by decide) ⟨_,ho,rfl⟩ (λs'=>typeIs_int s' k t) HT.noFill_tuple_mul F.fills_int_mul F.slot_int_rmul HT.repeat_tuple F.slot_int_index.lookup
   (call_meets F.slot_int_rmul (typeIs_int s k t) F.entry_int_rmul (F.args_int_rmul_2 _ _) (HT.int_rmul_tuple k t a its.toArray n dd sl)
    ⟨ho,rfl,⟨_,ho,rfl⟩,call_meets F.slot_tuple_mul ⟨_,ho,rfl⟩ F.entry_tuple_mul (F.args_tuple_mul_2 _ _) (HT.tuple_mul2 a its.toArray n dd sl k t h0 (by omega) k2 (by rw [List.size_toArray,<- hl];exact hz)) ⟨ho,?_⟩⟩)
  have f0:List.foldl (λx1 x2=>x1++x2) #[] (List.replicate k.toNat its.toArray)=(List.replicate k.toNat its).flatten.toArray:=by
   have:=N3 its k.toNat []
   rw [List.nil_append] at this
   exact this
  rw [f0]
  refine ⟨.ref s.heap.objs.size,_,I.laid (t':=s.toks) (o:=.tup (List.replicate k.toNat xs).flatten) (λb ob q=>Heap.get?_push_of_some _ q) (Nat.le_refl _) ?_,rfl,q2 he _ (I.hok.fresh (Nat.le_refl _))⟩
  exact ⟨by rw [a5t,Nat.mul_comm];exact hz,_,r1.rep k.toNat,TupN.new _ _⟩
end
end L2
namespace L3
open PySem PySem.Spec PyProof.Rows L2
noncomputable def lstOf (d:D):M (List D):=match d with
 | .lst ds=>ret ds
 | .ref n=>λS=>match S[n]? with
  | some (.lst ds)=>.ok ds S
  | _=>.bad
 | _=>bad
noncomputable def p8 (d:D):M (List D):=match d with
 | .tup ds=>ret ds
 | .scr ds=>ret ds
 | d=>lstOf d
section
variable {K:PySem.W.Frag} {cl:Nat->Addr} {xe:Addr->Hp->Prop} {μ:Mp} {H:Hp} {S:Sto} {α:Type}
theorem s0 {d:D} {v:V} {G:List D->Sto->Mp->Hp->Prop} (rd:RD K μ H d v) (rp:Rep K cl μ S H) (p:Post K cl xe μ H (lstOf d S) G):∃ a xs ds,v=.ref a/\H a=some (.lst xs)/\RDs K μ H ds xs/\lstOf d S=.ok ds S:=by
 cases rd with
 | lst h r=>exact ⟨_,_,_,rfl,h.1,r,rfl⟩
 | ref e=>
  rename_i n a
  simp only [lstOf] at p
  cases q:S[n]? with
  | none=>rw [q] at p;exact p.elim
  | some o=>
   cases o with
   | lst ds=>
    obtain ⟨xs,h1,h2⟩:=rp.ats n _ a q e
    exact ⟨a,xs,ds,rfl,h1,h2,by simp only [lstOf,q]⟩
   | dct _=>rw [q] at p;exact p.elim
   | exc _ _=>rw [q] at p;exact p.elim
 | _=>exact p.elim
theorem E5 {d:D} {v:V} {G:List D->Sto->Mp->Hp->Prop} (rd:RD K μ H d v) (rp:Rep K cl μ S H) (p:Post K cl xe μ H (p8 d S) G):∃ a xs ds,v=.ref a/\(SqL K H a xs\/SqT K H a xs)/\RDs K μ H ds xs/\p8 d S=.ok ds S:=by
 cases rd with
 | tup h r=>exact ⟨_,_,_,rfl,.inr h.sq,r,rfl⟩
 | scr h r=>exact ⟨_,_,_,rfl,.inl h.sq,r,rfl⟩
 | lst h r=>exact ⟨_,_,_,rfl,.inl h.sq,r,rfl⟩
 | ref e=>
  obtain ⟨a,xs,ds,h1,h2,h3,h4⟩:=s0 (.ref e) rp p
  exact ⟨a,xs,ds,h1,.inl (.inl (.inl h2)),h3,h4⟩
 | _=>exact p.elim
theorem Post.ok_bind {β:Type} {m:M α} {k:α->M β} {a:α} {G:β->Sto->Mp->Hp->Prop} (e:m S=.ok a S) (p:Post K cl xe μ H (L3.bind m k S) G):Post K cl xe μ H (k a S) G:=by
 unfold L3.bind at p;rw [e] at p;exact p
theorem y3 {ds:List D} {xs:List V} {p:Addr} (rp:Rep K cl μ S H) (r:RDs K μ H ds xs) (hp:H p=none):Lat μ H μ (upd H p (.tup xs))/\Rep K cl μ S (upd H p (.tup xs))/\RD K μ (upd H p (.tup xs)) (.tup ds) (.ref p):=
 ⟨Lat.laid hp,rp.laid hp,.tup (.inl ⟨.inl b8,rp.notin hp,rp.notrs hp⟩) (r.later (Lat.laid hp))⟩
theorem v9 {ds:List D} {xs:List V} {p:Addr} (rp:Rep K cl μ S H) (r:RDs K μ H ds xs) (hp:H p=none):Lat μ H μ (upd H p (.lst xs))/\Rep K cl μ S (upd H p (.lst xs))/\RD K μ (upd H p (.lst xs)) (.lst ds) (.ref p):=
 ⟨Lat.laid hp,rp.laid hp,.lst ⟨b8,rp.notin hp,rp.notrs hp⟩ (r.later (Lat.laid hp))⟩
theorem a0b {ds:List D} {xs:List V} {p:Addr} (rp:Rep K cl μ S H) (r:RDs K μ H ds xs) (hp:H p=none):Lat μ H (μ.push p) (upd H p (.lst xs))/\Rep K cl (μ.push p) (S++[.lst ds]) (upd H p (.lst xs))/\RD K (μ.push p) (upd H p (.lst xs)) (.ref S.length) (.ref p):=by
 have k:∀ a u,H a=some u->upd H p (.lst xs) a=some u:=λa u e=>by rw [a8 (b6 e hp)];exact e
 have l:=Lat.pushed (μ:=μ) hp k
 refine ⟨l,rp.pushed hp k ⟨xs,b8,r.later l⟩,.ref ?_⟩
 show (μ.pl++[p])[S.length]?=some p
 rw [<- rp.len];simp
theorem Post.guard {c:Prop} [Decidable c] {a:α} {G:α->Sto->Mp->Hp->Prop} (p:Post K cl xe μ H ((if c then L3.ret a else L3.bad) S) G):c/\∀ μ' H',Lat μ H μ' H'->Rep K cl μ' S H'->G a S μ' H':=by
 by_cases hc:c
 ·rw [if_pos hc] at p;exact ⟨hc,p⟩
 ·rw [if_neg hc] at p;exact p.elim
end
noncomputable def f8 {α β:Type} (f:α->Option β):List α->Option (List β)
 | []=>some []
 | x :: xs=>match f x,f8 f xs with
  | some y,some ys=>some (y :: ys)
  | _,_=>none
noncomputable def i9:Nat->Sto->D->Option PyData
 | 0,_,_=>none
 | n+1,S,d=>match d with
  | .non=>some .none
  | .bl b=>some (.bool b)
  | .int i=>some (.int i)
  | .str x=>some (.str x)
  | .tup ds=>(f8 (i9 n S) ds).map .tuple
  | .lst ds=>(f8 (i9 n S) ds).map .list
  | .scr ds=>(f8 (i9 n S) ds).map .list
  | .ref k=>match S[k]? with
   | some (.lst ds)=>(f8 (i9 n S) ds).map .list
   | _=>none
theorem a2x {K:PySem.W.Frag} {μ:Mp} {H:Hp} {S:Sto} {n:Nat} (ih:∀ {d:D} {v:V} {q:PyData},i9 n S d=some q->RD K μ H d v->DAt K H v q):∀ {ds:List D} {vs:List V} {qs:List PyData},f8 (i9 n S) ds=some qs->RDs K μ H ds vs->DAll K H vs qs
 | [],_,qs,e,r=>by cases r;cases e;exact .nil
 | d :: ds,_,qs,e,r=>by
  cases r with
  | cons h t=>
   simp only [f8] at e
   cases e1:i9 n S d with
   | none=>rw [e1] at e;cases e
   | some q=>
    cases e2:f8 (i9 n S) ds with
    | none=>rw [e1,e2] at e;cases e
    | some qs'=>
     rw [e1,e2] at e;cases e
     exact .cons (ih e1 h) (a2x ih e2 t)
theorem u4 {K:PySem.W.Frag} {cl:Nat->Addr} {μ:Mp} {H:Hp} {S:Sto} (rp:Rep K cl μ S H):∀ (n:Nat) {d:D} {v:V} {q:PyData},i9 n S d=some q->RD K μ H d v->DAt K H v q
 | 0,_,_,_,e,_=>by cases e
 | n+1,d,v,q,e,r=>by
  have all:∀ {ds:List D} {vs:List V} {qs:List PyData},f8 (i9 n S) ds=some qs->RDs K μ H ds vs->DAll K H vs qs:=λe r=>a2x (λe r=>u4 rp n e r) e r
  have um:∀ {ds:List D} {C:List PyData->PyData},(f8 (i9 n S) ds).map C=some q->∃ qs,f8 (i9 n S) ds=some qs/\q=C qs:=λ{ds C} e=>by
   cases e1:f8 (i9 n S) ds with
   | none=>rw [e1] at e;cases e
   | some qs=>rw [e1] at e;cases e;exact ⟨qs,rfl,rfl⟩
  cases r with
  | non=>cases e;exact .non
  | bl b=>cases e;exact .bl b
  | int i=>cases e;exact .int i
  | str x=>cases e;exact .str x
  | tup h t=>obtain ⟨qs,e1,rfl⟩:=um e;exact .tup h.sq (all e1 t)
  | lst h t=>obtain ⟨qs,e1,rfl⟩:=um e;exact .lst h.sq (all e1 t)
  | scr h t=>obtain ⟨qs,e1,rfl⟩:=um e;exact .lst h.sq (all e1 t)
  | ref h=>
   rename_i k a
   simp only [i9] at e
   cases q1:S[k]? with
   | none=>rw [q1] at e;cases e
   | some o=>
    rw [q1] at e
    cases o with
    | lst ds=>
     obtain ⟨qs,e1,rfl⟩:=um e
     obtain ⟨xs,h1,h2⟩:=rp.ats k _ a q1 h
     exact .lst (.inl (.inl h1)) (all e1 h2)
    | dct _=>cases e
    | exc _ _=>cases e
noncomputable def E2 (x y:D):M D:=match x,y with
 | .int i,.int j=>ret (.int (i+j))
 | .str a,.str b=>if a.length+b.length<=sizeLine then ret (.str (a++b)) else bad
 | .tup xs,.tup ys=>if xs.length+ys.length<=sizeLine then ret (.tup (xs++ys)) else bad
 | x,y=>bind (lstOf x) λxs=>bind (lstOf y) λys=>if xs.length+ys.length<=sizeLine then ret (.lst (xs++ys)) else bad
noncomputable def a0u (x y:D):M D:=match x,y with
 | .int i,.int j=>ret (.int (i-j))
 | _,_=>bad
instance (i j:Int):Decidable (CMul i j):=by unfold CMul;infer_instance
instance (i j:Int):Decidable (a8p i j):=by unfold a8p;infer_instance
instance (i j:Int):Decidable (b3c i j):=by unfold b3c;infer_instance
noncomputable def V4 (x y:D):M D:=match x,y with
 | .int i,.int j=>if 0<j then ret (.int (i % j)) else bad
 | _,_=>bad
noncomputable def Q1 (x y:D):M D:=match x,y with
 | .int i,.int j=>if a8p i j then ret (.int (i / j)) else bad
 | _,_=>bad
noncomputable def a45 (x y:D):M D:=match x,y with
 | .int i,.int j=>if b3c i j then ret (.int (i ^ j.toNat)) else bad
 | _,_=>bad
noncomputable def C5 (x y:D):M D:=match x,y with
 | .int i,.int j=>if CMul i j then ret (.int (i * j)) else bad
 | .tup ds,.int k=>if (ds≠[]/\1<=k/\k<2 ^ 63)/\ds.length * k.toNat<=sizeLine then ret (.tup (List.replicate k.toNat ds).flatten) else bad
 | x,.int k=>bind (lstOf x) λxs=>if (-(2 ^ 63)<=k/\k<2 ^ 63)/\xs.length * k.toNat<=sizeLine then ret (.lst (List.replicate k.toNat xs).flatten) else bad
 | _,_=>bad
section
variable {X:Cx} {cl:Nat->Addr} {xe:Addr->Hp->Prop}
theorem b04:OpR X (binaryOp .Add) (λx y H Q=>∃ a b ys,x=.ref a/\y=.ref b/\SqT X.K H a []/\SqT X.K H b ys/\Q (.ref b) H):=by
 intro pins s σ H x y v u Q I rx ry h
 obtain ⟨a,b,ys,rfl,rfl,ha,hb,q⟩:=h
 cases rx
 cases ry
 obtain ⟨its,r1,p1,_⟩:=I.tuple ha
 obtain ⟨its2,r2,p2,_⟩:=I.tuple hb
 cases r1
 obtain ⟨⟨cls,dd,data,sl⟩,ho,hc,n,hd⟩:=id p1
 obtain ⟨⟨cls2,dd2,data2,sl2⟩,ho2,hc2,n2,hd2⟩:=id p2
 simp only at hc hd hc2 hd2
 subst hc hd hc2 hd2
 exact concat_meets ⟨_,ho,rfl⟩ ⟨_,ho2,rfl⟩ noFill_tuple_add seq_tuple_add PySem.F.slot_tuple_add PySem.F.entry_tuple_add (PySem.F.args_tuple_add_2 _ _)
   (tuple_addW0 a b #[] its2.toArray n n2 dd dd2 sl sl2 rfl) ⟨ho,ho2,⟨.ref b,H,I,rfl,q⟩⟩
theorem c3l:OpR X (binaryOp .Add) (rP2 X.K cl xe E2):=by
 intro pins s σ H x y v u Q I rx ry ⟨μ,S,d,e,rd,re,rp,p⟩
 have L:Post X.K cl xe μ H (bind (lstOf d) (λxs=>bind (lstOf e) λys=>if xs.length+ys.length<=sizeLine then ret (.lst (xs++ys)) else bad) S) (λr _ μ' H'=>∀ v,RD X.K μ' H' r v->Q v H')->wpAny (model X.prog X.w) X.A (binaryOp .Add v u) (EP X pins σ Q) X.xe s:=λp=>by
  obtain ⟨a,xs,ds,rfl,h1,r1,e1⟩:=s0 rd rp p.bind
  have p:=p.ok_bind e1
  obtain ⟨b,ys,es,rfl,h2,r2,e2⟩:=s0 re rp p.bind
  obtain ⟨hl,p⟩:=(p.ok_bind e2).guard
  refine b76 pins s σ H _ _ v u Q I rx ry ⟨a,b,xs,ys,rfl,rfl,h1,h2,by rw [<- r1.length,<- r2.length];exact hl,λz hz=>?_⟩
  obtain ⟨l,rp2,rd2⟩:=v9 rp (r1.append r2) hz
  exact p μ _ l rp2 _ rd2
 cases d <;> cases e <;> try (exact L p)
 case int.int i j=>cases rd;cases re;exact b72 pins s σ H _ _ v u Q I rx ry ⟨i,j,rfl,rfl,p μ H (Lat.refl _ _) rp _ (.int _)⟩
 case str.str i j=>
  cases rd;cases re
  obtain ⟨hl,p⟩:=Post.guard p
  exact a4y pins s σ H _ _ v u Q I rx ry ⟨i,j,rfl,rfl,hl,p μ H (Lat.refl _ _) rp _ (.str _)⟩
 case tup.tup ds es=>
  obtain ⟨hl,p⟩:=Post.guard p
  cases rd with
  | tup h1 r1=>
   cases re with
   | tup h2 r2=>
    rename_i a xs b ys
    cases ds with
    | nil=>
     cases r1
     exact b04 pins s σ H _ _ v u Q I rx ry ⟨a,b,ys,rfl,rfl,h1.sq,h2.sq,p μ H (Lat.refl _ _) rp _ (.tup h2 r2)⟩
    | cons d ds=>
     cases r1 with
     | cons q1 q2=>
      rename_i v1 vs1
      refine b4f pins s σ H _ _ v u Q I rx ry ⟨a,b,_,ys,rfl,rfl,h1.sq,h2.sq,by simp,by rw [<- r2.length];simpa [q2.length] using hl,λz=>?_,λz w hw=>?_⟩
      ·subst z
       cases r2
       rw [List.append_nil] at p
       exact p μ H (Lat.refl _ _) rp _ (.tup h1 (.cons q1 q2))
      ·obtain ⟨l,rp2,rd2⟩:=y3 rp ((RDs.cons q1 q2).append r2) hw
       exact p μ _ l rp2 _ rd2
theorem c14:OpR X (binaryOp .Sub) (rP2 X.K cl xe a0u):=by
 intro pins s σ H x y v u Q I rx ry ⟨μ,S,d,e,rd,re,rp,p⟩
 cases d <;> cases e <;> try (exact False.elim p)
 case int.int i j=>cases rd;cases re;exact b7x pins s σ H _ _ v u Q I rx ry ⟨i,j,rfl,rfl,p μ H (Lat.refl _ _) rp _ (.int _)⟩
theorem c2c:OpR X (binaryOp .Mod) (rP2 X.K cl xe V4):=by
 intro pins s σ H x y v u Q I rx ry ⟨μ,S,d,e,rd,re,rp,p⟩
 cases d <;> cases e <;> try (exact False.elim p)
 case int.int i j=>
  cases rd;cases re
  obtain ⟨hl,p⟩:=Post.guard p
  exact b9u pins s σ H _ _ v u Q I rx ry ⟨i,j,rfl,rfl,hl,p μ H (Lat.refl _ _) rp _ (.int _)⟩
theorem b92:OpR X (binaryOp .FloorDiv) (rP2 X.K cl xe Q1):=by
 intro pins s σ H x y v u Q I rx ry ⟨μ,S,d,e,rd,re,rp,p⟩
 cases d <;> cases e <;> try (exact False.elim p)
 case int.int i j=>
  cases rd;cases re
  obtain ⟨hl,p⟩:=Post.guard p
  exact b4i pins s σ H _ _ v u Q I rx ry ⟨i,j,rfl,rfl,hl,p μ H (Lat.refl _ _) rp _ (.int _)⟩
theorem c1k:OpR X (binaryOp .Pow) (rP2 X.K cl xe a45):=by
 intro pins s σ H x y v u Q I rx ry ⟨μ,S,d,e,rd,re,rp,p⟩
 cases d <;> cases e <;> try (exact False.elim p)
 case int.int i j=>
  cases rd;cases re
  obtain ⟨hl,p⟩:=Post.guard p
  exact b7e pins s σ H _ _ v u Q I rx ry ⟨i,j,rfl,rfl,hl,p μ H (Lat.refl _ _) rp _ (.int _)⟩
theorem c2o:OpR X (binaryOp .Mult) (rP2 X.K cl xe C5):=by
 intro pins s σ H x y v u Q I rx ry ⟨μ,S,d,e,rd,re,rp,p⟩
 have L:∀ k:Int,e=.int k->Post X.K cl xe μ H (bind (lstOf d) (λxs=>if (-(2 ^ 63)<=k/\k<2 ^ 63)/\xs.length * k.toNat<=sizeLine then ret (.lst (List.replicate k.toNat xs).flatten) else bad) S) (λr _ μ' H'=>∀ v,RD X.K μ' H' r v->Q v H')->wpAny (model X.prog X.w) X.A (binaryOp .Mult v u) (EP X pins σ Q) X.xe s:=λk he q=>by
  clear p
  subst he
  cases re
  obtain ⟨a,xs,ds,rfl,h1,r1,e1⟩:=s0 rd rp q.bind
  obtain ⟨⟨⟨k1,k2⟩,hl⟩,p⟩:=(q.ok_bind e1).guard
  refine b9v pins s σ H _ _ v u Q I rx ry ⟨a,k,xs,rfl,rfl,h1,k1,k2,by rw [<- r1.length];exact hl,λz hz=>?_⟩
  obtain ⟨l,rp2,rd2⟩:=v9 rp (r1.rep k.toNat) hz
  exact p μ _ l rp2 _ rd2
 cases d <;> cases e <;> try (exact False.elim p)
 case int.int i j=>
  cases rd;cases re
  obtain ⟨hl,p⟩:=Post.guard p
  exact c0k pins s σ H _ _ v u Q I rx ry ⟨i,j,rfl,rfl,hl,p μ H (Lat.refl _ _) rp _ (.int _)⟩
 case tup.int ds k=>
  cases re
  obtain ⟨⟨⟨k0,k1,k2⟩,hl⟩,p⟩:=Post.guard p
  cases rd with
  | tup h1 r1=>
   rename_i a xs
   have hx:xs≠[]:=λz=>by subst z;cases r1;exact k0 rfl
   refine b3b pins s σ H _ _ v u Q I rx ry ⟨a,k,xs,rfl,rfl,h1.sq,hx,k1,k2,by rw [<- r1.length];exact hl,λz=>?_,λz w hw=>?_⟩
   ·subst z
    have e:(List.replicate (1:Int).toNat ds).flatten=ds:=by simp
    rw [e] at p
    exact p μ H (Lat.refl _ _) rp _ (.tup h1 r1)
   ·obtain ⟨l,rp2,rd2⟩:=y3 rp (r1.rep k.toNat) hw
    exact p μ _ l rp2 _ rd2
 all_goals exact L _ rfl p
end
noncomputable def eqP (neg:Bool) (x y:D):M D:=λS=>match i9 64 S x,i9 64 S y with
 | some p,some q=>(if p.canLay0=true/\q.canLay0=true/\min p.depth q.depth<=60 then ret (.bl (if neg then !PyData.eqv p q else PyData.eqv p q)) else bad) S
 | _,_=>.bad
noncomputable def eqD (neg:Bool) (x y:D):M D:=match x,y with
 | .str a,.str b=>ret (.bl (if neg then !decide (a=b) else decide (a=b)))
 | .int a,.int b=>ret (.bl (if neg then !decide (a=b) else decide (a=b)))
 | x,y=>eqP neg x y
noncomputable def a8v (f:Int->Int->Bool) (x y:D):M D:=match x,y with
 | .int i,.int j=>ret (.bl (f i j))
 | _,_=>bad
noncomputable def b4r (neg:Bool) (d:PyData) (ps:List PyData):M D:=if d.canLay0=true/\PyData.canLayAll0 ps=true/\min (PyData.depthAll ps) d.depth<=60 then ret (.bl (if neg then !(ps.any λy=>PyData.eqv y d) else ps.any λy=>PyData.eqv y d)) else bad
noncomputable def inD (neg:Bool) (x y:D):M D:=λS=>match i9 64 S x,i9 64 S y with
 | some d,some (.list ps)=>b4r neg d ps S
 | some d,some (.tuple ps)=>b4r neg d ps S
 | _,_=>.bad
noncomputable def isD (neg:Bool) (x y:D):M D:=match y with
 | .non=>ret (.bl (match x with
  | .non=>!neg
  | _=>neg))
 | .bl b=>ret (.bl (match x with
  | .bl c=>if neg then !(c==b) else c==b
  | _=>neg))
 | _=>bad
section
variable {X:Cx} {cl:Nat->Addr} {xe:Addr->Hp->Prop}
theorem c58 (hu:X.A.units+64<cLine):OpR X (compareOp .Eq) (rP2 X.K cl xe (eqD false)):=by
 intro pins s σ H x y v u Q I rx ry ⟨μ,S,d,e,rd,re,rp,p⟩
 have gen:Post X.K cl xe μ H (eqP false d e S) (λr _ μ' H'=>∀ v,RD X.K μ' H' r v->Q v H')->wpAny (model X.prog X.w) X.A (compareOp .Eq v u) (EP X pins σ Q) X.xe s:=λp=>by
  simp only [eqP] at p
  cases e1:i9 64 S d with
  | none=>rw [e1] at p;exact p.elim
  | some a=>
   cases e2:i9 64 S e with
   | none=>rw [e1,e2] at p;exact p.elim
   | some b=>
    rw [e1,e2] at p
    obtain ⟨⟨c1,c2,c3⟩,p⟩:=Post.guard p
    exact b7o hu pins s σ H _ _ v u Q I rx ry ⟨a,b,u4 rp 64 e1 rd,u4 rp 64 e2 re,c1,c2,c3,p μ H (Lat.refl _ _) rp _ (.bl _)⟩
 cases d <;> cases e <;> try (exact gen p)
 case str.str a b=>
  cases rd;cases re
  exact c24 pins s σ H _ _ v u Q I rx ry ⟨rfl,by rw [show decide (V.str a=V.str b)=decide (a=b) by rw [Bool.eq_iff_iff];simp];exact p μ H (Lat.refl _ _) rp _ (.bl _)⟩
theorem c6l (hu:X.A.units+64<cLine):OpR X (compareOp .NotEq) (rP2 X.K cl xe (eqD true)):=by
 intro pins s σ H x y v u Q I rx ry ⟨μ,S,d,e,rd,re,rp,p⟩
 have gen:Post X.K cl xe μ H (eqP true d e S) (λr _ μ' H'=>∀ v,RD X.K μ' H' r v->Q v H')->wpAny (model X.prog X.w) X.A (compareOp .NotEq v u) (EP X pins σ Q) X.xe s:=λp=>by
  simp only [eqP] at p
  cases e1:i9 64 S d with
  | none=>rw [e1] at p;exact p.elim
  | some a=>
   cases e2:i9 64 S e with
   | none=>rw [e1,e2] at p;exact p.elim
   | some b=>
    rw [e1,e2] at p
    obtain ⟨⟨c1,c2,c3⟩,p⟩:=Post.guard p
    exact b88 hu pins s σ H _ _ v u Q I rx ry ⟨a,b,u4 rp 64 e1 rd,u4 rp 64 e2 re,c1,c2,c3,p μ H (Lat.refl _ _) rp _ (.bl _)⟩
 cases d <;> cases e <;> try (exact gen p)
 case str.str a b=>
  cases rd;cases re
  exact c1p pins s σ H _ _ v u Q I rx ry ⟨rfl,by rw [show decide (V.str a=V.str b)=decide (a=b) by rw [Bool.eq_iff_iff];simp];exact p μ H (Lat.refl _ _) rp _ (.bl _)⟩
theorem a5b {op:CmpOp} {f:Int->Int->Bool} (ho:OpR X (compareOp op) (rI0 λi j=>.bl (f i j))):OpR X (compareOp op) (rP2 X.K cl xe (a8v f)):=by
 intro pins s σ H x y v u Q I rx ry ⟨μ,S,d,e,rd,re,rp,p⟩
 cases d <;> cases e <;> try (exact False.elim p)
 case int.int i j=>cases rd;cases re;exact ho pins s σ H _ _ v u Q I rx ry ⟨i,j,rfl,rfl,p μ H (Lat.refl _ _) rp _ (.bl _)⟩
theorem Y2 {neg:Bool} (hu:X.A.units+80<cLine) {pins:List (Addr×Obj)} {s:Shared} {σ:L2.St} {H:Hp} {x y:V} {v u:Value} {Q:VK} {d:PyData} {ps:List PyData} (I:Inv X pins σ H s) (rx:RelV x v) (ry:RelV y u)
  (hd:DAt X.K H x d) (hy:DAt X.K H y (.list ps)\/DAt X.K H y (.tuple ps)) (c:d.canLay0=true/\PyData.canLayAll0 ps=true/\min (PyData.depthAll ps) d.depth<=60)
  (q:Q (.bl (if neg then !(ps.any λy=>PyData.eqv y d) else ps.any λy=>PyData.eqv y d)) H):wpAny (model X.prog X.w) X.A (compareOp (if neg then .NotIn else .In) v u) (EP X pins σ Q) X.xe s:=by
 obtain ⟨c1,c2,c3⟩:=c
 obtain ⟨as,r1⟩:=hd.reads I rx
 have hu':X.A.units+1+min (PyData.depthAll ps) d.depth<cLine:=by omega
 rcases hy with hy | hy
 ·obtain ⟨bs,r2⟩:=hy.reads I ry
  cases neg with
  | false=>exact SeqAt.in_list_reads r2 r1 c2 c1 hu' ⟨.bl _,H,I,rfl,q⟩
  | true=>exact SeqAt.notIn_list_reads r2 r1 c2 c1 hu' ⟨.bl _,H,I,rfl,q⟩
 ·obtain ⟨bs,r2⟩:=hy.reads I ry
  cases neg with
  | false=>exact SeqAt.in_tuple_reads r2 r1 c2 c1 hu' ⟨.bl _,H,I,rfl,q⟩
  | true=>exact SeqAt.notIn_tuple_reads r2 r1 c2 c1 hu' ⟨.bl _,H,I,rfl,q⟩
theorem c4p (neg:Bool) (hu:X.A.units+80<cLine):OpR X (compareOp (if neg then .NotIn else .In)) (rP2 X.K cl xe (inD neg)):=by
 intro pins s σ H x y v u Q I rx ry ⟨μ,S,d,e,rd,re,rp,p⟩
 simp only [inD] at p
 cases e1:i9 64 S d with
 | none=>rw [e1] at p;exact p.elim
 | some a=>
  cases e2:i9 64 S e with
  | none=>rw [e1,e2] at p;exact p.elim
  | some b=>
   rw [e1,e2] at p
   have ha:=u4 rp 64 e1 rd
   have hb:=u4 rp 64 e2 re
   cases b with
   | list ps=>obtain ⟨c,p⟩:=Post.guard p;exact Y2 hu I rx ry ha (.inl hb) c (p μ H (Lat.refl _ _) rp _ (.bl _))
   | tuple ps=>obtain ⟨c,p⟩:=Post.guard p;exact Y2 hu I rx ry ha (.inr hb) c (p μ H (Lat.refl _ _) rp _ (.bl _))
   | _=>exact p.elim
theorem c44 (neg:Bool):OpR X (compareOp (if neg then .IsNot else .Is)) (rP2 X.K cl xe (isD neg)):=by
 intro pins s σ H x y v u Q I rx ry ⟨μ,S,d,e,rd,re,rp,p⟩
 have fin:∀ b:Bool,(∀ μ' H',Lat μ H μ' H'->Rep X.K cl μ' S H'->∀ v,RD X.K μ' H' (.bl b) v->Q v H')->∀ c,c=b->EP X pins σ Q (.bool c) s:=λb p c e=>⟨.bl b,H,I,by rw [e];rfl,p μ H (Lat.refl _ _) rp _ (.bl _)⟩
 cases re <;> try (exact False.elim p)
 case non=>
  cases ry
  cases neg with
  | false=>
   refine is_none_gen (fin _ p _ ?_)
   cases rd <;> first
    | (cases rx;rfl)
    | (obtain ⟨t,rfl⟩:=rx;rfl)
  | true=>
   refine isnot_none_gen (fin _ p _ ?_)
   cases rd <;> first
    | (cases rx;rfl)
    | (obtain ⟨t,rfl⟩:=rx;rfl)
 case bl b=>
  cases ry
  cases neg with
  | false=>
   refine wpAny_is_plain ?_ (fin _ p _ ?_)
   ·cases rd <;> first
    | (cases rx;rfl)
    | (obtain ⟨t,rfl⟩:=rx;rfl)
   ·cases rd <;> first
    | (cases rx;rfl)
    | (obtain ⟨t,rfl⟩:=rx;rfl)
    | (cases rx;(rename_i c;cases c <;> cases b <;> rfl))
  | true=>
   refine wpAny_isNot_plain ?_ (fin _ p _ ?_)
   ·cases rd <;> first
    | (cases rx;rfl)
    | (obtain ⟨t,rfl⟩:=rx;rfl)
   ·cases rd <;> first
    | (cases rx;rfl)
    | (obtain ⟨t,rfl⟩:=rx;rfl)
    | (cases rx;(rename_i c;cases c <;> cases b <;> rfl))
end
noncomputable def X8:D->Option Key
 | .int i=>some (.inl i)
 | .str x=>some (.inr x)
 | _=>none
noncomputable def b4v {κ:Type} [DecidableEq κ] (kvs:List (κ×D)) (k:κ):Option D:=(kvs.find? λkv=>decide (kv.1=k)).map (·.2)
noncomputable def c01 {κ:Type} [DecidableEq κ] (kvs:List (κ×D)) (k:κ) (v:D):List (κ×D):=if kvs.any (λkv=>decide (kv.1=k)) then kvs.map (λkv=>if kv.1=k then (kv.1,v) else kv) else kvs++[(k,v)]
noncomputable def V0 {α:Type}:Option α->M α
 | some a=>ret a
 | none=>bad
noncomputable def ixD (x y:D):M D:=match x with
 | .ref n=>λS=>match S[n]? with
  | some (.lst ds)=>(match y with
   | .int i=>V0 (atI ds i)
   | _=>bad) S
  | some (.dct kvs)=>V0 ((X8 y).bind (b4v kvs)) S
  | _=>.bad
 | x=>match y with
  | .int i=>bind (p8 x) λds=>V0 (atI ds i)
  | _=>bad
theorem b7t {K:PySem.W.Frag} {μ:Mp} {H:Hp} {ds:List D} {xs:List V} {i:Int} {d:D} (r:RDs K μ H ds xs) (e:atI ds i=some d):∃ v,atI xs i=some v/\RD K μ H d v:=by
 unfold atI at e ⊢
 rw [<- r.length]
 cases q:ixN ds.length i with
 | none=>rw [q] at e;cases e
 | some j=>rw [q] at e;exact r.get e
theorem a5r {K:PySem.W.Frag} {cl:Nat->Addr} {xe:Addr->Hp->Prop} {μ:Mp} {H:Hp} {S:Sto} {α:Type} {o:Option α} {G:α->Sto->Mp->Hp->Prop} (p:Post K cl xe μ H (V0 o S) G):∃ a,o=some a/\∀ μ' H',Lat μ H μ' H'->Rep K cl μ' S H'->G a S μ' H':=by
 cases o with
 | none=>exact p.elim
 | some a=>exact ⟨a,rfl,p⟩
theorem a5i {K:PySem.W.Frag} {μ:Mp} {H:Hp} {k:Key} {d:D}:∀ {kvs:List (Key×D)} {ks:List (Key×V)},KvsAt K μ H kvs ks->b4v kvs k=some d->∃ v,Q4 ks k=some v/\RD K μ H d v
 | _,_,.nil,e=>by simp [b4v] at e
 | p :: r,q :: r',.cons ⟨h1,h2⟩ t,e=>by
  unfold b4v at e
  rw [List.find?_cons] at e
  by_cases hk:p.1=k
  ·simp only [hk,decide_true] at e
   cases e
   exact ⟨q.2,N0 (h1▸hk),h2⟩
  ·simp only [hk,decide_false] at e
   obtain ⟨v,e1,e2⟩:=a5i (k:=k) (d:=d) t e
   exact ⟨v,by rw [M8 (h1▸hk)];exact e1,e2⟩
theorem a12 {K:PySem.W.Frag} {μ:Mp} {H:Hp} {y:D} {v:V} {k:Key} (r:RD K μ H y v) (e:X8 y=some k):v=kV k:=by
 cases r <;> simp only [X8] at e <;> first | (cases e;rfl) | cases e
section
variable {X:Cx} {cl:Nat->Addr} {xe:Addr->Hp->Prop}
theorem b29 (hu:X.A.units+1<cLine):IxR X (λx y H Q=>∃ a v,x=.ref a/\DGet H a y (some v)/\Q v H):=by
 intro value slice pins s σ H x y v u Q I rx ry h hs
 obtain ⟨a,w,rfl,g,q⟩:=h
 cases rx
 have hT:=a28 I g
 have h₂:wpAny (model X.prog X.w) X.A (getItem (.ref a) u) (EP X pins σ Q) X.xe s:=a8a hu I g ry λw' s3 I3 rw'=>⟨w,H,I3,rw',q⟩
 unfold subscriptTail
 refine wpAny_bind ?_
 rw [getitemInPython_of_ne hT.not_modules]
 refine wpAny_bind (wpAny_specialOf hT PySem.F.slot_dict_getitem.lookup ?_)
 have fin:wpAny (model X.prog X.w) X.A (subscripted slice false (.ref a) u) (λr s₃=>wpAny (model X.prog X.w) X.A (letTemporaryGo value (.ref a) r >>= λ_=>pure r) (EP X pins σ Q) X.xe s₃) X.xe s:=by
  rw [hs]
  exact wpAny_operating (wpAny_mono h₂ (λr s₃ h₃=>wpAny_bind (wpAny_letTemporaryGo (wpAny_pure h₃))) λ_ _ x=>x)
 first
  | exact wpAny_pure (wpAny_bind fin)
  | exact wpAny_bind (wpAny_pure (wpAny_bind fin))
  | exact wpAny_bind fin
theorem c6r (hu:X.A.units+1<cLine):IxR X (rP2 X.K cl xe ixD):=by
 intro value slice pins s σ H x y v u Q I rx ry ⟨μ,S,d,e,rd,re,rp,p⟩ hs
 have sq:∀ {a:Addr} {xs:List V} {ds:List D} {i:Int},(SqL X.K H a xs\/SqT X.K H a xs)->RDs X.K μ H ds xs->x=.ref a->e=.int i->Post X.K cl xe μ H (V0 (atI ds i) S) (λr _ μ' H'=>∀ v,RD X.K μ' H' r v->Q v H') ->
   wpAny (model X.prog X.w) X.A (subscriptTail value slice v u) (EP X pins σ Q) X.xe s:=λ{a xs ds i} hq r hx he q=>by
  clear p
  subst hx he
  cases re
  obtain ⟨z,e1,q⟩:=a5r q
  obtain ⟨w,e2,rw'⟩:=b7t r e1
  rcases hq with hq | hq
  ·exact b4y value slice pins s σ H _ _ v u Q I rx ry ⟨a,xs,i,w,rfl,rfl,hq,e2,q μ H (Lat.refl _ _) rp _ rw'⟩ hs
  ·exact b7v value slice pins s σ H _ _ v u Q I rx ry ⟨a,xs,i,w,rfl,rfl,hq,e2,q μ H (Lat.refl _ _) rp _ rw'⟩ hs
 cases rd with
 | tup h r=>
  cases e <;> first | exact False.elim p | exact sq (.inr h.sq) r rfl rfl p
 | lst h r=>
  cases e <;> first | exact False.elim p | exact sq (.inl h.sq) r rfl rfl p
 | scr h r=>
  cases e <;> first | exact False.elim p | exact sq (.inl h.sq) r rfl rfl p
 | ref h=>
  rename_i n a
  simp only [ixD] at p
  cases q1:S[n]? with
  | none=>rw [q1] at p;exact p.elim
  | some o=>
   rw [q1] at p
   cases o with
   | lst ds=>
    obtain ⟨xs,h1,h2⟩:=rp.ats n _ a q1 h
    cases e <;> first | exact False.elim p | exact sq (.inl (.inl (.inl h1))) h2 rfl rfl p
   | dct kvs=>
    obtain ⟨ks,h1,h2⟩:=rp.ats n _ a q1 h
    obtain ⟨z,e1,p⟩:=a5r p
    cases e2:X8 e with
    | none=>rw [e2] at e1;cases e1
    | some k=>
     rw [e2] at e1
     obtain ⟨w,e3,r3⟩:=a5i h2 e1
     have hy:=a12 re e2
     subst hy
     exact b29 hu value slice pins s σ H _ _ v u Q I rx ry ⟨a,w,rfl,by rw [<- e3];exact DGet.k h1,p μ H (Lat.refl _ _) rp _ r3⟩ hs
   | exc _ _=>exact p.elim
 | _=>cases e <;> exact False.elim p
noncomputable def A7 (ds:List D) (lo hi:Option Int):List D:=(ds.drop (HT.sIx ds.length 0 lo)).take (HT.sIx ds.length ds.length hi-HT.sIx ds.length 0 lo)
theorem b20 {K:PySem.W.Frag} {μ:Mp} {H:Hp} {ds:List D} {xs:List V} (r:RDs K μ H ds xs) (lo hi:Option Int):RDs K μ H (A7 ds lo hi) (a2n xs lo hi):=by
 unfold A7 a2n
 rw [<- r.length]
 exact (r.drop _).take _
noncomputable def slD (x:D) (lo hi:Option Int):M D:=match x with
 | .tup ds=>ret (.tup (A7 ds lo hi))
 | x=>bind (match x with
  | .scr ds=>ret ds
  | x=>lstOf x) λds=>ret (.lst (A7 ds lo hi))
end
noncomputable def noStar:Expr->Bool
 | .Starred ..=>false
 | _=>true
noncomputable def k9:Expr->Bool
 | .ListComp ..=>false
 | .SetComp ..=>false
 | .DictComp ..=>false
 | _=>true
noncomputable def C3:Expr->Bool
 | .Slice ..=>false
 | _=>true
noncomputable def t0:Expr->Bool
 | .Set ..=>false
 | _=>true
noncomputable def y4:Expr->Bool
 | .Call (.Name _ _) [] [] _=>false
 | _=>true
noncomputable def B0:Expr->Bool
 | .UnaryOp .Not _ _=>false
 | .BoolOp ..=>false
 | .IfExp ..=>false
 | .Compare ..=>false
 | _=>true
theorem d8 {e:Expr} {es:List Expr} {env:PySem.Env} (h:noStar e=true):starEach (e :: es) env=(false,eval e env) :: starEach es env:=by
 cases e <;> first | rfl | (exact absurd h (by simp [noStar]))
theorem k8:∀ {es:List Expr} {env:PySem.Env} {pos:Pos},es.all noStar=true->(backTo pos (starEach es env)).any (·.1)=false
 | [],_,_,_=>rfl
 | e :: es,env,pos,h=>by
  rw [List.all_cons,Bool.and_eq_true] at h
  rw [d8 h.1]
  show (false||(backTo pos (starEach es env)).any (·.1))=false
  rw [k8 h.2];rfl
theorem V2:∀ {es:List Expr} {env:PySem.Env} {pos:Pos},es.all noStar=true->(backTo pos (starEach es env)).all (λx=>!x.1)=true
 | [],_,_,_=>rfl
 | e :: es,env,pos,h=>by
  rw [List.all_cons,Bool.and_eq_true] at h
  rw [d8 h.1]
  show (!false&&(backTo pos (starEach es env)).all (λx=>!x.1))=true
  rw [V2 h.2];rfl
theorem u8 {e:Expr} {t:Option Expr} {n:Nat} {env:PySem.Env} (h:k9 e=true):swapsWith e t n env=pure false:=by
 cases e <;> first | rfl | (exact absurd h (by simp [k9]))
theorem a35 {e:Expr} (h:C3 e=true):a1f e:=by
 intro o i
 cases e <;> first | rfl | (exact absurd h (by simp [C3]))
theorem P1 {op:CmpOp} {e:Expr} (h:t0 e=true):behindInMarks op e=false:=by
 cases e <;> first | rfl | (exact absurd h (by simp [t0]))
theorem A6 {e:Expr} {env:PySem.Env} (h:t0 e=true):∀ x,foldedSetIterable e env x=pure x:=by
 intro x
 cases e <;> first | rfl | (exact absurd h (by simp [t0]))
theorem L8 {o:Expr} {f:Str} {env:PySem.Env} (h:y4 o=true):attributeBase o f env (eval o env)=eval o env:=by
 unfold attributeBase
 split
 ·exact absurd h (by simp [y4])
 ·rfl
theorem test_of {e:Expr} {env:PySem.Env} (h:B0 e=true):∀ whole,isTrue e env whole=(do let v <- whole;standAt e.pos;holding [v] (truthy v)):=by
 intro whole
 cases e <;> first
  | rfl
  | (rename_i op _ _;cases op <;> first | rfl | (exact absurd h (by simp [B0])))
  | (exact absurd h (by simp [B0]))
section
variable {X:Cx} {cl:Nat->Addr} {xe:Addr->Hp->Prop} {e:Expr} {es:List Expr} {pos:Pos} {f:Env->M D} {fs:Env->M (List D)}
theorem K8:PA X [] (tDs X.K cl xe λ_=>ret []):=PA.imp a0y λσ H Q ⟨μ,S,ρ,eo,rp,p⟩=>p.ret μ H (Lat.refl _ _) rp [] .nil
theorem A4 (h:PE X e (tD X.K cl xe f)) (hs:PA X es (tDs X.K cl xe fs)) (hn:noStar e=true):PA X (e :: es) (tDs X.K cl xe λρ=>bind (f ρ) λd=>bind (fs ρ) λds=>ret (d :: ds)):=
 PA.imp (B6 h hs (d8 hn)) λσ H Q ⟨μ,S,ρ,eo,rp,p⟩=>
  ⟨μ,S,ρ,eo,rp,p.bind.imp λd S1 μ1 H1 l1 r1 p1 v rv=>⟨μ1,S1,ρ,eo.later l1,r1,p1.bind.imp λds S2 μ2 H2 l2 r2 p2 vs rvs=>p2.ret μ2 H2 (Lat.refl _ _) r2 _ (.cons (rv.later l2) rvs)⟩⟩
noncomputable def a8k (ds:List D):M D:=if ds.length<=sizeLine then ret (.tup ds) else bad
noncomputable def b9f (ds:List D):M D:=if ds.length<=sizeLine then ret (.lst ds) else bad
theorem b1a {k:Nat} (h:PA X es (tDs X.K cl xe fs)):PE X (.Tuple es k pos) (tD X.K cl xe λρ=>bind (fs ρ) a8k):=PE.imp (b7d h) λσ H Q ⟨μ,S,ρ,eo,rp,p⟩=>
 ⟨μ,S,ρ,eo,rp,p.bind.imp λds S1 μ1 H1 l1 r1 p1 vs rvs=>by
  obtain ⟨hl,p1⟩:=Post.guard p1
  refine ⟨by rw [<- rvs.length];exact hl,λz hz=>?_⟩
  obtain ⟨l,rp2,rd2⟩:=y3 r1 rvs hz
  exact p1 μ1 _ l rp2 _ rd2⟩
theorem b7s (h:PA X es (tDs X.K cl xe fs)):PE X (.List es pos) (tD X.K cl xe λρ=>bind (fs ρ) b9f):=PE.imp (a8w h) λσ H Q ⟨μ,S,ρ,eo,rp,p⟩=>
 ⟨μ,S,ρ,eo,rp,p.bind.imp λds S1 μ1 H1 l1 r1 p1 vs rvs=>by
  obtain ⟨hl,p1⟩:=Post.guard p1
  refine ⟨by rw [<- rvs.length];exact hl,λz hz=>?_⟩
  obtain ⟨l,rp2,rd2⟩:=v9 r1 rvs hz
  exact p1 μ1 _ l rp2 _ rd2⟩
noncomputable def newL (ds:List D):M D:=λS=>if ds.length<=sizeLine then .ok (.ref S.length) (S++[.lst ds]) else .bad
theorem a07 (h:PA X es (tDs X.K cl xe fs)):PE X (.List es pos) (tD X.K cl xe λρ=>bind (fs ρ) newL):=PE.imp (a8w h) λσ H Q ⟨μ,S,ρ,eo,rp,p⟩=>
 ⟨μ,S,ρ,eo,rp,p.bind.imp λds S1 μ1 H1 l1 r1 p1 vs rvs=>by
  unfold newL at p1
  by_cases hl:ds.length<=sizeLine
  ·rw [if_pos hl] at p1
   refine ⟨by rw [<- rvs.length];exact hl,λz hz=>?_⟩
   obtain ⟨l,rp2,rd2⟩:=a0b r1 rvs hz
   exact p1 _ _ l rp2 _ rd2
  ·rw [if_neg hl] at p1;exact p1.elim⟩
def b0j (E:XK):Addr->Hp->Prop:=λa H=>E (.ref a) none H
def spD (K:PySem.W.Frag) (cl:Nat->Addr) (n:Nat) (run:List D->M D):Sp:=λvs H Q E=>vs.length=n/\∃ μ S ds,RDs K μ H ds vs/\Rep K cl μ S H/\Post K cl (b0j E0) μ H (run ds S) λd _ μ' H'=>∀ v,RD K μ' H' d v->Q v H'
theorem b1g {g:List D->M D} {id:String} {x:Str} {p:Pos} (hc:j9 X (.builtin id) (rPs X.K cl xe g)) (hg:Gl X x) (hm:X.mg x=none) (hv:bootBuiltins x=some (.builtin id)) (ha:PA X (e :: es) (tDs X.K cl xe fs)) (hn:x ≠ "__name__") (hdb:(x==("__debug__" : Str))=false) (hs:(e :: es).all noStar=true) :
  PE X (.Call (.Name x p) (e :: es) [] pos) (tD X.K cl xe λρ=>bind (fs ρ) g):=by
 rw [List.all_cons,Bool.and_eq_true] at hs
 exact PE.imp (a13 hc hg hm hv ha hn hdb (d8 hs.1) (k8 hs.2)) λσ H Q ⟨μ,S,ρ,eo,rp,p⟩=>⟨μ,S,ρ,eo,rp,p.bind.imp λds S1 μ1 H1 l1 r1 p1 vs rvs=>⟨μ1,S1,ds,rvs,r1,p1⟩⟩
theorem U2 {g:List D->M D} {T:String} {x:Str} {p:Pos} (hc:j9 X (.type T) (rPs X.K cl xe g)) (hg:Gl X x) (hm:X.mg x=none) (hv:bootBuiltins x=some (.type T)) (ha:PA X (e :: es) (tDs X.K cl xe fs)) (hn:x ≠ "__name__") (hdb:(x==("__debug__" : Str))=false) (hs:(e :: es).all noStar=true) :
  PE X (.Call (.Name x p) (e :: es) [] pos) (tD X.K cl xe λρ=>bind (fs ρ) g):=by
 rw [List.all_cons,Bool.and_eq_true] at hs
 exact PE.imp (a7u hc hg hm hv ha hn hdb (d8 hs.1) (k8 hs.2)) λσ H Q ⟨μ,S,ρ,eo,rp,p⟩=>⟨μ,S,ρ,eo,rp,p.bind.imp λds S1 μ1 H1 l1 r1 p1 vs rvs=>⟨μ1,S1,ds,rvs,r1,p1⟩⟩
end
noncomputable def one (g:D->M D) (ds:List D):M D:=match ds with
 | [d]=>g d
 | _=>bad
noncomputable def n8 (d:D):M D:=match d with
 | .str x=>if x.length<=sizeLine then ret (.int x.length) else bad
 | .ref n=>λS=>match S[n]? with
  | some (.lst ds)=>.ok (.int ds.length) S
  | some (.dct kvs)=>.ok (.int kvs.length) S
  | _=>.bad
 | d=>bind (p8 d) λds=>ret (.int ds.length)
noncomputable def f7 (d:D):M D:=match d with
 | .tup ds=>ret (.tup ds)
 | d=>bind (p8 d) λds=>ret (.tup ds)
noncomputable def a9c (d:D):M D:=bind (p8 d) λds=>ret (.lst ds)
instance (p:PyData):Decidable (Shows p):=decidable_of_iff (p.showable=true/\p.hasDict=false/\p.depth<=60/\p.shown.length<=sizeLine) ⟨λ⟨a,b,c,d⟩=>⟨a,b,c,d⟩,λ⟨a,b,c,d⟩=>⟨a,b,c,d⟩⟩
noncomputable def B5 (d:D):M D:=λS=>match i9 64 S d with
 | some p=>(if Shows p then ret (.str p.shown) else bad) S
 | none=>.bad
theorem b1b {K:PySem.W.Frag} {μ:Mp} {H:Hp} {d:D} {vs:List V} (r:RDs K μ H [d] vs):∃ v,vs=[v]/\RD K μ H d v:=by
 cases r with
 | cons h t=>cases t;exact ⟨_,rfl,h⟩
section
variable {X:Cx} {cl:Nat->Addr} {xe:Addr->Hp->Prop}
theorem K1 {g:D->M D} {f:Value} (h:∀ (pins:List (Addr×Obj)) (s:Shared) (σ:L2.St) (H:Hp) (μ:Mp) (S:Sto) (d:D) (v:V) (us:List Value) (Q:VK),L2.Inv X pins σ H s->Vals [v] us->RD X.K μ H d v->Rep X.K cl μ S H->Post X.K cl xe μ H (g d S) (λr _ μ' H'=>∀ v,RD X.K μ' H' r v->Q v H') ->
  wpAny (model X.prog X.w) X.A (call f us) (EP X pins σ Q) X.xe s):j9 X f (rPs X.K cl xe (one g)):=by
 intro pins s σ H xs us Q I r ⟨μ,S,ds,rds,rp,p⟩
 match ds,p with
 | [d],p=>
  obtain ⟨v,rfl,rd⟩:=b1b rds
  exact h pins s σ H μ S d v us Q I r rd rp p
 | [],p=>exact p.elim
 | _ :: _ :: _,p=>exact p.elim
theorem c1n:j9 X (.builtin "len") (rPs X.K cl xe (one n8)):=K1 λpins s σ H μ S d v us Q I r rd rp p=>by
 have sq:∀ {a:Addr} {xs:List V} {ds:List D},(SqL X.K H a xs\/SqT X.K H a xs)->RDs X.K μ H ds xs->v=.ref a->(∀ μ' H',Lat μ H μ' H'->Rep X.K cl μ' S H'->∀ w,RD X.K μ' H' (.int ds.length) w->Q w H')->wpAny (model X.prog X.w) X.A (call (.builtin "len") us) (EP X pins σ Q) X.xe s:=λ{a xs ds} hq r2 hv q=>by
  subst hv
  exact a0n pins s σ H _ us Q I r ⟨a,xs,rfl,hq,by rw [<- r2.length];exact q μ H (Lat.refl _ _) rp _ (.int _)⟩
 cases rd with
 | str x=>
  obtain ⟨hl,p⟩:=Post.guard p
  exact a1q pins s σ H _ us Q I r ⟨x,rfl,hl,p μ H (Lat.refl _ _) rp _ (.int _)⟩
 | tup h r2=>exact sq (.inr h.sq) r2 rfl p
 | lst h r2=>exact sq (.inl h.sq) r2 rfl p
 | scr h r2=>exact sq (.inl h.sq) r2 rfl p
 | ref h=>
  rename_i n a
  simp only [n8] at p
  cases q1:S[n]? with
  | none=>rw [q1] at p;exact p.elim
  | some o=>
   rw [q1] at p
   cases o with
   | lst ds=>
    obtain ⟨xs,h1,h2⟩:=rp.ats n _ a q1 h
    exact sq (.inl (.inl (.inl h1))) h2 rfl p
   | dct kvs=>
    obtain ⟨ks,h1,h2⟩:=rp.ats n _ a q1 h
    have hl:kvs.length=ks.length:=Paired.length h2
    exact a7y pins s σ H _ us Q I r ⟨a,ks,rfl,h1,by rw [<- hl];exact p μ H (Lat.refl _ _) rp _ (.int _)⟩
   | exc _ _=>exact p.elim
 | _=>exact False.elim p
theorem b5t:j9 X (.type "tuple") (rPs X.K cl xe (one f7)):=K1 λpins s σ H μ S d v us Q I r rd rp p=>by
 have sq:∀ {a:Addr} {xs:List V} {ds:List D},SqL X.K H a xs->RDs X.K μ H ds xs->v=.ref a->(∀ μ' H',Lat μ H μ' H'->Rep X.K cl μ' S H'->∀ w,RD X.K μ' H' (.tup ds) w->Q w H')->wpAny (model X.prog X.w) X.A (call (.type "tuple") us) (EP X pins σ Q) X.xe s:=λ{a xs ds} hq r2 hv q=>by
  subst hv
  refine J9 pins s σ H _ us Q I r ⟨a,xs,rfl,.inl ⟨hq,λz hz=>?_⟩⟩
  obtain ⟨l,rp2,rd2⟩:=y3 rp r2 hz
  exact q μ _ l rp2 _ rd2
 cases rd with
 | tup h r2=>exact J9 pins s σ H _ us Q I r ⟨_,_,rfl,.inr ⟨h.sq,p μ H (Lat.refl _ _) rp _ (.tup h r2)⟩⟩
 | lst h r2=>exact sq h.sq r2 rfl p
 | scr h r2=>exact sq h.sq r2 rfl p
 | ref h=>
  rename_i n a0
  have p2:Post X.K cl xe μ H (bind (lstOf (.ref n)) (λds=>ret (D.tup ds)) S) (λr _ μ' H'=>∀ v,RD X.K μ' H' r v->Q v H'):=p
  obtain ⟨a,xs,ds,e1,h1,h2,e2⟩:=s0 (.ref h) rp p2.bind
  exact sq (.inl (.inl h1)) h2 e1 (p2.ok_bind e2)
 | _=>exact False.elim p
theorem b8s:j9 X (.type "list") (rPs X.K cl xe (one a9c)):=K1 λpins s σ H μ S d v us Q I r rd rp p=>by
 obtain ⟨a,xs,ds,rfl,h1,h2,e2⟩:=E5 rd rp p.bind
 refine M0 pins s σ H _ us Q I r ⟨a,xs,rfl,h1,λz hz=>?_⟩
 obtain ⟨l,rp2,rd2⟩:=v9 rp h2 hz
 exact (p.ok_bind e2) μ _ l rp2 _ rd2
theorem b7h (hg:X.A.guards=some []) (hu:X.A.units+64<cLine):j9 X (.builtin "repr") (rPs X.K cl xe (one B5)):=K1 λpins s σ H μ S d v us Q I r rd rp p=>by
 simp only [B5] at p
 cases e1:i9 64 S d with
 | none=>rw [e1] at p;exact p.elim
 | some q=>
  rw [e1] at p
  obtain ⟨hs,p⟩:=Post.guard p
  exact a71 hg hu pins s σ H _ us Q I r ⟨v,q,rfl,u4 rp 64 e1 rd,hs,p μ H (Lat.refl _ _) rp _ (.str _)⟩
end
noncomputable def Mp.free (μ:Mp):Mp:=⟨μ.pl,μ.rs.tail⟩
section
variable {K:PySem.W.Frag} {cl:Nat->Addr} {xe:Addr->Hp->Prop} {μ μ2:Mp} {S S2:Sto} {H H2:Hp} {p:Addr} {o:HO}
theorem b5d (rp:Rep K cl μ S H) (hp:H p=none):(∀ {d:D} {v:V},RD K μ H d v->RD K (μ.hold p) (upd H p o) d v)/\∀ {ds:List D} {vs:List V},RDs K μ H ds vs->RDs K (μ.hold p) (upd H p o) ds vs:=by
 have ho:∀ a u,H a=some u->a∉μ.pl->a∉μ.rs->upd H p o a=some u/\a∉(μ.hold p).pl/\a∉(μ.hold p).rs:=λa u e n1 n2=>by
  have ne:=b6 e hp
  exact ⟨by rw [a8 ne];exact e,n1,λz=>(List.mem_cons.mp z).elim ne n2⟩
 exact ⟨λr=>r.move (μ:=μ) (μ':=μ.hold p) (H':=upd H p o) (λ_ _ e=>e) ho,λr=>r.move (μ:=μ) (μ':=μ.hold p) (H':=upd H p o) (λ_ _ e=>e) ho⟩
theorem a3d (rp:Rep K cl μ S H) (hp:H p=none):Rep K cl (μ.hold p) S (upd H p o):=by
 have ho:∀ a u,H a=some u->a∉μ.pl->a∉μ.rs->upd H p o a=some u/\a∉(μ.hold p).pl/\a∉(μ.hold p).rs:=λa u e n1 n2=>by
  have ne:=b6 e hp
  exact ⟨by rw [a8 ne];exact e,n1,λz=>(List.mem_cons.mp z).elim ne n2⟩
 refine rp.move (λa m=>?_) rfl (λa m=>a8 λz=>rp.notin hp (z▸m)) (λa u e=>by rw [a8 (b6 e hp)];exact e) ho
 rcases List.mem_cons.mp (show a∈p :: μ.rs from m) with rfl | m
 ·exact ⟨rp.notin hp,o,b8⟩
 ·obtain ⟨h1,u,h2⟩:=rp.res a m
  exact ⟨h1,u,by rw [a8 (b6 h2 hp)];exact h2⟩
theorem a1z {ρ:Env} {σ:L2.St} (rp:Rep K cl μ S H) (hp:H p=none) (eo:EnvOk K μ H ρ σ):EnvOk K (μ.hold p) (upd H p o) ρ σ:=⟨eo.1,λi d e=>let ⟨v,q,r⟩:=eo.2 i d e;⟨v,q,(b5d rp hp).1 r⟩⟩
theorem a1v {ds:List D} {vs:List V} (r:RDs K μ H ds vs):RDs K μ.free H ds vs:=r.move (μ:=μ) (μ':=μ.free) (λ_ _ e=>e) λa u e n1 n2=>⟨e,n1,λz=>n2 (List.mem_of_mem_tail z)⟩
theorem X1 (rp:Rep K cl μ S H):Rep K cl μ.free S H:=rp.move (λa m=>rp.res a (List.mem_of_mem_tail m)) rfl (λ_ _=>rfl) (λ_ _ e=>e) λa u e n1 n2=>⟨e,n1,λz=>n2 (List.mem_of_mem_tail z)⟩
theorem Z8 {rs:List Addr} {ds:List D} {vs:List V} (e:μ.rs=p :: rs) (r:RDs K μ H ds vs):RDs K μ (upd H p o) ds vs:=r.move (λ_ _ e=>e) λa u q n1 n2=>⟨by rw [a8 (λz=>n2 (by rw [e,z];exact List.mem_cons_self))];exact q,n1,n2⟩
theorem a3g {rs:List Addr} {d:D} {v:V} (e:μ.rs=p :: rs) (r:RD K μ H d v):RD K μ (upd H p o) d v:=r.move (λ_ _ e=>e) λa u q n1 n2=>⟨by rw [a8 (λz=>n2 (by rw [e,z];exact List.mem_cons_self))];exact q,n1,n2⟩
theorem Y1 {rs:List Addr} {xs:List V} (e:μ.rs=p :: rs) (hp:H p=some (.lst xs)) (rp:Rep K cl μ S H):Rep K cl μ S (upd H p o):=by
 have np:p∉μ.pl:=(rp.res p (by rw [e];exact List.mem_cons_self)).1
 refine rp.move (λa m=>?_) rfl (λa m=>a8 λz=>np (z▸m)) (λa u q=>by rw [a8 (b68 q hp (by intro z;cases z))];exact q) λa u q n1 n2=>⟨by rw [a8 (λz=>n2 (by rw [e,z];exact List.mem_cons_self))];exact q,n1,n2⟩
 obtain ⟨h1,u,h2⟩:=rp.res a m
 by_cases z:a=p
 ·subst z;exact ⟨h1,o,b8⟩
 ·exact ⟨h1,u,by rw [a8 z];exact h2⟩
end
inductive Fl where
 | nx (ρ:Env) | rt (d:D) | bk (ρ:Env) | ct (ρ:Env)
def FlOk (K:PySem.W.Frag) (D:Ends) (fl:Fl) (μ:Mp) (H:Hp):Prop:=match fl with
 | .nx ρ=>∀ σ,EnvOk K μ H ρ σ->D.nx σ H
 | .rt d=>∀ v,RD K μ H d v->D.rt v H
 | .bk ρ=>∀ σ,EnvOk K μ H ρ σ->D.bk σ H
 | .ct ρ=>∀ σ,EnvOk K μ H ρ σ->D.ct σ H
def sD (K:PySem.W.Frag) (cl:Nat->Addr) (xe:Addr->Hp->Prop) (f:Env->M Fl):TS:=λD σ H=>∃ μ S ρ,EnvOk K μ H ρ σ/\Rep K cl μ S H/\Post K cl xe μ H (f ρ S) λfl _ μ' H'=>FlOk K D fl μ' H'
noncomputable def c2w (f g:Env->M Fl) (ρ:Env):M Fl:=bind (f ρ) λfl=>match fl with
 | .nx ρ'=>g ρ'
 | fl=>ret fl
section
variable {X:Cx} {cl:Nat->Addr} {xe:Addr->Hp->Prop} {e:Expr} {st:Stmt} {sts:List Stmt} {pos:Pos} {f:Env->M D} {g h:Env->M Fl}
theorem D3 {st:Stmt}:PS X st (sD X.K cl xe λ_=>bad):=λ_ _ _ _ _ _ ⟨_,_,_,_,_,p⟩=>p.elim
theorem b11:PSs X [] (sD X.K cl xe λρ=>ret (.nx ρ)):=PSs.imp b5c λD σ H ⟨μ,S,ρ,eo,rp,p⟩=>p.ret μ H (Lat.refl _ _) rp σ eo
theorem b41 (h1:PS X st (sD X.K cl xe g)) (h2:PSs X sts (sD X.K cl xe h)):PSs X (st :: sts) (sD X.K cl xe (c2w g h)):=PSs.imp (a1x h1 h2) λD σ H ⟨μ,S,ρ,eo,rp,p⟩=>
 ⟨μ,S,ρ,eo,rp,p.bind.imp λfl S1 μ1 H1 l1 r1 p1=>by
  cases fl with
  | nx ρ1=>exact λσ1 eo1=>⟨μ1,S1,ρ1,eo1,r1,p1⟩
  | rt d=>exact p1.ret μ1 H1 (Lat.refl _ _) r1
  | bk ρ1=>exact p1.ret μ1 H1 (Lat.refl _ _) r1
  | ct ρ1=>exact p1.ret μ1 H1 (Lat.refl _ _) r1⟩
theorem b1k (he:PE X e (tD X.K cl xe f)) (hn:k9 e=true):PS X (.Expr e pos) (sD X.K cl xe λρ=>bind (f ρ) λ_=>ret (.nx ρ)):=PS.imp (a1m he (u8 hn)) λD σ H ⟨μ,S,ρ,eo,rp,p⟩=>
 ⟨μ,S,ρ,eo,rp,p.bind.imp λd S1 μ1 H1 l1 r1 p1 v rv=>p1.ret μ1 H1 (Lat.refl _ _) r1 σ (eo.later l1)⟩
theorem a59 (he:PE X e (tD X.K cl xe f)):PS X (.Return (some e) pos) (sD X.K cl xe λρ=>bind (f ρ) λd=>ret (.rt d)):=PS.imp (b8p he) λD σ H ⟨μ,S,ρ,eo,rp,p⟩=>
 ⟨μ,S,ρ,eo,rp,p.bind.imp λd S1 μ1 H1 l1 r1 p1 v rv=>p1.ret μ1 H1 (Lat.refl _ _) r1 v rv⟩
theorem b7q {c:Expr} {t:Env->M Bool} {a b:List Stmt} (hc:PT X c (tBo X.K cl xe t)) (ha:PSs X a (sD X.K cl xe g)) (hb:PSs X b (sD X.K cl xe h)):PS X (.If c a b pos) (sD X.K cl xe λρ=>bind (t ρ) λq=>if q=true then g ρ else h ρ):=PS.imp (L2.ps_if hc ha hb) λD σ H ⟨μ,S,ρ,eo,rp,p⟩=>
 ⟨μ,S,ρ,eo,rp,p.bind.imp λq S1 μ1 H1 l1 r1 p1=>by
  cases q with
  | true=>exact ⟨μ1,S1,ρ,eo.later l1,r1,p1⟩
  | false=>exact ⟨μ1,S1,ρ,eo.later l1,r1,p1⟩⟩
theorem b32 {i:Nat} {x:Str} {pos':Pos} (hN:X.N.Nodup) (hi:X.N[i]?=some x) (hx:Loc X.env.scope x) (he:PE X e (tD X.K cl xe f)) (hn:k9 e=true) (hf:X.fn x=true\/X.env.scope.names.lookup x=some .local) :
  PS X (.Assign [.Name x pos'] e pos) (sD X.K cl xe λρ=>bind (f ρ) λd=>ret (.nx (ρ.set i (some d)))):=PS.imp (a3p hN hi hx he (u8 hn) hf) λD σ H ⟨μ,S,ρ,eo,rp,p⟩=>
 ⟨μ,S,ρ,eo,rp,p.bind.imp λd S1 μ1 H1 l1 r1 p1 v rv=>p1.ret μ1 H1 (Lat.refl _ _) r1 _ ((eo.later l1).set rv i)⟩
def b4x (K:PySem.W.Frag) (cl:Nat->Addr) (tg:D->Env->Option Env):TG:=λv σ H Q=>∃ μ S ρ d ρ',EnvOk K μ H ρ σ/\Rep K cl μ S H/\RD K μ H d v/\tg d ρ=some ρ'/\∀ σ',EnvOk K μ H ρ' σ'->Q σ' H
theorem PG.imp {t:Expr} {u u':TG} (h:PG X t u) (k:∀ v σ H Q,u' v σ H Q->u v σ H Q):PG X t u':=λpins s σ H v w Q I r q=>h pins s σ H v w Q I r (k v σ H Q q)
theorem a9l {i:Nat} {x:Str} {pos':Pos} (hN:X.N.Nodup) (hi:X.N[i]?=some x) (hx:Loc X.env.scope x) (hf:X.fn x=true\/X.env.scope.names.lookup x=some .local):PG X (.Name x pos') (b4x X.K cl λd ρ=>some (ρ.set i (some d))):=
 PG.imp (v7 hN hi hx hf) λv σ H Q ⟨μ,S,ρ,d,ρ',eo,rp,rd,e,q⟩=>by
  cases e
  exact q _ (eo.set rd i)
noncomputable def X3:List Nat->List D->Env->Option Env
 | [],[],ρ=>some ρ
 | i :: is,d :: ds,ρ=>X3 is ds (ρ.set i (some d))
 | _,_,_=>none
noncomputable def C8 (is:List Nat) (d:D) (ρ:Env):Option Env:=match d with
 | .tup ds=>X3 is ds ρ
 | _=>none
def G9 (X:Cx):List Expr->List Nat->Prop
 | [],[]=>True
 | .Name x _ :: ts,i :: is=>X.N[i]?=some x/\Loc X.env.scope x/\(X.fn x=true\/X.env.scope.names.lookup x=some .local)/\G9 X ts is
 | _,_=>False
theorem Z2 (hN:X.N.Nodup):∀ {ts:List Expr} {is:List Nat},G9 X ts is->PGs X ts (λvs σ H Q=>∃ μ ds ρ ρ',EnvOk X.K μ H ρ σ/\RDs X.K μ H ds vs/\X3 is ds ρ=some ρ'/\∀ σ',EnvOk X.K μ H ρ' σ'->Q σ' H)
 | [],[],_=>λpins s σ H vs us Q I r ⟨μ,ds,ρ,ρ',eo,rd,e,q⟩=>by
  cases ds with
  | nil=>
   cases rd
   cases e
   exact a08 pins s σ H [] us Q I r ⟨rfl,q σ eo⟩
  | cons d ds=>cases e
 | .Name x p :: ts,i :: is,⟨h1,h2,h3,h4⟩=>λpins s σ H vs us Q I r ⟨μ,ds,ρ,ρ',eo,rd,e,q⟩=>by
  cases ds with
  | nil=>cases e
  | cons d ds=>
   cases rd with
   | cons r1 r2=>
    exact E6 (v7 (i:=i) hN h1 h2 h3) (Z2 hN h4) rfl pins s σ H _ us Q I r ⟨_,_,rfl,μ,ds,_,ρ',eo.set r1 i,r2,e,q⟩
theorem K5 {ts:List Expr} {is:List Nat}:G9 X ts is->(assignEach ts X.env).length=is.length/\(assignEach ts X.env).findIdx? (·.1)=none:=by
 induction ts generalizing is with
 | nil=>
  intro h
  cases is with
  | nil=>exact ⟨rfl,rfl⟩
  | cons i is=>exact h.elim
 | cons t ts ih=>
  intro h
  cases is with
  | nil=>cases t <;> exact h.elim
  | cons i is=>
   cases t with
   | Name x p=>
    obtain ⟨_,_,_,h4⟩:=h
    obtain ⟨a,b⟩:=ih h4
    refine ⟨by show (assignEach ts X.env).length+1=_;rw [a];rfl,?_⟩
    show ((false,assign (.Name x p) X.env) :: assignEach ts X.env).findIdx? (·.1)=none
    rw [List.findIdx?_cons]
    simp [b]
   | _=>exact h.elim
theorem U9:∀ {is:List Nat} {ds:List D} {ρ ρ':Env},X3 is ds ρ=some ρ'->ds.length=is.length
 | [],[],_,_,_=>rfl
 | _ :: _,_ :: _,_,_,e=>by simp [U9 (by simpa [X3] using e)]
 | [],_ :: _,_,_,e=>by cases e
 | _ :: _,[],_,_,e=>by cases e
theorem a1a {ts:List Expr} {is:List Nat} {k:Nat} {pos':Pos} (hc:X.calm=true) (hN:X.N.Nodup) (h:G9 X ts is):PG X (.Tuple ts k pos') (b4x X.K cl (C8 is)):=
 PG.imp (a3w (n:=is.length) hc (Z2 hN h) (K5 h).1 (K5 h).2) λv σ H Q ⟨μ,S,ρ,d,ρ',eo,rp,rd,e,q⟩=>by
  cases rd with
  | tup h1 h2=>exact ⟨_,_,rfl,h1.sq,by rw [<- h2.length];exact U9 e,μ,_,ρ,ρ',eo,h2,e,q⟩
  | _=>cases e
noncomputable def a9p:Expr->Bool
 | .Tuple ..=>false
 | _=>true
noncomputable def Q5 (tg:D->Env->Option Env) (d:D) (ρ:Env):M Fl:=match tg d ρ with
 | some ρ'=>ret (.nx ρ')
 | none=>bad
theorem b4n {ts:List Expr} {is:List Nat} {k:Nat} {pos':Pos} (hc:X.calm=true) (hN:X.N.Nodup) (h:G9 X ts is) (he:PE X e (tD X.K cl xe f)) (hn:k9 e=true) (hn2:a9p e=true):PS X (.Assign [.Tuple ts k pos'] e pos) (sD X.K cl xe λρ=>bind (f ρ) λd=>Q5 (C8 is) d ρ):=
 PS.imp (a4q he (a1a (cl:=cl) hc hN h) (by unfold swapsWithSole;exact u8 hn) (by cases e <;> first | rfl | (exact absurd hn2 (by simp [a9p]))) rfl) λD σ H ⟨μ,S,ρ,eo,rp,p⟩=>
  ⟨μ,S,ρ,eo,rp,p.bind.imp λd S1 μ1 H1 l1 r1 p1 v rv=>by
   cases e1:C8 is d ρ with
   | none=>simp only [Q5,e1] at p1;exact p1.elim
   | some ρ'=>simp only [Q5,e1] at p1;exact ⟨μ1,S1,ρ,d,ρ',eo.later l1,r1,rv,e1,p1.ret μ1 H1 (Lat.refl _ _) r1⟩⟩
end
structure LatR (μ:Mp) (H:Hp) (μ':Mp) (H':Hp):Prop where
 pre:∀ (n:Nat) (a:Addr),μ.pl[n]?=some a->μ'.pl[n]?=some a
 oth:∀ a o,H a=some o->a∉μ.pl->H' a=some o
 new:∀ a,a∈μ'.pl->a∈μ.pl\/H a=none
 rsw:∀ a,a∈μ'.rs->a∈μ.rs\/H a=none
theorem Lat.r {μ μ':Mp} {H H':Hp} (l:Lat μ H μ' H'):LatR μ H μ' H':=⟨l.pre,l.oth,l.new,λa m=>.inl (by rw [l.rsv] at m;exact m)⟩
structure LatU (μ:Mp) (H:Hp) (μ':Mp) (H':Hp):Prop where
 pre:∀ (n:Nat) (a:Addr),μ.pl[n]?=some a->μ'.pl[n]?=some a
 oth:∀ a o,H a=some o->a∉μ.pl->a∉μ.rs->H' a=some o
 new:∀ a,a∈μ'.pl->a∈μ.pl\/H a=none
 rsw:∀ a,a∈μ'.rs->a∈μ.rs\/H a=none
theorem LatR.u {μ μ':Mp} {H H':Hp} (l:LatR μ H μ' H'):LatU μ H μ' H':=⟨l.pre,λa o e n _=>l.oth a o e n,l.new,l.rsw⟩
theorem LatU.out {μ μ':Mp} {H H':Hp} (l:LatU μ H μ' H') (a:Addr) (u:HO) (e:H a=some u) (n1:a∉μ.pl) (n2:a∉μ.rs):H' a=some u/\a∉μ'.pl/\a∉μ'.rs:=by
 refine ⟨l.oth a u e n1 n2,λz=>?_,λz=>?_⟩
 ·rcases l.new a z with q | q
  ·exact n1 q
  ·rw [e] at q;cases q
 ·rcases l.rsw a z with q | q
  ·exact n2 q
  ·rw [e] at q;cases q
theorem RDs.laterU {K:PySem.W.Frag} {μ μ':Mp} {H H':Hp} (l:LatU μ H μ' H') {ds:List D} {vs:List V} (r:RDs K μ H ds vs):RDs K μ' H' ds vs:=r.move l.pre l.out
noncomputable abbrev Src:=Nat->Sto->Option (Option D)
def U7 (K:PySem.W.Frag) (cl:Nat->Addr) (J:It) (i:Nat) (μ2:Mp) (H2:Hp) (S2:Sto) (o:Option (Option D)):Prop:=match o with
 | some (some d)=>J.go i H2/\∀ x H3,J.yld i H2 x H3->Lat μ2 H2 μ2 H3/\Rep K cl μ2 S2 H3/\RD K μ2 H3 d x
 | some none=>J.stop i H2
 | none=>True
def Yl (K:PySem.W.Frag) (cl:Nat->Addr) (J:It) (μ:Mp) (H:Hp) (src:Src):Prop:=∀ (i:Nat) (μ2:Mp) (H2:Hp) (S2:Sto),LatU μ H μ2 H2->Rep K cl μ2 S2 H2->U7 K cl J i μ2 H2 S2 (src i S2)
def tIt (K:PySem.W.Frag) (cl:Nat->Addr) (xe:Addr->Hp->Prop) (f:Env->M (Src×Nat)):TI:=λσ H R=>∃ μ S ρ,EnvOk K μ H ρ σ/\Rep K cl μ S H/\Post K cl xe μ H (f ρ S) λp _ μ' H'=>∀ J,Yl K cl J μ' H' p.1->R J H'
theorem PI.imp {X:Cx} {tg it:Expr} {t t':TI} (h:PI X tg it t) (k:∀ σ H R,t' σ H R->t σ H R):PI X tg it t':=λpins s σ H R I q=>h pins s σ H R I (k σ H R q)
theorem b8g {X:Cx} {tg l:Expr} {tl:TE} (hl:PE X l tl):PI X tg l (λσ H R=>tl σ H λx H1=>∃ a,x=.ref a/\(((∃ xs,SqL X.K H1 a xs)/\R (Itl X.K a) H1)\/((∃ xs,SqT X.K H1 a xs)/\R (Itt X.K a) H1))):=by
 intro pins s σ H R I h
 refine thn (hl pins s σ H _ I h) λv s1 ⟨x,H1,I1,r1,q1⟩=>?_
 obtain ⟨a,e,q1⟩:=q1
 subst e
 cases r1
 rcases q1 with ⟨⟨xs,hq⟩,q⟩ | ⟨⟨xs,hq⟩,q⟩
 ·obtain ⟨its,rv,p,hz⟩:=I1.list hq
  refine wpAny_pyIter_list p.isList ?_
  refine ⟨s1.heap.objs.size,[s1.heap.objs.size],_,_,H1,rfl,I1.kept (t':=s1.toks) λb o e=>Heap.get?_push_of_some _ e,a76 a _,⟨_,Heap.get?_push_size _ rfl,rfl,rfl⟩,λb hb=>?_,q⟩
  have e:b=s1.heap.objs.size:=by simpa using hb
  subst e
  exact I1.fpOk (Nat.le_refl _) (I1.hok.fresh (Nat.le_refl _))
 ·obtain ⟨its,rv,p,hz⟩:=I1.tuple hq
  refine wpAny_pyIter_tuple (show s1.heap.IsTuple a its.toArray from p) ?_
  refine ⟨s1.heap.objs.size,[s1.heap.objs.size],_,_,H1,rfl,I1.kept (t':=s1.toks) λb o e=>Heap.get?_push_of_some _ e,a40 a _,⟨_,Heap.get?_push_size _ rfl,rfl,rfl⟩,λb hb=>?_,q⟩
  have e:b=s1.heap.objs.size:=by simpa using hb
  subst e
  exact I1.fpOk (Nat.le_refl _) (I1.hok.fresh (Nat.le_refl _))
noncomputable def L6 (ds:List D):Src:=λi _=>some ds[i]?
noncomputable def a7r (n:Nat):Src:=λi S=>match S[n]? with
 | some (.lst es)=>some es[i]?
 | _=>none
noncomputable def a0s (lo:Int) (n:Nat):Src:=λi _=>some (if i<n then some (.int (lo+i)) else none)
section
variable {K:PySem.W.Frag} {cl:Nat->Addr} {μ:Mp} {H:Hp}
theorem b7l {a:Addr} {xs:List V} {ds:List D} (h:TupAt K μ H a xs) (r:RDs K μ H ds xs):Yl K cl (Itt K a) μ H (L6 ds):=λi μ2 H2 S2 l rp=>by
 have hq:SqT K H2 a xs:=by
  rcases h with ⟨q,n1,n2⟩ | q
  ·rcases q with q | ⟨o,q⟩
   ·exact .inl (.inl (l.oth _ _ q n1 n2))
   ·exact .inl (.inr ⟨o,l.oth _ _ q n1 n2⟩)
  ·obtain ⟨o,its,n,c1,c2,c3,c4,c5,_⟩:=q
   exact .inr ⟨o,its,n,c1,c2,c3,c4,c5⟩
 have r2:=r.laterU l
 show U7 K cl (Itt K a) i μ2 H2 S2 (some ds[i]?)
 cases e:ds[i]? with
 | none=>exact ⟨xs,hq,by rw [<- r.length];exact List.getElem?_eq_none_iff.mp e⟩
 | some d=>
  obtain ⟨v,e1,r1⟩:=r2.get e
  exact ⟨⟨xs,v,hq,e1⟩,λx H3 ⟨e3,q⟩=>by subst e3;have:=q xs hq;rw [e1] at this;cases this;exact ⟨Lat.refl _ _,rp,r1⟩⟩
theorem b2a {a:Addr} {xs:List V} {ds:List D} (h:LstAt μ H a xs\/ScrAt K μ H a xs) (r:RDs K μ H ds xs):Yl K cl (Itl K a) μ H (L6 ds):=λi μ2 H2 S2 l rp=>by
 have hq:SqL K H2 a xs:=by
  rcases h with ⟨q,n1,n2⟩ | ⟨q,n1,n2⟩ | q
  ·exact .inl (.inl (l.oth _ _ q n1 n2))
  ·rcases q with q | ⟨o,q⟩
   ·exact .inl (.inl (l.oth _ _ q n1 n2))
   ·exact .inl (.inr ⟨o,l.oth _ _ q n1 n2⟩)
  ·exact .inr q
 have r2:=r.laterU l
 show U7 K cl (Itl K a) i μ2 H2 S2 (some ds[i]?)
 cases e:ds[i]? with
 | none=>exact ⟨xs,hq,by rw [<- r.length];exact List.getElem?_eq_none_iff.mp e⟩
 | some d=>
  obtain ⟨v,e1,r1⟩:=r2.get e
  exact ⟨⟨xs,v,hq,e1⟩,λx H3 ⟨e3,q⟩=>by subst e3;have:=q xs hq;rw [e1] at this;cases this;exact ⟨Lat.refl _ _,rp,r1⟩⟩
theorem c06 {a:Addr} {n:Nat} (h:μ.pl[n]?=some a):Yl K cl (Itl K a) μ H (a7r n):=λi μ2 H2 S2 l rp=>by
 show U7 K cl (Itl K a) i μ2 H2 S2 (match S2[n]? with
  | some (.lst es)=>some es[i]?
  | _=>none)
 cases q1:S2[n]? with
 | none=>exact True.intro
 | some o=>
  cases o with
  | dct _=>exact True.intro
  | exc _ _=>exact True.intro
  | lst es=>
   obtain ⟨xs,h1,h2⟩:=rp.ats n _ a q1 (l.pre _ _ h)
   have hq:SqL K H2 a xs:=.inl (.inl h1)
   show U7 K cl (Itl K a) i μ2 H2 S2 (some es[i]?)
   cases e:es[i]? with
   | none=>exact ⟨xs,hq,by rw [<- h2.length];exact List.getElem?_eq_none_iff.mp e⟩
   | some d=>
    obtain ⟨v,e1,r1⟩:=h2.get e
    exact ⟨⟨xs,v,hq,e1⟩,λx H3 ⟨e3,q⟩=>by subst e3;have:=q xs hq;rw [e1] at this;cases this;exact ⟨Lat.refl _ _,rp,r1⟩⟩
theorem a96 {lo:Int} {n:Nat}:Yl K cl (Itr lo n) μ H (a0s lo n):=λi μ2 H2 S2 l rp=>by
 show U7 K cl (Itr lo n) i μ2 H2 S2 (some (if i<n then some (.int (lo+i)) else none))
 by_cases hi:i<n
 ·rw [if_pos hi]
  exact ⟨hi,λx H3 ⟨e3,e4⟩=>by subst e3 e4;exact ⟨Lat.refl _ _,rp,.int _⟩⟩
 ·rw [if_neg hi]
  exact Nat.le_of_not_lt hi
end
noncomputable def t9 (d:D):M (Src×Nat):=match d with
 | .tup ds=>ret (L6 ds,ds.length+1)
 | .lst ds=>ret (L6 ds,ds.length+1)
 | .scr ds=>ret (L6 ds,ds.length+1)
 | .ref n=>λS=>match S[n]? with
  | some (.lst ds)=>.ok (a7r n,ds.length+1) S
  | _=>.bad
 | _=>bad
noncomputable def F6 (ds:List D):M (Src×Nat):=match ds with
 | [.int j]=>if -(2 ^ 62)<=j/\j<2 ^ 62 then ret (a0s 0 j.toNat,j.toNat+1) else bad
 | [.int i,.int j]=>if -(2 ^ 62)<=i/\i<2 ^ 62/\-(2 ^ 62)<=j/\j<2 ^ 62 then ret (a0s i (j-i).toNat,(j-i).toNat+1) else bad
 | _=>bad
section
variable {X:Cx} {cl:Nat->Addr} {xe:Addr->Hp->Prop} {e:Expr} {tg:Expr} {pos:Pos} {f:Env->M D}
theorem a5z {tg e:Expr}:PI X tg e (tIt X.K cl xe λ_=>bad):=λ_ _ _ _ _ _ ⟨_,_,_,_,_,p⟩=>p.elim
theorem b5i (h:PE X e (tD X.K cl xe f)):PI X tg e (tIt X.K cl xe λρ=>bind (f ρ) t9):=PI.imp (b8g h) λσ H R ⟨μ,S,ρ,eo,rp,p⟩=>
 ⟨μ,S,ρ,eo,rp,p.bind.imp λd S1 μ1 H1 l1 r1 p1 v rv=>by
  cases rv with
  | tup h r=>exact ⟨_,rfl,.inr ⟨⟨_,h.sq⟩,p1.ret μ1 H1 (Lat.refl _ _) r1 _ (b7l h r)⟩⟩
  | lst h r=>exact ⟨_,rfl,.inl ⟨⟨_,h.sq⟩,p1.ret μ1 H1 (Lat.refl _ _) r1 _ (b2a (.inl h) r)⟩⟩
  | scr h r=>exact ⟨_,rfl,.inl ⟨⟨_,h.sq⟩,p1.ret μ1 H1 (Lat.refl _ _) r1 _ (b2a (.inr h) r)⟩⟩
  | ref h=>
   rename_i n a
   simp only [t9] at p1
   cases q1:S1[n]? with
   | none=>rw [q1] at p1;exact p1.elim
   | some o=>
    rw [q1] at p1
    cases o with
    | lst ds=>
     obtain ⟨xs,h1,h2⟩:=r1.ats n _ a q1 h
     exact ⟨_,rfl,.inl ⟨⟨xs,.inl (.inl h1)⟩,p1 μ1 H1 (Lat.refl _ _) r1 _ (c06 h)⟩⟩
    | dct _=>exact p1.elim
    | exc _ _=>exact p1.elim
  | _=>exact False.elim p1⟩
theorem a4g {a:Expr} {fs:Env->M (List D)} {p:Pos} (hg:Gl X "range") (hm:X.mg "range" = none) (ha:PA X [a] (tDs X.K cl xe fs)) (hs:noStar a=true):PI X tg (.Call (.Name "range" p) [a] [] pos) (tIt X.K cl xe λρ=>bind (fs ρ) λds=>if ds.length=1 then F6 ds else bad):=
 PI.imp (a7n hg hm ha (d8 hs)) λσ H R ⟨μ,S,ρ,eo,rp,p⟩=>⟨μ,S,ρ,eo,rp,p.bind.imp λds S1 μ1 H1 l1 r1 p1 vs rvs=>by
  cases rvs with
  | nil=>exact False.elim p1
  | cons h t=>
   cases t with
   | cons _ t=>rw [if_neg (by simp)] at p1;exact p1.elim
   | nil=>
    rename_i d0 v0
    rw [if_pos (show ([d0]:List D).length=1 from rfl)] at p1
    cases h with
    | int j=>
     obtain ⟨⟨h1,h2⟩,p1⟩:=Post.guard p1
     exact ⟨j,rfl,h1,h2,p1 μ1 H1 (Lat.refl _ _) r1 _ a96⟩
    | _=>exact False.elim p1⟩
end
noncomputable def y8 (src:Src) (tg:D->Env->Option Env) (body:Env->M Fl):Nat->Nat->Env->M Fl
 | 0,_,_=>bad
 | m+1,i,ρ=>λS=>match src i S with
  | none=>.bad
  | some none=>.ok (.nx ρ) S
  | some (some d)=>match tg d ρ with
   | none=>.bad
   | some ρ1=>bind (body ρ1) (λfl=>match fl with
    | .nx ρ2=>y8 src tg body m (i+1) ρ2
    | .ct ρ2=>y8 src tg body m (i+1) ρ2
    | .bk ρ2=>ret (.nx ρ2)
    | .rt d=>ret (.rt d)) S
section
variable {X:Cx} {cl:Nat->Addr} {xe:Addr->Hp->Prop} {iter tgt:Expr} {pos:Pos} {fi:Env->M (Src×Nat)} {tg:D->Env->Option Env} {g:Env->M Fl} {body:List Stmt}
theorem b3a (hp:PassesOwn (model X.prog X.w) X.A X.env X.xe) (hc:X.calm=true) (hi:PI X tgt iter (tIt X.K cl xe fi)) (hg:PG X tgt (b4x X.K cl tg)) (hb:PSs X body (sD X.K cl xe g)) (hn:t0 iter=true) :
  PS X (.For tgt iter body [] pos) (sD X.K cl xe λρ=>bind (fi ρ) λp=>y8 p.1 tg g p.2 0 ρ):=PS.imp (b93 hp hc hi hg hb (A6 hn)) λD σ H ⟨μ,S,ρ,eo,rp,p⟩=>by
 refine ⟨μ,S,ρ,eo,rp,p.bind.imp λsm S1 μ1 H1 l1 r1 p1 J yl=>?_⟩
 obtain ⟨src,m⟩:=sm
 refine ⟨λi m σ H=>∃ μ2 S2 ρ2,LatR μ1 H1 μ2 H/\EnvOk X.K μ2 H ρ2 σ/\Rep X.K cl μ2 S2 H/\Post X.K cl xe μ2 H (y8 src tg g m i ρ2 S2) (λfl _ μ' H'=>FlOk X.K D fl μ' H'),⟨m,μ1,S1,ρ,(Lat.refl _ _).r,eo.later l1,r1,p1⟩,?_⟩
 rintro i m σ2 H2 ⟨μ2,S2,ρ2,l2,eo2,r2,p2⟩
 cases m with
 | zero=>exact p2.elim
 | succ m=>
  have y:U7 X.K cl J i μ2 H2 S2 (src i S2):=yl i μ2 H2 S2 l2.u r2
  simp only [y8] at p2
  cases e1:src i S2 with
  | none=>rw [e1] at p2;exact p2.elim
  | some o=>
   rw [e1] at p2 y
   cases o with
   | none=>exact .inl ⟨y,p2 μ2 H2 (Lat.refl _ _) r2 σ2 eo2⟩
   | some d=>
    obtain ⟨y1,y2⟩:=y
    cases e2:tg d ρ2 with
    | none=>simp only [e2] at p2;exact p2.elim
    | some ρ3=>
     simp only [e2] at p2
     refine .inr ⟨y1,λσ' H'=>∃ μ3 S3 ρ4,LatR μ1 H1 μ3 H'/\EnvOk X.K μ3 H' ρ4 σ'/\Rep X.K cl μ3 S3 H'/\Post X.K cl xe μ3 H' (y8 src tg g m (i+1) ρ4 S3) (λfl _ μ' H'=>FlOk X.K D fl μ' H'),λσ' H' q=>⟨m,Nat.lt_succ_self _,q⟩,λx H3 hy=>?_⟩
     obtain ⟨l3,r3,rd3⟩:=y2 x H3 hy
     refine ⟨μ2,S2,ρ2,d,ρ3,eo2.later l3,r3,rd3,e2,λσ3 eo3=>?_⟩
     refine ⟨μ2,S2,ρ3,eo3,r3,(Post.later p2 l3).bind.imp λfl S4 μ4 H4 l4 r4 p4=>?_⟩
     have lr:LatR μ1 H1 μ4 H4:=by
      have l34:=l3.trans l4
      refine ⟨λn a e=>l34.pre n a (l2.pre n a e),λa o e n=>l34.oth a o (l2.oth a o e n) (λz=>(l2.new a z).elim n (λq=>by rw [e] at q;cases q)),λa m=>(l34.new a m).elim (λz=>l2.new a z) (λz=>?_),λa m=>l2.rsw a (by rw [<- l34.rsv];exact m)⟩
      by_cases mm:a∈μ1.pl
      ·exact .inl mm
      ·right
       cases e:H1 a with
       | none=>rfl
       | some o=>rw [l2.oth a o e mm] at z;cases z
     cases fl with
     | nx ρ4=>exact λσ4 eo4=>⟨μ4,S4,ρ4,lr,eo4,r4,p4⟩
     | ct ρ4=>exact λσ4 eo4=>⟨μ4,S4,ρ4,lr,eo4,r4,p4⟩
     | bk ρ4=>exact p4.ret μ4 H4 (Lat.refl _ _) r4
     | rt d=>exact p4.ret μ4 H4 (Lat.refl _ _) r4
end
structure HLat (μ:Mp) (H:Hp) (p:Addr) (μ2:Mp) (H2:Hp):Prop where
 r:LatR μ H μ2 H2
 rs:μ2.rs=p :: μ.rs
theorem HLat.lat {μ μ2 μ':Mp} {H H2 H':Hp} {p:Addr} (h:HLat μ H p μ2 H2) (l:Lat μ2 H2 μ' H'):Lat μ H μ'.free H':=by
 refine ⟨λn a e=>l.pre n a (h.r.pre n a e),λa o e n=>?_,λa m=>?_,by show μ'.rs.tail=μ.rs;rw [l.rsv,h.rs];rfl⟩
 ·have n2:a∉μ2.pl:=λz=>(h.r.new a z).elim n λq=>by rw [e] at q;cases q
  exact l.oth a o (h.r.oth a o e n) n2
 ·rcases l.new a m with q | q
  ·exact h.r.new a q
  ·by_cases mm:a∈μ.pl
   ·exact .inl mm
   ·right
    cases e:H a with
    | none=>rfl
    | some o=>rw [h.r.oth a o e mm] at q;cases q
theorem HLat.step {μ μ2 μ3:Mp} {H H2 H3:Hp} {p:Addr} (h:HLat μ H p μ2 H2) (l:Lat μ2 H2 μ3 H3):HLat μ H p μ3 H3:=by
 have k:=h.lat l
 refine ⟨⟨k.pre,k.oth,k.new,λa m=>h.r.rsw a (by rw [<- l.rsv];exact m)⟩,by rw [l.rsv];exact h.rs⟩
section
variable {K:PySem.W.Frag} {cl:Nat->Addr} {xe:Addr->Hp->Prop} {α β:Type} {μ μ2:Mp} {H H2:Hp} {p:Addr} {S:Sto}
theorem Post.at {m:M α} {k:α->M β} {G:β->Sto->Mp->Hp->Prop} (h:Post K cl xe μ H (L3.bind m k S) G) (l:HLat μ H p μ2 H2):Post K cl xe μ2 H2 (m S) (λa S' _ _=>Post K cl xe μ H (k a S') G):=by
 unfold L3.bind at h
 cases e:m S with
 | ok a S1=>rw [e] at h;exact λ_ _ _ _=>h
 | exn n S1=>rw [e] at h;exact λμ' H' a k r q=>h μ'.free H' a (l.lat k) (X1 r) q
 | bad=>rw [e] at h;exact h
end
noncomputable def J8 (src:Src) (t:Env->M Bool) (f:Env->M D) (mk:D->Env):Nat->Nat->List D->M (List D)
 | 0,_,_=>bad
 | m+1,i,es=>λS=>match src i S with
  | none=>.bad
  | some none=>.ok es S
  | some (some d)=>bind (t (mk d)) (λb=>if b=true then bind (f (mk d)) (λy=>if es.length<sizeLine then J8 src t f mk m (i+1) (es++[y]) else bad) else J8 src t f mk m (i+1) es) S
noncomputable def B4 (caps:List Nat) (ρ:Env):Env:=caps.map λi=>(ρ[i]?).join
theorem a0w {K:PySem.W.Frag} {μ:Mp} {H:Hp} {ρ:Env} {σ:L2.St} {caps:List Nat} {d:D} {x:V} (eo:EnvOk K μ H ρ σ) (r:RD K μ H d x):EnvOk K μ H (some d :: B4 caps ρ) (some x :: t6 caps σ):=by
 refine ⟨by simp [B4,t6],λi e he=>?_⟩
 cases i with
 | zero=>simp at he;subst he;exact ⟨x,rfl,r⟩
 | succ j=>
  have he:(B4 caps ρ)[j]?=some (some e):=he
  unfold B4 at he
  rw [List.getElem?_map] at he
  cases q:caps[j]? with
  | none=>rw [q] at he;cases he
  | some i=>
   rw [q] at he
   have h':(ρ[i]?).join=some e:=Option.some.inj he
   have h2:ρ[i]?=some (some e):=by
    cases q2:ρ[i]? with
    | none=>rw [q2] at h';cases h'
    | some o=>rw [q2] at h';exact congrArg some h'
   obtain ⟨v,e1,r1⟩:=eo.2 i e h2
   refine ⟨v,?_,r1⟩
   show (t6 caps σ)[j]?=_
   unfold t6
   rw [List.getElem?_map,q]
   show some (σ[i]?).join=_
   rw [e1];rfl
noncomputable def a5s (caps:List Nat) (fi:Env->M (Src×Nat)) (t:Env->M Bool) (f:Env->M D) (ρ:Env):M (List D):=bind (fi ρ) λsm=>J8 sm.1 t f (λd=>some d :: B4 caps ρ) sm.2 0 []
theorem W5 {K:PySem.W.Frag} {cl:Nat->Addr} {xe:Addr->Hp->Prop} {caps:List Nat} {fi:Env->M (Src×Nat)} {t:Env->M Bool} {f:Env->M D} {σ:L2.St} {H:Hp} {μ:Mp} {S:Sto} {ρ:Env} {Q:VK} (eo:EnvOk K μ H ρ σ) (rp:Rep K cl μ S H)
  (p:Post K cl xe μ H (a5s caps fi t f ρ S) λds _ μ' H'=>∀ acc ys,LstAt μ' H' acc ys->RDs K μ' H' ds ys->Q (.ref acc) H'):b0o caps (tIt K cl xe fi) (tBo K cl xe t) (tD K cl xe f) σ H Q:=by
 refine ⟨μ,S,ρ,eo,rp,p.bind.imp λsm S1 μ1 H1 l1 r1 p1 J yl acc hacc=>?_⟩
 obtain ⟨src,m0⟩:=sm
 have nrs:acc∉μ1.rs:=r1.notrs hacc
 refine ⟨λi m ys H2=>∃ μ2 S2 es,HLat μ1 H1 acc μ2 H2/\acc∉μ2.pl/\H2 acc=some (.lst ys)/\EnvOk K μ2 H2 ρ σ/\Rep K cl μ2 S2 H2/\RDs K μ2 H2 es ys/\Post K cl xe μ1 H1 (J8 src t f (λd=>some d :: B4 caps ρ) m i es S2) (λds _ μ' H'=>∀ acc ys,LstAt μ' H' acc ys->RDs K μ' H' ds ys->Q (.ref acc) H'),⟨m0,μ1.hold acc,S1,[],?_,r1.notin hacc,b8,a1z r1 hacc (eo.later l1),a3d r1 hacc,.nil,p1⟩,?_⟩
 ·refine ⟨⟨λ_ _ e=>e,λa o e _=>by rw [a8 (b6 e hacc)];exact e,λa m=>.inl m,λa m=>?_⟩,rfl⟩
  rcases List.mem_cons.mp (show a∈acc :: μ1.rs from m) with rfl | m
  ·exact .inr hacc
  ·exact .inl m
 rintro i m ys H2 ⟨μ2,S2,es,hl,npl,e2,eo2,r2,rds2,p2⟩
 refine ⟨e2,?_⟩
 cases m with
 | zero=>exact p2.elim
 | succ m=>
  have y:U7 K cl J i μ2 H2 S2 (src i S2):=yl i μ2 H2 S2 hl.r.u r2
  simp only [J8] at p2
  cases e1:src i S2 with
  | none=>rw [e1] at p2;exact p2.elim
  | some o=>
   rw [e1] at p2 y
   cases o with
   | none=>
    refine .inl ⟨y,p2 μ2.free H2 (hl.lat (Lat.refl _ _)) (X1 r2) acc ys ⟨e2,npl,?_⟩ (a1v rds2)⟩
    show acc∉μ2.rs.tail
    rw [hl.rs];exact nrs
   | some d=>
    obtain ⟨y1,y2⟩:=y
    refine .inr ⟨y1,λx H3 hy=>?_⟩
    obtain ⟨l3,r3,rd3⟩:=y2 x H3 hy
    have h3:=hl.step l3
    refine ⟨μ2,S2,_,a0w (eo2.later l3) rd3,r3,(Post.at p2 h3).imp λb S5 μ5 H5 l5 r5 p5=>?_⟩
    have h5:=h3.step l5
    have l35:=l3.trans l5
    have a5:H5 acc=some (.lst ys):=l35.oth _ _ e2 npl
    have n5:acc∉μ5.pl:=l35.out e2 npl
    cases b with
    | false=>exact ⟨m,Nat.lt_succ_self _,μ5,S5,es,h5,n5,a5,eo2.later l35,r5,rds2.later l35,p5⟩
    | true=>
     refine c3k ?_
     rw [if_pos rfl] at p5
     refine ⟨μ5,S5,_,(a0w (eo2.later l3) rd3).later l5,r5,(Post.at p5 h5).imp λyv S6 μ6 H6 l6 r6 p6 v rv=>?_⟩
     have h6:=h5.step l6
     have l36:=l35.trans l6
     have a6:H6 acc=some (.lst ys):=l6.oth _ _ a5 n5
     have n6:acc∉μ6.pl:=l6.out a5 n5
     by_cases hz:es.length<sizeLine
     ·rw [if_pos hz] at p6
      have er:μ6.rs=acc :: μ1.rs:=h6.rs
      refine ⟨a6,by rw [<- rds2.length];exact hz,m,Nat.lt_succ_self _,μ6,S6,es++[yv],?_,n6,b8,?_,Y1 er a6 r6,Z8 er ((rds2.later l36).append (.cons rv .nil)),p6⟩
      ·refine ⟨⟨h6.r.pre,λa o e n=>?_,h6.r.new,h6.r.rsw⟩,er⟩
       rw [a8 (b6 e hacc)]
       exact h6.r.oth a o e n
      ·have eo6:=eo2.later l36
       exact ⟨eo6.1,λj e he=>let ⟨w,q,r⟩:=eo6.2 j e he;⟨w,q,a3g er r⟩⟩
     ·rw [if_neg hz] at p6;exact p6.elim
section
variable {X:Cx} {cl:Nat->Addr} {xe:Addr->Hp->Prop} {elt iter:Expr} {x:Str} {px pos:Pos} {ifs:List Expr} {scope:Scope} {N':List Str} {caps:List Nat} {fi:Env->M (Src×Nat)} {t:Env->M Bool} {f:Env->M D}
theorem a7d {X:Cx}:PTL X [] (tBo X.K cl xe λ_=>ret true):=λpins s σ H Q I ⟨μ,S,ρ,eo,rp,p⟩=>b4b pins s σ H Q I (p μ H (Lat.refl _ _) rp)
theorem a2o (T:CompText X.N X.env N' 1 caps scope) (hc:X.calm=true) (hN:N'.Nodup) (hx0:N'[0]?=some x) (hxl:scope.names.lookup x=some .local) (hi:PI X (.Name x px) iter (tIt X.K cl xe fi))
  (ht:∀ pins C fp s H,PTL (a9 X pins N' scope C fp s H) ifs (tBo X.K cl xe t)) (he:∀ pins C fp s H,PE (a9 X pins N' scope C fp s H) elt (tD X.K cl xe f)) (hn:t0 iter=true) :
  PE X (.ListComp elt [⟨.Name x px,iter,ifs,0⟩] scope pos) (λσ H Q=>∃ μ S ρ,EnvOk X.K μ H ρ σ/\Rep X.K cl μ S H/\Post X.K cl xe μ H (a5s caps fi t f ρ S) λds _ μ' H'=>∀ acc ys,LstAt μ' H' acc ys->RDs X.K μ' H' ds ys->Q (.ref acc) H'):=
 PE.imp (b5g T hc hN hx0 hxl hi ht he (A6 hn)) λσ H Q ⟨μ,S,ρ,eo,rp,p⟩=>W5 eo rp p
end
def a94 (K:PySem.W.Frag) (cl:Nat->Addr) (xe:Addr->Hp->Prop) (fs:Env->M (List D)):TE:=λσ H Q=>∃ μ S ρ,EnvOk K μ H ρ σ/\Rep K cl μ S H/\Post K cl xe μ H (fs ρ S) λds _ μ' H'=>∀ acc ys,LstAt μ' H' acc ys->RDs K μ' H' ds ys->Q (.ref acc) H'
end L3
namespace L2
open PySem PySem.Spec PyProof.Rows
section
variable {prog:Program} {w:World} {A:Around} {E:Value->Shared->Prop} {s:Shared}
theorem K9 {it l:Addr} {i:Nat} {items} {x:Value} {Q:Value->Shared->Prop} (hit:s.heap.IsTupleIter it l i)
  (hl:s.heap.IsTuple l items) (hx:items[i]?=some x)
  (hQ:∀ h',h'.IsTupleIter it l (i+1)->Heap.SameBut it s.heap h'->Q x { s with heap:=h' }) :
  wpAny (model prog w) A (Builtin.SmallTypes.nextOf (.ref it)) Q E s:=by
 obtain ⟨o,ho,hc,hd⟩:=id hit
 obtain ⟨ol,hol,_,nl,hdl⟩:=hl
 unfold Builtin.SmallTypes.nextOf
 refine wpAny_bind (wpAny_callSpecial?_slot (name:=Str.ofString "__next__") hit.typeIs F.slot_tuple_iterator_next
  (wpAny_call_entry F.slot_tuple_iterator_next hit.typeIs F.entry_tuple_iterator_next ?_ (F.args_tuple_iterator_next_1 _)))
 show wpAny _ _ (field (.ref it) 0 >>= _) _ _ s
 refine wpAny_bind (wpAny_field ho hd (x:=.ref l) rfl ?_)
 show wpAny _ _ (if (Value.ref l==Value.none)=true then _ else _) _ _ s
 rw [if_neg (show ¬ ((Value.ref l==Value.none)=true) from Bool.false_ne_true)]
 show wpAny _ _ (field (.ref it) 1 >>= _) _ _ s
 refine wpAny_bind (wpAny_field ho hd (x:=.int i 0) rfl ?_)
 show wpAny _ _ (seqItems? (.ref l) >>= _) _ _ s
 refine wpAny_bind (wpAny_seqItems hol hdl ?_)
 simp only [Int.toNat_natCast,hx]
 refine wpAny_bind (wpAny_setField ho hd (by simp) (wpAny_pure ⟨x,rfl,wpAny_pure (hQ _ ?_ (Heap.SameBut.update ..))⟩))
 exact ⟨_,Heap.get?_update_self _ ho (Obj.isFreed_of_fields (Obj.data_mapFields hd _)),(Obj.cls_mapFields ..).trans hc,by
  rw [Obj.data_mapFields hd];simp [rawInt]⟩
theorem N5 {it l:Addr} {i:Nat} {items} {Q:Value->Shared->Prop} (hh:A.handled=none)
  (hit:s.heap.IsTupleIter it l i) (hl:s.heap.IsTuple l items) (hx:items[i]?=none)
  (hE:∀ h' e,Heap.ExtBut it s.heap h'->(∃ o,h'.get? e=some o/\o.cls=.type "StopIteration")->E (.ref e) { s with heap:=h' }) :
  wpAny (model prog w) A (Builtin.SmallTypes.nextOf (.ref it)) Q E s:=by
 obtain ⟨o,ho,hc,hd⟩:=id hit
 obtain ⟨ol,hol,_,nl,hdl⟩:=hl
 unfold Builtin.SmallTypes.nextOf
 refine wpAny_bind (wpAny_callSpecial?_slot (name:=Str.ofString "__next__") hit.typeIs F.slot_tuple_iterator_next
  (wpAny_call_entry F.slot_tuple_iterator_next hit.typeIs F.entry_tuple_iterator_next ?_ (F.args_tuple_iterator_next_1 _)))
 show wpAny _ _ (field (.ref it) 0 >>= _) _ _ s
 refine wpAny_bind (wpAny_field ho hd (x:=.ref l) rfl ?_)
 show wpAny _ _ (if (Value.ref l==Value.none)=true then _ else _) _ _ s
 rw [if_neg (show ¬ ((Value.ref l==Value.none)=true) from Bool.false_ne_true)]
 show wpAny _ _ (field (.ref it) 1 >>= _) _ _ s
 refine wpAny_bind (wpAny_field ho hd (x:=.int i 0) rfl ?_)
 show wpAny _ _ (seqItems? (.ref l) >>= _) _ _ s
 refine wpAny_bind (wpAny_seqItems hol hdl ?_)
 simp only [Int.toNat_natCast,hx]
 refine wpAny_bind (wpAny_rule (wpAny_bind (wpAny_setField ho hd (by simp) ?_)))
 show wpAny _ _ (newExc (.type "StopIteration") [] >>= _) _ _ _
 refine wpAny_bind ?_
 simp only [newExc,newTuple]
 refine wpAny_bind (wpAny_newObj_type ?_ (by size_fits))
 refine wpAny_bind (m:=firstArgMember _ _) (wpAny_of_eq (a:=Value.none) (by first | rfl | (simp only [firstArgMember];rfl)) ?_)
 refine wpAny_newObj_type ?_ (by size_fits)
 simp only [raiseNew]
 refine wpAny_bind (wpAny_handled ?_)
 first | rw [show A.in1.handled=none from hh] | rw [hh]
 refine wpAny_bind (wpAny_pure (wpAny_throw ?_))
 exact hE _ _ (((Heap.SameBut.update ..).extBut.push _).push _) ⟨_,Heap.get?_push_size _ rfl,rfl⟩
end
theorem a90 {h h':Heap} {a:Addr} {items:Array Value} (x:h.IsTuple a items) (k:∀ o,h.get? a=some o->h'.get? a=some o):h'.IsTuple a items:=let ⟨o,ho,r⟩:=x;⟨o,k o ho,r⟩
theorem a95 {prog:Program} {w:World} {A:Around} (hh:A.handled=none) (it l:Addr) (hne:l≠it) (items:Array Value) :
  Draws prog w A it [it,l] items.size (λi v=>items[i]?=some v) (λi h=>h.IsTupleIter it l i/\h.IsTuple l items) where
 live:=λ_ _ st=>let ⟨o,ho,_⟩:=st.1;⟨o,ho⟩
 frame:=λ_ _ _ st hk=>⟨(let ⟨o,ho,r⟩:=st.1;⟨o,hk it (by simp) o ho,r⟩),a90 st.2 λo e=>hk l (by simp) o e⟩
 item:=λi s Q E hi st hQ=>by
  refine K9 st.1 st.2 (x:=items[i]) (by simp [hi]) λh' hit' hs'=>?_
  exact hQ _ h' s.toks (by simp [hi]) ⟨hit',st.2.extBut hs'.extBut hne⟩ hs'
 done:=λs Q E st hE=>N5 hh st.1 st.2 (by simp) hE
theorem a3l (l:Addr) (items:Array Value) (n:Nat) (dct:Option Addr) (sl:Array (Option Value)) :
  Meets (Builtin.«enumerate.__new__» ⟨[.type "enumerate",.ref l],[]⟩) (λ_ R s=>s.heap.get? l=some { cls:=.type "tuple",dict:=dct,data:=.seq items n,slots:=sl } /\
   R (.ok (.ret (.ref (s.heap.push { cls:=.type "tuple_iterator",data:=.fields #[.ref l,.int 0 0] }).objs.size)))
    { s with heap:=(s.heap.push { cls:=.type "tuple_iterator",data:=.fields #[.ref l,.int 0 0] }).push { cls:=.type "enumerate",data:=.fields #[.none,.bool false,.ref s.heap.objs.size,rawInt 0,.none,.none] } }):=
 .of_wp λprog w A R s h=>by
  obtain ⟨hp,g,d,tk,os⟩:=s;obtain ⟨hl,h⟩:=h
  have hsub:=sub_enumerate
  have hL:Heap.IsTuple (Shared.heap ⟨hp,g,d,tk,os⟩) l items:=⟨_,hl,rfl,n,rfl⟩
  wp_walk using AutoSeq1.wpAny_loadPart' hl
  refine wpAny_stack_any λst=>wpAny_pure ?_
  split
  ·rename_i c _ _ _ _ _
   cases (c==Value.type "enumerate")
   ·wp_walk using AutoSeq1.wpAny_loadPart' hl,wpAny_pyIter_tuple hL
    exact ⟨_,rfl,h⟩
   ·wp_walk using AutoSeq1.wpAny_loadPart' hl,wpAny_pyIter_tuple hL
    exact ⟨_,rfl,h⟩
  ·wp_walk using AutoSeq1.wpAny_loadPart' hl,wpAny_pyIter_tuple hL
   exact ⟨_,rfl,h⟩
section
variable {prog:Program} {w:World} {A:Around} {E:Value->Shared->Prop} {s:Shared}
theorem a4f {l:Addr} {items:Array Value} {Q:Value->Shared->Prop} (hL:s.heap.IsTuple l items)
  (h:∀ h',IsEnum h' (s.heap.objs.size+1) s.heap.objs.size 0 .none->h'.IsTupleIter s.heap.objs.size l 0->h'.objs.size=s.heap.objs.size+2 ->
   (∀ b o,s.heap.get? b=some o->h'.get? b=some o)->Q (.ref (s.heap.objs.size+1)) { s with heap:=h' }) :
  wpAny (model prog w) A (call (.type "enumerate") [.ref l]) Q E s:=by
 obtain ⟨⟨c,dct,dt,sl⟩,hl,hc,n,hd⟩:=hL
 replace hc:c=.type "tuple":=hc
 replace hd:dt=.seq items n:=hd
 subst hc hd
 refine callType_new F.called_enumerate (by decide) (F.typeCall_enumerate_1 _) (F.newCall_enumerate_1 _) (λobj=>F.args_object_init_2 obj _) F.entry_enumerate_new
  (a3l l items n dct sl) ⟨hl,?_⟩
 have hz:(s.heap.push { cls:=.type "tuple_iterator",data:=.fields #[.ref l,.int 0 0] }).objs.size=s.heap.objs.size+1:=Heap.size_push ..
 show _/\_
 rw [hz]
 have he:IsEnum ((s.heap.push { cls:=.type "tuple_iterator",data:=.fields #[.ref l,.int 0 0] }).push
   { cls:=.type "enumerate",data:=.fields #[.none,.bool false,.ref s.heap.objs.size,rawInt 0,.none,.none] }) (s.heap.objs.size+1) s.heap.objs.size 0 .none:=by
  have:=Heap.get?_push_size (s.heap.push { cls:=.type "tuple_iterator",data:=.fields #[.ref l,.int 0 0] })
   (o:={ cls:=.type "enumerate",data:=.fields #[.none,.bool false,.ref s.heap.objs.size,rawInt 0,.none,.none] }) rfl
  rw [hz] at this;exact this
 refine ⟨⟨_,he,rfl⟩,h _ he ⟨_,Heap.get?_push_of_some _ (Heap.get?_push_size _ rfl),rfl,rfl⟩ (by rw [Heap.size_push,hz]) λb o x=>Heap.get?_push_of_some _ (Heap.get?_push_of_some _ x)⟩
end
section
variable {X:Cx} {pins:List (Addr×Obj)} {σ:St} {H:Hp} {s:Shared} {h':Heap}
theorem Inv.turned2 {t':Nat} {e it:Addr} (I:Inv X pins σ H s) (k:∀ b o,b≠e->b≠it->s.heap.get? b=some o->h'.get? b=some o) (f:D1 X pins H e) (g:D1 X pins H it):Inv X pins σ H { s with heap:=h',toks:=t' }:=by
 obtain ⟨a0,a1,a2,a3,a4,a5⟩:=f
 obtain ⟨b0,b1,b2,b3,b4,b5⟩:=g
 have nit:∀ b u,H b=some u->b≠e/\b≠it:=λb u q=>⟨λz=>(by rw [z,a0] at q;cases q),λz=>(by rw [z,b0] at q;cases q)⟩
 have kk:∀ b o,b∉[e,it]->s.heap.get? b=some o->h'.get? b=some o:=λb o hb q=>k b o (λz=>hb (by simp [z])) (λz=>hb (by simp [z])) q
 refine I.step (g':=s.gens) (d':=s.drawn) (ch:=[e,it]) (λb hb=>?_) (λb o _ _ hc q _=>kk b o hc q) (λb o _ _ hc q _=>⟨o.slots,kk b o hc q⟩) (λ_ _ _ _ n=>n)
  (λb o hc q=>⟨o,kk b o hc q⟩) (λ_ _ q=>q) (λ_ _ _ q=>q) (λb ps q=>⟨#[],by rw [q];simp⟩) (λm hm=>?_) (λb u q=>?_) I.bare
 ·have z:b=e\/b=it:=by simpa using hb
  rcases z with rfl | rfl
  ·exact ⟨a3,a1,a4,a5⟩
  ·exact ⟨b3,b1,b4,b5⟩
 ·obtain ⟨o,es,ep,ho,r⟩:=hm
  exact ⟨o,es,ep,k _ o (Ne.symm a1) (Ne.symm b1) ho,r⟩
 ·refine (I.hok b u q).stay (λc v hc r=>?_) (λ_ r=>r) λ_ _ r=>r
  rcases hc with z | z
  ·rw [z] at r ⊢;exact k b v (nit b u q).1 (nit b u q).2 r
  ·exact k c v (nit c _ z).1 (nit c _ z).2 r
end
noncomputable def D0 (Sq:Hp->List V->Prop):It:=
 ⟨λi H=>∃ xs x,Sq H xs/\xs[i]?=some x,λi H x H'=>∃ p y,x=.ref p/\H p=none/\H'=upd H p (.tup [.int (i:Int),y])/\∀ xs,Sq H xs->xs[i]?=some y,λi H=>∃ xs,Sq H xs/\xs.length=i⟩
section
variable {P:Program} {w:World} {K:PySem.W.Frag} {elts:List Expr} {x1:Nat} {tp:Pos}
theorem Y3 {X:Cx} {pins:List (Addr×Obj)} {σ:St} {H:Hp} {s:Shared} {E:Value->Shared->Prop} {e it:Addr} {fp:List Addr} {n i:Nat} {Pv:Nat->Value->Prop} {Sv:Nat->Heap->Prop} {old:Value} {y:V} {J:It} {tn:Nat->Heap->Prop}
  (I:Inv X pins σ H s) (hf:∀ b∈[e,it],D1 X pins H b) (D:Draws X.prog X.w X.A.in1 it fp n Pv Sv) (he:IsEnum s.heap e it i old) (hst:Sv i s.heap) (hlt:i<n) (hne:e≠it) (hef:e∉fp)
  (rv:∀ u,Pv i u->RelV y u) (hn:∀ h',(∃ o,IsEnum h' e it ((i:Int)+1) o)->Sv (i+1) h'->tn (i+1) h') (hy:∀ p,H p=none->J.yld i H (.ref p) (upd H p (.tup [.int (i:Int),y]))) :
  wpAny (model X.prog X.w) X.A (pyNext (.ref e)) (λr s1=>∃ u,r=some u /\
   wpAny (model X.prog X.w) X.A (letOwnedTupleGo (.Tuple elts x1 tp) (.ref e) u) (λ_ s2=>∃ x H',Inv X pins σ H' s2/\RelV x u/\J.yld i H x H'/\tn (i+1) s2.heap/\∀ b∈[e,it],H' b=none) E s1) E s:=by
 refine wpAny_pyNext_enum_itemD D he hst hlt hne hef λu h' tk hu ho hs' hT hsz hk=>?_
 have le:e<s.heap.objs.size:=Heap.lt_size he
 have li:it<s.heap.objs.size:=by obtain ⟨_,z⟩:=D.live _ _ hst;exact Heap.lt_size z
 refine ⟨_,rfl,wpAny_letOwnedTupleGo_enum ho λh2 he2 hs2=>?_⟩
 have fr:H s.heap.objs.size=none:=I.hok.fresh (Nat.le_refl _)
 have I1:Inv X pins σ (upd H s.heap.objs.size (.tup [.int (i:Int),y])) { s with heap:=s.heap.push { cls:=.type "tuple",data:=.seq #[.int i tk,u] },toks:=tk }:=
  I.laid (λb q z=>Heap.get?_push_of_some _ z) (Nat.le_refl _) ⟨by rw [sizeLine_eq];show 2<=16777216;omega,[.int i tk,u],.cons ⟨tk,rfl⟩ (.cons (rv u hu) .nil),⟨_,Heap.get?_push_size _ rfl,rfl,_,rfl,rfl⟩⟩
 have fk:∀ b,D1 X pins H b->b<s.heap.objs.size->D1 X pins (upd H s.heap.objs.size (.tup [.int (i:Int),y])) b:=λb ⟨c0,c1,c2,c3,c4,c5⟩ lb=>⟨by rw [a8 (Nat.ne_of_lt lb)];exact c0,c1,c2,c3,c4,c5⟩
 have I2:=I1.turned2 (e:=e) (it:=it) (h':=h2) (t':=tk+1) (λb o b1 b2 z=>by
  have:=Heap.get?_push_cases z
  rcases this with ⟨rfl,rfl⟩ | z1
  ·exact (hs2.2 _ b1).trans hT
  ·exact (hs2.2 b b1).trans (hk b o b1 b2 z1)) (fk e (hf e (by simp)) le) (fk it (hf it (by simp)) li)
 refine ⟨.ref s.heap.objs.size,_,I2,rfl,hy _ fr,hn _ ⟨_,he2⟩ (D.frame _ _ _ hs' λb hb o z=>(hs2.2 b λq=>hef (q▸hb)).trans z),λb hb=>?_⟩
 have z:b=e\/b=it:=by simpa using hb
 rcases z with rfl | rfl
 ·rw [a8 (Nat.ne_of_lt le)];exact (hf _ (by simp)).1
 ·rw [a8 (Nat.ne_of_lt li)];exact (hf _ (by simp)).1
end
section
variable {P:Program} {w:World} {K:PySem.W.Frag} {elts:List Expr} {x1:Nat} {tp:Pos}
theorem a0f {h:Heap} {e it:Addr} {i:Int} {old:Value} (z:IsEnum h e it i old):∃ o,h.get? e=some o/\∀ v,o.data≠.cell v:=⟨_,z,λv q=>by
 have q':Data.fields _=Data.cell v:=q
 cases q'⟩
theorem a6l {Sq:Hp->List V->Prop} {i:Nat} {H:Hp} {p:Addr} {y:V} (h:H p=none) (k:∀ xs,Sq H xs->xs[i]?=some y):(D0 Sq).yld i H (.ref p) (upd H p (.tup [.int (i:Int),y])):=by
 show ∃ p' y',V.ref p=.ref p'/\H p'=none/\upd H p (.tup [.int (i:Int),y])=upd H p' (.tup [.int (i:Int),y'])/\∀ xs,Sq H xs->xs[i]?=some y'
 exact ⟨p,y,rfl,h,rfl,k⟩
theorem a39 (a e it:Addr) (hne:e≠it):Turn P w K (.Tuple elts x1 tp) (D0 λH xs=>SqL K H a xs) [e,it] e (λi h=>(∃ old,IsEnum h e it ((i:Nat):Int) old)/\h.IsListIter it a i) where
 mem:=by simp
 obj:=λi h st b hb=>by
  have z:b=e\/b=it:=by simpa using hb
  rcases z with rfl | rfl
  ·obtain ⟨old,q⟩:=st.1
   exact a0f q
  ·obtain ⟨o,q,c,d⟩:=st.2
   exact ⟨o,q,λv z=>by rw [d] at z;cases z⟩
 keep:=λi h h' st k=>⟨(let ⟨old,q⟩:=st.1;⟨old,k e (by simp) _ q⟩),st.2.at λo q=>k it (by simp) o q⟩
 item:=by
  intro X hP hw hK hc i pins s σ H E I hf st hg
  subst hP hw hK
  obtain ⟨xs,x,hq,hx⟩:=hg
  obtain ⟨its,rv,p,hz⟩:=I.list hq
  obtain ⟨u,hu,ru⟩:=rv.get hx
  obtain ⟨⟨old,he⟩,hit⟩:=st
  have nit:a≠it:=λz=>by
   obtain ⟨o,q,c,_⟩:=hit
   obtain ⟨o2,q2,c2,_⟩:=p.isList
   rw [z,q] at q2;cases q2;rw [c] at c2;exact absurd c2 (by decide)
  have nea:e≠a:=λz=>by
   obtain ⟨o2,q2,c2,_⟩:=p.isList
   rw [<- z,he] at q2;cases q2;exact absurd (show Value.type "enumerate" = Value.type "list" from c2) (by decide)
  have hlt:i<its.toArray.size:=by
   have:=(List.getElem?_eq_some_iff.mp hu).1
   simpa using this
  refine Y3 (y:=x) (J:=D0 λH xs=>SqL X.K H a xs) (tn:=λi h=>(∃ old,IsEnum h e it ((i:Nat):Int) old)/\h.IsListIter it a i) I hf (Draws.list (show X.A.in1.handled=none from I.ok.hd hc) it a nit its.toArray) he ⟨hit,p.isList⟩ hlt hne (by simp [hne,nea]) (λv hv=>?_) (λh' ho hs=>⟨?_,hs.1⟩) λq hq2=>a6l hq2 (λys hy=>by rw [I.list_inj hy hq];exact hx)
  ·have hv':its[i]?=some v:=by simpa using hv
   rw [hu] at hv';cases hv';exact ru
  ·obtain ⟨o,q⟩:=ho
   exact ⟨o,by rw [show ((i+1:Nat):Int)=(i:Int)+1 from rfl];exact q⟩
 done:=by
  intro X hP hw hK hc i pins s σ H E I hf st hg
  subst hP hw hK
  obtain ⟨xs,hq,hx⟩:=hg
  obtain ⟨its,rv,p,hz⟩:=I.list hq
  obtain ⟨⟨old,he⟩,hit⟩:=st
  have hl:=rv.length
  have nit:a≠it:=λz=>by
   obtain ⟨o,q,c,_⟩:=hit
   obtain ⟨o2,q2,c2,_⟩:=p.isList
   rw [z,q] at q2;cases q2;rw [c] at c2;exact absurd c2 (by decide)
  have en:i=its.toArray.size:=by simp;omega
  obtain ⟨f0,f1,f2,f3,f4,f5⟩:=hf it (by simp)
  exact wpAny_pyNext_enum_endD (Draws.list (show X.A.in1.handled=none from I.ok.hd hc) it a nit its.toArray) he ⟨en▸hit,p.isList⟩ λh' eb=>⟨rfl,I.turned (t':=s.toks) (λb o hb q=>eb b o hb q) f0 f1 f3 f4 f5⟩
 self:=λ_ _ _ _ _ st h=>by
  obtain ⟨⟨old,he⟩,_⟩:=st
  exact wpAny_pyIter_enum he h
theorem a38 (a e it:Addr) (hne:e≠it):Turn P w K (.Tuple elts x1 tp) (D0 λH xs=>SqT K H a xs) [e,it] e (λi h=>(∃ old,IsEnum h e it ((i:Nat):Int) old)/\h.IsTupleIter it a i) where
 mem:=by simp
 obj:=λi h st b hb=>by
  have z:b=e\/b=it:=by simpa using hb
  rcases z with rfl | rfl
  ·obtain ⟨old,q⟩:=st.1
   exact a0f q
  ·obtain ⟨o,q,c,d⟩:=st.2
   exact ⟨o,q,λv z=>by rw [d] at z;cases z⟩
 keep:=λi h h' st k=>⟨(let ⟨old,q⟩:=st.1;⟨old,k e (by simp) _ q⟩),st.2.at λo q=>k it (by simp) o q⟩
 item:=by
  intro X hP hw hK hc i pins s σ H E I hf st hg
  subst hP hw hK
  obtain ⟨xs,x,hq,hx⟩:=hg
  obtain ⟨its,rv,p,hz⟩:=I.tuple hq
  have pt:s.heap.IsTuple a its.toArray:=p
  obtain ⟨u,hu,ru⟩:=rv.get hx
  obtain ⟨⟨old,he⟩,hit⟩:=st
  have nit:a≠it:=λz=>by
   obtain ⟨o,q,c,_⟩:=hit
   obtain ⟨o2,q2,c2,_⟩:=pt
   rw [z,q] at q2;cases q2;rw [c] at c2;exact absurd c2 (by decide)
  have nea:e≠a:=λz=>by
   obtain ⟨o2,q2,c2,_⟩:=pt
   rw [<- z,he] at q2;cases q2;exact absurd (show Value.type "enumerate" = Value.type "tuple" from c2) (by decide)
  have hlt:i<its.toArray.size:=by
   have:=(List.getElem?_eq_some_iff.mp hu).1
   simpa using this
  refine Y3 (y:=x) (J:=D0 λH xs=>SqT X.K H a xs) (tn:=λi h=>(∃ old,IsEnum h e it ((i:Nat):Int) old)/\h.IsTupleIter it a i) I hf (a95 (show X.A.in1.handled=none from I.ok.hd hc) it a nit its.toArray) he ⟨hit,pt⟩ hlt hne (by simp [hne,nea]) (λv hv=>?_) (λh' ho hs=>⟨?_,hs.1⟩) λq hq2=>a6l hq2 (λys hy=>by rw [I.tuple_inj hy hq];exact hx)
  ·have hv':its[i]?=some v:=by simpa using hv
   rw [hu] at hv';cases hv';exact ru
  ·obtain ⟨o,q⟩:=ho
   exact ⟨o,by rw [show ((i+1:Nat):Int)=(i:Int)+1 from rfl];exact q⟩
 done:=by
  intro X hP hw hK hc i pins s σ H E I hf st hg
  subst hP hw hK
  obtain ⟨xs,hq,hx⟩:=hg
  obtain ⟨its,rv,p,hz⟩:=I.tuple hq
  have pt:s.heap.IsTuple a its.toArray:=p
  obtain ⟨⟨old,he⟩,hit⟩:=st
  have hl:=rv.length
  have nit:a≠it:=λz=>by
   obtain ⟨o,q,c,_⟩:=hit
   obtain ⟨o2,q2,c2,_⟩:=pt
   rw [z,q] at q2;cases q2;rw [c] at c2;exact absurd c2 (by decide)
  have en:i=its.toArray.size:=by simp;omega
  obtain ⟨f0,f1,f2,f3,f4,f5⟩:=hf it (by simp)
  exact wpAny_pyNext_enum_endD (a95 (show X.A.in1.handled=none from I.ok.hd hc) it a nit its.toArray) he ⟨en▸hit,pt⟩ λh' eb=>⟨rfl,I.turned (t':=s.toks) (λb o hb q=>eb b o hb q) f0 f1 f3 f4 f5⟩
 self:=λ_ _ _ _ _ st h=>by
  obtain ⟨⟨old,he⟩,_⟩:=st
  exact wpAny_pyIter_enum he h
end
section
variable {X:Cx} {elts:List Expr} {x1:Nat} {tp:Pos}
theorem a64:bootBuiltins "enumerate" = some (.type "enumerate"):=by decide +kernel
theorem b5a {l:Expr} {ta:TA} {p pos:Pos} (hg:Gl X "enumerate") (hm:X.mg "enumerate" = none) (ha:PA X [l] ta) (hs:starEach [l] X.env=[(false,eval l X.env)]) :
  PI X (.Tuple elts x1 tp) (.Call (.Name "enumerate" p) [l] [] pos) (λσ H R=>ta σ H λvs H1=>∃ a,vs=[.ref a]/\(((∃ xs,SqL X.K H1 a xs)/\R (D0 λH xs=>SqL X.K H a xs) H1)\/((∃ xs,SqT X.K H1 a xs)/\R (D0 λH xs=>SqT X.K H a xs) H1))):=by
 intro pins s σ H R I h
 refine Call_ (u3 I hg hm a64 (PyProof.Rows.callWith_type1 (thn (ha pos pins s σ H _ I h) λus s1 ⟨vs,H1,I1,r1,q1⟩=>?_) hs rfl))
 obtain ⟨a,e,q1⟩:=q1
 subst e
 cases r1 with
 | cons r rr=>
  cases rr
  cases r
  have fp:∀ h':Heap,h'.objs.size=s1.heap.objs.size+2->∀ b∈[s1.heap.objs.size+1,s1.heap.objs.size],D1 X pins H1 b:=λh' _ b hb=>by
   have z:b=s1.heap.objs.size+1\/b=s1.heap.objs.size:=by simpa using hb
   rcases z with rfl | rfl
   ·exact I1.fpOk (Nat.le_succ _) (I1.hok.fresh (Nat.le_succ _))
   ·exact I1.fpOk (Nat.le_refl _) (I1.hok.fresh (Nat.le_refl _))
  rcases q1 with ⟨⟨xs,hq⟩,q⟩ | ⟨⟨xs,hq⟩,q⟩
  ·obtain ⟨its,rv,p,hz⟩:=I1.list hq
   refine call_enumerate_list p.isList λh' he hi hsz hk=>?_
   exact wpAny_pyIter_enum he ⟨_,[s1.heap.objs.size+1,s1.heap.objs.size],_,_,H1,rfl,I1.kept (t':=s1.toks) hk,a39 a _ _ (Nat.succ_ne_self _),⟨⟨_,he⟩,hi⟩,fp h' hsz,q⟩
  ·obtain ⟨its,rv,p,hz⟩:=I1.tuple hq
   refine a4f (show s1.heap.IsTuple a its.toArray from p) λh' he hi hsz hk=>?_
   exact wpAny_pyIter_enum he ⟨_,[s1.heap.objs.size+1,s1.heap.objs.size],_,_,H1,rfl,I1.kept (t':=s1.toks) hk,a38 a _ _ (Nat.succ_ne_self _),⟨⟨_,he⟩,hi⟩,fp h' hsz,q⟩
end
end L2
namespace L3
open PySem PySem.Spec PyProof.Rows L2
noncomputable def W7 (ds:List D):Src:=λi _=>match ds[i]? with
 | some d=>some (some (.tup [.int (i:Int),d]))
 | none=>if i=ds.length then some none else none
noncomputable def U6 (d:D):M (Src×Nat):=match d with
 | .tup ds=>ret (W7 ds,ds.length+1)
 | .lst ds=>ret (W7 ds,ds.length+1)
 | .scr ds=>ret (W7 ds,ds.length+1)
 | _=>bad
section
variable {K:PySem.W.Frag} {cl:Nat->Addr} {μ:Mp} {H:Hp}
theorem b6j {Sq:Hp->List V->Prop} {xs:List V} {ds:List D} (hl:∀ μ2 H2 S2,LatU μ H μ2 H2->Rep K cl μ2 S2 H2->Sq H2 xs) (r:RDs K μ H ds xs):Yl K cl (D0 Sq) μ H (W7 ds):=λi μ2 H2 S2 l rp=>by
 have hq:=hl μ2 H2 S2 l rp
 have r2:=r.laterU l
 show U7 K cl (D0 Sq) i μ2 H2 S2 (match ds[i]? with
  | some d=>some (some (.tup [.int (i:Int),d]))
  | none=>if i=ds.length then some none else none)
 cases e:ds[i]? with
 | none=>
  show U7 K cl (D0 Sq) i μ2 H2 S2 (if i=ds.length then some none else none)
  by_cases q:i=ds.length
  ·rw [if_pos q]
   exact ⟨xs,hq,by rw [<- r.length];exact q.symm⟩
  ·rw [if_neg q];exact trivial
 | some d=>
  obtain ⟨v,e1,r1⟩:=r2.get e
  refine ⟨⟨xs,v,hq,e1⟩,λx H3 z=>?_⟩
  obtain ⟨p,y,rfl,hp,rfl,q⟩:=z
  have:=q xs hq
  rw [e1] at this
  cases this
  exact y3 rp (.cons (.int _) (.cons r1 .nil)) hp
theorem b8t {a:Addr} {xs:List V} {ds:List D} (h:TupAt K μ H a xs) (r:RDs K μ H ds xs):Yl K cl (D0 λH xs=>SqT K H a xs) μ H (W7 ds):=b6j (λμ2 H2 S2 l rp=>by
 rcases h with ⟨q,n1,n2⟩ | q
 ·rcases q with q | ⟨o,q⟩
  ·exact .inl (.inl (l.oth _ _ q n1 n2))
  ·exact .inl (.inr ⟨o,l.oth _ _ q n1 n2⟩)
 ·obtain ⟨o,its,n,c1,c2,c3,c4,c5,_⟩:=q
  exact .inr ⟨o,its,n,c1,c2,c3,c4,c5⟩) r
theorem b1i {a:Addr} {xs:List V} {ds:List D} (h:LstAt μ H a xs\/ScrAt K μ H a xs) (r:RDs K μ H ds xs):Yl K cl (D0 λH xs=>SqL K H a xs) μ H (W7 ds):=b6j (λμ2 H2 S2 l rp=>by
 rcases h with ⟨q,n1,n2⟩ | ⟨q,n1,n2⟩ | q
 ·exact .inl (.inl (l.oth _ _ q n1 n2))
 ·rcases q with q | ⟨o,q⟩
  ·exact .inl (.inl (l.oth _ _ q n1 n2))
  ·exact .inl (.inr ⟨o,l.oth _ _ q n1 n2⟩)
 ·exact .inr q) r
end
section
variable {X:Cx} {cl:Nat->Addr} {xe:Addr->Hp->Prop} {elts:List Expr} {x1:Nat} {tp p pos:Pos}
theorem b15 {a:Expr} {fs:Env->M (List D)} (hg:Gl X "enumerate") (hm:X.mg "enumerate" = none) (ha:PA X [a] (tDs X.K cl xe fs)) (hs:noStar a=true) :
  PI X (.Tuple elts x1 tp) (.Call (.Name "enumerate" p) [a] [] pos) (tIt X.K cl xe λρ=>bind (fs ρ) λds=>match ds with
   | [d]=>U6 d
   | _=>bad):=
 PI.imp (b5a hg hm ha (d8 hs)) λσ H R ⟨μ,S,ρ,eo,rp,P⟩=>⟨μ,S,ρ,eo,rp,P.bind.imp λds S1 μ1 H1 l1 r1 p1 vs rvs=>by
  cases rvs with
  | nil=>exact False.elim p1
  | cons h t=>
   cases t with
   | cons _ _=>exact False.elim p1
   | nil=>
    cases h with
    | tup h r=>exact ⟨_,rfl,.inr ⟨⟨_,h.sq⟩,p1.ret μ1 H1 (Lat.refl _ _) r1 _ (b8t h r)⟩⟩
    | lst h r=>exact ⟨_,rfl,.inl ⟨⟨_,h.sq⟩,p1.ret μ1 H1 (Lat.refl _ _) r1 _ (b1i (.inl h) r)⟩⟩
    | scr h r=>exact ⟨_,rfl,.inl ⟨⟨_,h.sq⟩,p1.ret μ1 H1 (Lat.refl _ _) r1 _ (b1i (.inr h) r)⟩⟩
    | _=>exact False.elim p1⟩
end
end L3
namespace L2
open PySem PySem.Spec PyProof.Rows
section
variable {prog:Program} {w:World} {A:Around} {s:Shared} {R:Result->Shared->Prop}
theorem L7 {elt target iter:Expr} {ifs:List Expr} {scope:Scope} {pos:Pos} {it acc:Value} {env:PySem.Env} (I:Nat->Shared->Prop)
  (turn:∀ n s,I n s->wpAny (model prog w) A (pyNext it) (λr s₁=>match r with
   | none=>R (.ok .next) s₁
   | some v=>wpAny (model prog w) A (letOwnedTupleGo target it v) (λ_ s₀=>wpAny (model prog w) A (assign target env v) (λ_ s₂=>
     wpAny (model prog w) A (forIn ifs true λc r=>if r=true then do let ok <- isTrue c env (eval c env);pure (ForInStep.yield ok) else pure (ForInStep.yield r)) (λok s₃=>
      if ok=true then wpAny (model prog w) A (eval elt env) (λx s₄=>
       wpAny (model prog w) A (call (.builtin "list.append") [acc,x]) (λ_ s₅=>∃ m,m<n/\I m s₅) (notedBy (model prog w) A env λe s'=>R (.error e) s') s₄) (notedBy (model prog w) A env λe s'=>R (.error e) s') s₃
      else ∃ m,m<n/\I m s₃) (notedBy (model prog w) A env λe s'=>R (.error e) s') s₂) (notedBy (model prog w) A env λe s'=>R (.error e) s') s₀) (notedBy (model prog w) A env λe s'=>R (.error e) s') s₁) (notedBy (model prog w) A env λe s'=>R (.error e) s') s)
  (n:Nat) (h:I n s):codeAny (model prog w) A (.compLoop (.ListComp elt [⟨target,iter,ifs,0⟩] scope pos) 0 it acc env) R s:=by
 refine codeAny_loop rfl I (λn s hI=>?_) n h
 show wpAny _ A ((compTurn (.ListComp elt [⟨target,iter,ifs,0⟩] scope pos) 0 it acc env).onRaise (λx=>do noteFrame x env;theTreesLotGoes x)) _ _ s
 refine wpAny_noted ?_
 rw [compTurn_list]
 refine wpAny_bind (wpAny_standAt (wpAny_bind (wpAny_mono (turn n s hI) (λr s₁ h₁=>?_) λ_ _ h'=>h')))
 cases r with
 | none=>exact wpAny_pure h₁
 | some v=>
  refine wpAny_bind (wpAny_mono h₁ (λ_ s₀ h₀=>?_) λ_ _ h'=>h')
  refine wpAny_bind (wpAny_mono h₀ (λ_ s₂ h₂=>wpAny_bind (wpAny_mono h₂ (λok s₃ h₃=>?_) λ_ _ h'=>h')) λ_ _ h'=>h')
  cases ok with
  | false=>exact wpAny_pure ⟨rfl,h₃⟩
  | true=>
   exact wpAny_bind (wpAny_bind (wpAny_mono h₃ (λx s₄ h₄=>wpAny_bind (wpAny_mono h₄ (λ_ s₅ h₅=>wpAny_pure (wpAny_pure ⟨rfl,h₅⟩)) λ_ _ h'=>h')) λ_ _ h'=>h'))
end
def a4e (k:Nat) (caps:List Nat) (wi:TI) (tgp:TG) (tc:TT) (te:TE):TE:=λσ H Q=>wi σ H λJ H1=>∀ acc,H1 acc=none->∃ W:Nat->Nat->List V->Hp->Prop,(∃ m,W 0 m [] (upd H1 acc (.lst []))) /\
 ∀ i m ys H2,W i m ys H2->H2 acc=some (.lst ys)/\((J.stop i H2/\Q (.ref acc) H2)\/(J.go i H2/\∀ x H3,J.yld i H2 x H3->tgp x (List.replicate k none++t6 caps σ) H3 λσ4 H4=>∃ vals:List (Option V),vals.length=k/\σ4=vals++t6 caps σ/\tc σ4 H4 λb H5=>
  if b=true then te σ4 H5 λy H6=>H6 acc=some (.lst ys)/\ys.length<sizeLine/\∃ m',m'<m/\W (i+1) m' (ys++[y]) (upd H6 acc (.lst (ys++[y])))
  else ∃ m',m'<m/\W (i+1) m' ys H5))
theorem b2o {X:Cx} {elt iter tg:Expr} {k:Nat} {tgp:TG} {ifs:List Expr} {scope:Scope} {pos:Pos} {N':List Str} {caps:List Nat} {wi:TI} {tc:TT} {te:TE}
  (T:CompText X.N X.env N' k caps scope) (hc:X.calm=true) (hg:∀ pins C fp s H,PG (a9 X pins N' scope C fp s H) tg tgp) (hi:PI X tg iter wi)
  (ht:∀ pins C fp s H,PTL (a9 X pins N' scope C fp s H) ifs tc) (he:∀ pins C fp s H,PE (a9 X pins N' scope C fp s H) elt te)
  (hs:∀ x,foldedSetIterable iter X.env x=pure x:=by intro _;rfl):PE X (.ListComp elt [⟨tg,iter,ifs,0⟩] scope pos) (a4e k caps wi tgp tc te):=by
 intro pins s σ H Q I h
 have fr:∀ x∈scope.names,x.2=NameKind.free->∃ c,X.env.cells.lookup x.1=some c:=λx hx hk=>I.ok.has x.1 (T.free x hx hk).2
 rw [eval_ListComp]
 refine wpAny_comprehension_free (use:=none) rfl hs (q9 fr) T.kind T.loc ?_
 refine thn (hi pins s σ H _ I h) λv s1 h1=>thn h1 λitv s2 h2=>?_
 obtain ⟨it,fp,tn,J,H2,rfl,I2,Tn,st2,f2,h2⟩:=h2
 obtain ⟨W,⟨m0,w0⟩,turn⟩:=h2 s2.heap.objs.size (I2.hok.fresh (Nat.le_refl _))
 have hlt:∀ b∈fp,b<s2.heap.objs.size:=λb hb=>let ⟨o,e,_⟩:=Tn.obj _ _ st2 b hb;Heap.lt_size e
 refine wpAny_newObj_type (wpAny_newFunctionEnv T.cell (by intro y hy;simp at hy) (λh₁ hns₁ hsb₁=>?_) T.kind)
 dsimp only at hns₁ hsb₁ ⊢
 have hC:(s2.heap.push { cls:=.type "list",dict:=none,data:=.seq ([]:List Value).toArray }).objs.size=s2.heap.objs.size+1:=Heap.size_push ..
 rw [hC] at hns₁ hsb₁
 have old:∀ b o,s2.heap.get? b=some o->h₁.get? b=some o:=λb o e=>hsb₁.extBut b o (Nat.ne_of_lt (Nat.lt_succ_of_lt (Heap.lt_size e))) (Heap.get?_push_of_some _ (Heap.get?_push_of_some _ e))
 have hacc:h₁.get? s2.heap.objs.size=some { cls:=.type "list",data:=.seq #[] }:=hsb₁.extBut _ _ (Nat.ne_of_lt (Nat.lt_succ_self _)) (Heap.get?_push_of_some _ (Heap.get?_push_size _ rfl))
 have hst₁:tn 0 h₁:=Tn.keep _ _ _ st2 λb _ o e=>old b o e
 have I3:=B9 (t:=s2.toks+([]:List (Str×Value)).length) T I2 f2 hlt hns₁ old hacc
 have stat:∀ {H':Hp},(∀ b∈fp,H' b=none)->∀ b∈fp,D1 (a9 X pins N' scope (s2.heap.objs.size+1) fp s2 H2) [] H' b:=λhn b hb=>by
  refine ⟨hn b hb,(I3.ok.exf b hb).1,I3.ok.exfs b hb,.inl hb,(I3.ok.exf b hb).2,λp hp=>?_⟩
  have hp':p∈X.pn++pins:=by
   have:p∈(X.pn++pins)++[]:=hp
   rwa [List.append_nil] at this
  exact (f2 b hb).2.2.2.2.2 p hp'
 have loop:∀ s3:Shared,s3={ s2 with heap:=h₁,toks:=s2.toks+([]:List (Str×Value)).length } ->
   codeAny (model X.prog X.w) X.A (.compLoop (.ListComp elt [⟨tg,iter,ifs,0⟩] scope pos) 0 (.ref it) (.ref s2.heap.objs.size) (compEnvC scope (E3 X.env.cells scope.names) (s2.heap.objs.size+1) X.env))
    (compPost (model X.prog X.w) X.A X.xe none (EP X pins σ Q) (.ref s2.heap.objs.size) (s2.heap.objs.size+1)) s3:=by
  rintro s3 rfl
  refine L7 (λn s'=>∃ i ys H',Inv (a9 X pins N' scope (s2.heap.objs.size+1) fp s2 H2) [] (List.replicate k none++t6 caps σ) H' s'/\tn i s'.heap/\(∀ b∈fp,H' b=none)/\W i n ys H') ?_ m0
   ⟨0,[],_,I3,hst₁,λb hb=>by rw [a8 (Nat.ne_of_lt (hlt b hb))];exact (f2 b hb).1,w0⟩
  rintro n s4 ⟨i,ys,H4,I4,st4,fr4,w4⟩
  obtain ⟨hacc4,turn4⟩:=turn i n ys H4 w4
  refine b9 ?_
  rcases turn4 with ⟨stop,q⟩ | ⟨go,step⟩
  ·refine thn (Tn.done (a9 X pins N' scope (s2.heap.objs.size+1) fp s2 H2) rfl rfl rfl hc i [] s4 _ H4 (λ_ _=>False) I4 (stat fr4) st4 stop) λr s5 ⟨hr,I5⟩=>?_
   subst hr
   obtain ⟨m5,hn5,_⟩:=id I5.loc
   refine ⟨m5,hn5,λh' hs'=>?_⟩
   refine ⟨.ref s2.heap.objs.size,H4,?_,rfl,q⟩
   refine I2.call' (ch:=fp) (s':={ s5 with heap:=h' }) I5.os (Un.sameBut I5.base hs' (Nat.le_succ _)) (I5.hok.sameBut I5.free hs') I5.bare λb hb=>?_
   have:=f2 b hb
   exact ⟨this.2.2.2.1,this.2.1,this.2.2.2.2.1,this.2.2.2.2.2⟩
  ·refine thn (Tn.item (a9 X pins N' scope (s2.heap.objs.size+1) fp s2 H2) rfl rfl rfl hc i [] s4 _ H4 (λ_ _=>False) I4 (stat fr4) st4 go) λr s5 ⟨u,hr,h5⟩=>?_
   subst hr
   dsimp only
   refine b9 (thn h5 λ_ s6 ⟨xv,H6,I6,r6,y6,st6,fr6⟩=>?_)
   have I6':=I6.pinned (stat fr6) (Tn.obj _ _ st6)
   refine b9 (thn (hg pins _ fp s2 H2 _ s6 _ H6 xv u _ I6' r6 (step xv _ y6)) λ_ s7 ⟨σ7,H7,I7,vals,hv,e7,q7⟩=>?_)
   subst e7
   have back:∀ {σ8:St} {H8:Hp} {s8:Shared},Inv (a9 X pins N' scope (s2.heap.objs.size+1) fp s2 H2) ([]++t8 fp s6.heap) σ8 H8 s8->tn (i+1) s8.heap/\∀ b∈fp,H8 b=none:=λ{σ8 H8 s8} I8=>by
    refine ⟨Tn.keep _ _ _ st6 λb hb o e=>(I8.pin (b,o) (List.mem_append_right _ (List.mem_append_right _ (j3 hb e)))).1,λb hb=>?_⟩
    obtain ⟨o,e,d⟩:=Tn.obj _ _ st6 b hb
    exact (I8.pin (b,o) (List.mem_append_right _ (List.mem_append_right _ (j3 hb e)))).2.1
   refine b9 (thn (ht pins _ fp s2 H2 _ s7 _ _ _ I7 q7) λb s8 ⟨H8,I8,q8⟩=>?_)
   have wk:∀ {H9:Hp} {s9:Shared},Inv (a9 X pins N' scope (s2.heap.objs.size+1) fp s2 H2) ([]++t8 fp s6.heap) (vals++t6 caps σ) H9 s9->Inv (a9 X pins N' scope (s2.heap.objs.size+1) fp s2 H2) [] (List.replicate k none++t6 caps σ) H9 s9:=λ{H9 s9} I9=>
    I9.unpinned.weak (by simp [hv]) λj v e=>by
     by_cases hj:j<k
     ·rw [List.getElem?_append_left (by simpa using hj),List.getElem?_replicate,if_pos hj] at e
      cases e
     ·rw [List.getElem?_append_right (by simpa using hj)] at e
      rw [List.getElem?_append_right (by omega),hv]
      simpa using e
   cases b with
   | false=>
    obtain ⟨m',hm,w'⟩:=q8
    exact ⟨m',hm,i+1,ys,H8,wk I8,(back I8).1,(back I8).2,w'⟩
   | true=>
    refine b9 (thn (he pins _ fp s2 H2 _ s8 _ H8 _ I8 q8) λz s9 ⟨y,H9,I9,r9,hacc9,hl9,m',hm,w'⟩=>?_)
    refine b9 (thn (A8 (X:=a9 X pins N' scope (s2.heap.objs.size+1) fp s2 H2) _ s9 _ H9 (.ref s2.heap.objs.size) [y] (.ref s2.heap.objs.size) [z] (λ_ H'=>H'=upd H9 s2.heap.objs.size (.lst (ys++[y]))) I9 rfl (.cons r9 .nil) ⟨_,ys,y,rfl,rfl,hacc9,hl9,rfl⟩) λ_ s10 ⟨_,H10,I10,_,e10⟩=>?_)
    subst e10
    exact ⟨m',hm,i+1,ys++[y],_,wk I10,(back I10).1,(back I10).2,w'⟩
 have fin:=codeAny_compStart_list (loop _ rfl) (Tn.self _ 0 _ _ _ hst₁ (loop _ rfl))
 rw [<- hC] at fin
 exact fin
end L2
namespace L3
open PySem PySem.Spec PyProof.Rows L2
noncomputable def mk2 (c:Env) (d:D):Env:=match d with
 | .tup [a,b]=>some a :: some b :: c
 | _=>[]
noncomputable def a66 (t:Env->M Bool) (ρ:Env):M Bool:=match ρ with
 | []=>bad
 | o :: ρ=>t (o :: ρ)
noncomputable def a05 (caps:List Nat) (fi:Env->M (Src×Nat)) (t:Env->M Bool) (f:Env->M D) (ρ:Env):M (List D):=bind (fi ρ) λsm=>J8 sm.1 (a66 t) f (mk2 (B4 caps ρ)) sm.2 0 []
theorem b2c {K:PySem.W.Frag} {μ:Mp} {H:Hp} {ρ:Env} {σ:L2.St} {d:D} {x:V} (eo:EnvOk K μ H ρ σ) (r:RD K μ H d x):EnvOk K μ H (some d :: ρ) (some x :: σ):=by
 refine ⟨by simp [eo.1],λi e he=>?_⟩
 cases i with
 | zero=>simp at he;subst he;exact ⟨x,rfl,r⟩
 | succ j=>exact eo.2 j e he
def c5s:TGs:=b1u (U3 0) (b1u (U3 1) gNil)
theorem P3 {K:PySem.W.Frag} {cl:Nat->Addr} {xe:Addr->Hp->Prop} {caps:List Nat} {fi:Env->M (Src×Nat)} {t:Env->M Bool} {f:Env->M D} {σ:L2.St} {H:Hp} {μ:Mp} {S:Sto} {ρ:Env} {Q:VK} (eo:EnvOk K μ H ρ σ) (rp:Rep K cl μ S H)
  (p:Post K cl xe μ H (a05 caps fi t f ρ S) λds _ μ' H'=>∀ acc ys,LstAt μ' H' acc ys->RDs K μ' H' ds ys->Q (.ref acc) H'):a4e 2 caps (tIt K cl xe fi) (c3p K 2 c5s) (tBo K cl xe t) (tD K cl xe f) σ H Q:=by
 refine ⟨μ,S,ρ,eo,rp,p.bind.imp λsm S1 μ1 H1 l1 r1 p1 J yl acc hacc=>?_⟩
 obtain ⟨src,m0⟩:=sm
 have nrs:acc∉μ1.rs:=r1.notrs hacc
 refine ⟨λi m ys H2=>∃ μ2 S2 es,HLat μ1 H1 acc μ2 H2/\acc∉μ2.pl/\H2 acc=some (.lst ys)/\EnvOk K μ2 H2 ρ σ/\Rep K cl μ2 S2 H2/\RDs K μ2 H2 es ys/\Post K cl xe μ1 H1 (J8 src (a66 t) f (mk2 (B4 caps ρ)) m i es S2) (λds _ μ' H'=>∀ acc ys,LstAt μ' H' acc ys->RDs K μ' H' ds ys->Q (.ref acc) H'),⟨m0,μ1.hold acc,S1,[],?_,r1.notin hacc,b8,a1z r1 hacc (eo.later l1),a3d r1 hacc,.nil,p1⟩,?_⟩
 ·refine ⟨⟨λ_ _ e=>e,λa o e _=>by rw [a8 (b6 e hacc)];exact e,λa m=>.inl m,λa m=>?_⟩,rfl⟩
  rcases List.mem_cons.mp (show a∈acc :: μ1.rs from m) with rfl | m
  ·exact .inr hacc
  ·exact .inl m
 rintro i m ys H2 ⟨μ2,S2,es,hl,npl,e2,eo2,r2,rds2,p2⟩
 refine ⟨e2,?_⟩
 cases m with
 | zero=>exact p2.elim
 | succ m=>
  have y:U7 K cl J i μ2 H2 S2 (src i S2):=yl i μ2 H2 S2 hl.r.u r2
  simp only [J8] at p2
  cases e1:src i S2 with
  | none=>rw [e1] at p2;exact p2.elim
  | some o=>
   rw [e1] at p2 y
   cases o with
   | none=>
    refine .inl ⟨y,p2 μ2.free H2 (hl.lat (Lat.refl _ _)) (X1 r2) acc ys ⟨e2,npl,?_⟩ (a1v rds2)⟩
    show acc∉μ2.rs.tail
    rw [hl.rs];exact nrs
   | some d=>
    obtain ⟨y1,y2⟩:=y
    refine .inr ⟨y1,λx H3 hy=>?_⟩
    obtain ⟨l3,r3,rd3⟩:=y2 x H3 hy
    have h3:=hl.step l3
    cases rd3 with
    | tup ht rs=>
     cases rs with
     | nil=>exact False.elim p2
     | cons ra rs=>
      cases rs with
      | nil=>exact False.elim p2
      | cons rb rs=>
       cases rs with
       | cons _ _=>exact False.elim p2
       | nil=>
        rename_i da va db vb
        refine ⟨_,_,rfl,ht.sq,rfl,va,[vb],rfl,vb,[],rfl,rfl,[some va,some vb],rfl,rfl,?_⟩
        have ev:=b2c (a0w (caps:=caps) (eo2.later l3) rb) ra
        refine ⟨μ2,S2,some da :: some db :: B4 caps ρ,ev,r3,(Post.at p2 h3).imp λb S5 μ5 H5 l5 r5 p5=>?_⟩
        have h5:=h3.step l5
        have l35:=l3.trans l5
        have a5:H5 acc=some (.lst ys):=l35.oth _ _ e2 npl
        have n5:acc∉μ5.pl:=l35.out e2 npl
        cases b with
        | false=>exact ⟨m,Nat.lt_succ_self _,μ5,S5,es,h5,n5,a5,eo2.later l35,r5,rds2.later l35,p5⟩
        | true=>
         refine c3k ?_
         rw [if_pos rfl] at p5
         refine ⟨μ5,S5,some da :: some db :: B4 caps ρ,ev.later l5,r5,(Post.at p5 h5).imp λyv S6 μ6 H6 l6 r6 p6 v rv=>?_⟩
         have h6:=h5.step l6
         have l36:=l35.trans l6
         have a6:H6 acc=some (.lst ys):=l6.oth _ _ a5 n5
         have n6:acc∉μ6.pl:=l6.out a5 n5
         by_cases hz:es.length<sizeLine
         ·rw [if_pos hz] at p6
          have er:μ6.rs=acc :: μ1.rs:=h6.rs
          refine ⟨a6,by rw [<- rds2.length];exact hz,m,Nat.lt_succ_self _,μ6,S6,es++[yv],?_,n6,b8,?_,Y1 er a6 r6,Z8 er ((rds2.later l36).append (.cons rv .nil)),p6⟩
          ·refine ⟨⟨h6.r.pre,λa o e n=>?_,h6.r.new,h6.r.rsw⟩,er⟩
           rw [a8 (b6 e hacc)]
           exact h6.r.oth a o e n
          ·have eo6:=eo2.later l36
           exact ⟨eo6.1,λj e he=>let ⟨w,q,r⟩:=eo6.2 j e he;⟨w,q,a3g er r⟩⟩
         ·rw [if_neg hz] at p6;exact p6.elim
    | _=>exact False.elim p2
section
variable {X:Cx} {cl:Nat->Addr} {xe:Addr->Hp->Prop} {elt iter:Expr} {x y:Str} {px py tp pos:Pos} {kk:Nat} {ifs:List Expr} {scope:Scope} {N':List Str} {caps:List Nat} {fi:Env->M (Src×Nat)} {t:Env->M Bool} {f:Env->M D}
theorem Y6 (T:CompText X.N X.env N' 2 caps scope) (hc:X.calm=true) (hN:N'.Nodup) (hx0:N'[0]?=some x) (hy0:N'[1]?=some y) (hxl:scope.names.lookup x=some .local) (hyl:scope.names.lookup y=some .local) (hi:PI X (.Tuple [.Name x px,.Name y py] kk tp) iter (tIt X.K cl xe fi))
  (ht:∀ pins C fp s H,PTL (a9 X pins N' scope C fp s H) ifs (tBo X.K cl xe t)) (he:∀ pins C fp s H,PE (a9 X pins N' scope C fp s H) elt (tD X.K cl xe f)) (hn:t0 iter=true) :
  PE X (.ListComp elt [⟨.Tuple [.Name x px,.Name y py] kk tp,iter,ifs,0⟩] scope pos) (a94 X.K cl xe (a05 caps fi t f)):=
 PE.imp (b2o T hc (λpins C fp s H=>a3w (X:=a9 X pins N' scope C fp s H) (n:=2) hc (E6 (v7 (i:=0) hN hx0 (.inl (lookup_relabel_local hxl)) (.inr (lookup_relabel_local hxl))) (E6 (v7 (i:=1) hN hy0 (.inl (lookup_relabel_local hyl)) (.inr (lookup_relabel_local hyl))) a08))) hi ht he (A6 hn)) λσ H Q ⟨μ,S,ρ,eo,rp,p⟩=>P3 eo rp p
end
noncomputable def y7 (d:D):M Bool:=match d with
 | .non=>ret false
 | .bl b=>ret b
 | .int i=>ret (i != 0)
 | .str x=>if x.length<=sizeLine then ret ((x.length:Int) != 0) else bad
 | .ref n=>λS=>match S[n]? with
  | some (.lst ds)=>.ok (!ds.isEmpty) S
  | some (.dct kvs)=>.ok (!kvs.isEmpty) S
  | _=>.bad
 | d=>bind (p8 d) λds=>ret (!ds.isEmpty)
section
variable {K:PySem.W.Frag} {cl:Nat->Addr} {xe:Addr->Hp->Prop} {μ:Mp} {H:Hp} {S:Sto}
theorem F9 {ds:List D} {vs:List V} (r:RDs K μ H ds vs):ds.isEmpty=vs.isEmpty:=by cases r <;> rfl
theorem R7 {d:D} {v:V} {G:Bool->Sto->Mp->Hp->Prop} (rd:RD K μ H d v) (rp:Rep K cl μ S H) (p:Post K cl xe μ H (y7 d S) G):∃ k,a7q K v H k/\G k S μ H:=by
 cases rd with
 | non=>exact ⟨_,rfl,p μ H (Lat.refl _ _) rp⟩
 | bl b=>exact ⟨_,rfl,p μ H (Lat.refl _ _) rp⟩
 | int i=>exact ⟨_,rfl,p μ H (Lat.refl _ _) rp⟩
 | str x=>
  obtain ⟨hl,p⟩:=Post.guard p
  exact ⟨_,⟨hl,rfl⟩,p μ H (Lat.refl _ _) rp⟩
 | tup h r=>exact ⟨_,.inr (.inl ⟨_,h.sq,by rw [<- F9 r]⟩),p μ H (Lat.refl _ _) rp⟩
 | lst h r=>exact ⟨_,.inl ⟨_,h.sq,by rw [<- F9 r]⟩,p μ H (Lat.refl _ _) rp⟩
 | scr h r=>exact ⟨_,.inl ⟨_,h.sq,by rw [<- F9 r]⟩,p μ H (Lat.refl _ _) rp⟩
 | ref h=>
  rename_i n a
  simp only [y7] at p
  cases q1:S[n]? with
  | none=>rw [q1] at p;exact p.elim
  | some o=>
   rw [q1] at p
   cases o with
   | lst ds=>
    obtain ⟨xs,h1,h2⟩:=rp.ats n _ a q1 h
    exact ⟨_,.inl ⟨xs,.inl (.inl h1),by rw [<- F9 h2]⟩,p μ H (Lat.refl _ _) rp⟩
   | dct kvs=>
    obtain ⟨ks,h1,h2⟩:=rp.ats n _ a q1 h
    refine ⟨_,.inr (.inr ⟨ks,h1,rfl⟩),?_⟩
    have e:kvs.isEmpty=ks.isEmpty:=by cases h2 <;> rfl
    rw [<- e]
    exact p μ H (Lat.refl _ _) rp
   | exc _ _=>exact p.elim
end
section
variable {X:Cx} {cl:Nat->Addr} {xe:Addr->Hp->Prop} {a b e:Expr} {es rest:List Expr} {pos:Pos} {f g:Env->M D}
theorem a85 (h:PE X a (tD X.K cl xe f)) (ht:B0 a=true):PT X a (tBo X.K cl xe λρ=>bind (f ρ) y7):=PT.imp (a9s h (test_of ht)) λσ H Q ⟨μ,S,ρ,eo,rp,p⟩=>
 ⟨μ,S,ρ,eo,rp,p.bind.imp λd S1 μ1 H1 l1 r1 p1 v rv=>R7 rv r1 p1⟩
theorem b9k (h:PE X a (tD X.K cl xe f)):PE X (.UnaryOp .Not a pos) (tD X.K cl xe λρ=>bind (f ρ) λd=>bind (y7 d) λk=>ret (.bl (!k))):=by
 intro pins s σ H Q I ⟨μ,S,ρ,eo,rp,p⟩
 refine UnaryOp_ (thn (h pins s σ H (λv H1=>∃ k,a7q X.K v H1 k/\Q (.bl (!k)) H1) I ⟨μ,S,ρ,eo,rp,p.bind.imp λd S1 μ1 H1 l1 r1 p1 v rv=>let ⟨k,tv,q⟩:=R7 rv r1 p1.bind;⟨k,tv,q μ1 H1 (Lat.refl _ _) r1 _ (.bl _)⟩⟩) λv s1 ⟨x,H1,I1,rx,k,tv,q⟩=>?_)
 exact not_of (thn (a1d pins s1 σ H1 x v (λk' H'=>k'=k/\H'=H1) I1 rx ⟨k,tv,rfl,rfl⟩) λc s2 ⟨H2,I2,e1,e2⟩=>by
  subst e1 e2
  exact ⟨.bl (!c),H2,I2,rfl,q⟩)
theorem a88 {op:BoolOp} (h:PE X a (tD X.K cl xe f)):PE X (.BoolOp op [a] pos) (tD X.K cl xe f):=b7m h
theorem c0a (h:PE X a (tD X.K cl xe f)) (k:PE X (.BoolOp .And (b :: rest) pos) (tD X.K cl xe g)):PE X (.BoolOp .And (a :: b :: rest) pos) (tD X.K cl xe λρ=>bind (f ρ) λd=>bind (y7 d) λq=>if q=true then g ρ else ret d):=by
 intro pins s σ H Q I ⟨μ,S,ρ,eo,rp,p⟩
 refine BoolOp_and (thn (h pins s σ H (λv H1=>∃ c,a7q X.K v H1 c/\if c=true then tD X.K cl xe g σ H1 Q else Q v H1) I ⟨μ,S,ρ,eo,rp,p.bind.imp λd S1 μ1 H1 l1 r1 p1 v rv=>?_⟩) λv s1 ⟨x,H1,I1,rx,c,tv,q⟩=>?_)
 ·obtain ⟨c,tv,q⟩:=R7 rv r1 p1.bind
  refine ⟨c,tv,?_⟩
  cases c with
  | true=>exact ⟨μ1,S1,ρ,eo.later l1,r1,q⟩
  | false=>exact q μ1 H1 (Lat.refl _ _) r1 _ rv
 ·refine thn (a1d pins s1 σ H1 x v (λk' H'=>k'=c/\H'=H1) I1 rx ⟨c,tv,rfl,rfl⟩) λc' s2 ⟨H2,I2,e1,e2⟩=>?_
  subst e1 e2
  cases c' with
  | true=>exact k pins s2 σ H2 Q I2 q
  | false=>exact ⟨x,H2,I2,rx,q⟩
theorem c3n (h:PE X a (tD X.K cl xe f)) (k:PE X (.BoolOp .Or (b :: rest) pos) (tD X.K cl xe g)):PE X (.BoolOp .Or (a :: b :: rest) pos) (tD X.K cl xe λρ=>bind (f ρ) λd=>bind (y7 d) λq=>if q=true then ret d else g ρ):=by
 intro pins s σ H Q I ⟨μ,S,ρ,eo,rp,p⟩
 refine BoolOp_or (thn (h pins s σ H (λv H1=>∃ c,a7q X.K v H1 c/\if c=true then Q v H1 else tD X.K cl xe g σ H1 Q) I ⟨μ,S,ρ,eo,rp,p.bind.imp λd S1 μ1 H1 l1 r1 p1 v rv=>?_⟩) λv s1 ⟨x,H1,I1,rx,c,tv,q⟩=>?_)
 ·obtain ⟨c,tv,q⟩:=R7 rv r1 p1.bind
  refine ⟨c,tv,?_⟩
  cases c with
  | true=>exact q μ1 H1 (Lat.refl _ _) r1 _ rv
  | false=>exact ⟨μ1,S1,ρ,eo.later l1,r1,q⟩
 ·refine thn (a1d pins s1 σ H1 x v (λk' H'=>k'=c/\H'=H1) I1 rx ⟨c,tv,rfl,rfl⟩) λc' s2 ⟨H2,I2,e1,e2⟩=>?_
  subst e1 e2
  cases c' with
  | true=>exact ⟨x,H2,I2,rx,q⟩
  | false=>exact k pins s2 σ H2 Q I2 q
def tPt (K:PySem.W.Frag) (cl:Nat->Addr) (xe:Addr->Hp->Prop) (fp:Env->M (Option Int)):TO:=λσ H Q=>∃ μ S ρ,EnvOk K μ H ρ σ/\Rep K cl μ S H/\Post K cl xe μ H (fp ρ S) λo _ _ H'=>Q o H'
noncomputable def a0q (d:D):M (Option Int):=match d with
 | .int i=>ret (some i)
 | _=>bad
theorem PO.imp {e:Option Expr} {t t':TO} (h:PO X e t) (k:∀ σ H Q,t' σ H Q->t σ H Q):PO X e t':=λpins s σ H Q I q=>h pins s σ H Q I (k σ H Q q)
theorem b58:PO X none (tPt X.K cl xe λ_=>ret none):=PO.imp b3n λσ H Q ⟨μ,S,ρ,eo,rp,p⟩=>p μ H (Lat.refl _ _) rp
theorem b5x (h:PE X e (tD X.K cl xe f)):PO X (some e) (tPt X.K cl xe λρ=>bind (f ρ) a0q):=PO.imp (b3u h) λσ H Q ⟨μ,S,ρ,eo,rp,p⟩=>
 ⟨μ,S,ρ,eo,rp,p.bind.imp λd S1 μ1 H1 l1 r1 p1 v rv=>by
  cases rv with
  | int i=>exact ⟨i,rfl,p1 μ1 H1 (Lat.refl _ _) r1⟩
  | _=>exact False.elim p1⟩
theorem J1 {prog:Program} {w:World} {A:Around} {E:Value->Shared->Prop} {s:Shared} {t sl:Addr} {items:Array Value} {vl vu:Value} {lo hi:Option Int} {Q:Value->Shared->Prop} (ht:IsTup s.heap t items) (hs:s.heap.IsSliceOf sl vl vu .none) (pl:IsPart vl lo) (pu:IsPart vu hi)
  (hw:HT.sIx items.size 0 lo=0/\HT.sIx items.size items.size hi=items.size) (h:Q (.ref t) s):wpAny (model prog w) A (getItem (.ref t) (.ref sl)) Q E s:=by
 obtain ⟨os,hos,hcs,hds⟩:=id hs
 have hTs:s.TypeIs (.ref sl) "slice":=⟨os,hos,hcs⟩
 unfold getItem
 try with_reducible refine wpAny_holding ?_
 first | refine wpAny_bind (wpAny_pure ?_) | skip
 refine wpAny_bind (wpAny_sequenceKey ht.typeIs (by decide) ?_)
 refine wpAny_bind (wpAny_callSpecial?_slot (name:=Str.ofString "__getitem__") ht.typeIs PyProof.Rows.slot_tuple_getitem
  (wpAny_call_entry PyProof.Rows.slot_tuple_getitem ht.typeIs entry_tuple_getitem ?_ (args_tuple_getitem _ _)))
 show wpAny _ _ (Builtin.Tuple.tupleItemsOf (.ref t) >>= _) _ _ s
 refine wpAny_bind (tupleItemsOf_ ht ?_)
 refine wpAny_bind (wpAny_typeOf hTs ?_)
 rw [if_pos (by decide)]
 refine wpAny_bind (HT.sliceApplied_gen hs pl pu ?_)
 have hyes:(((HT.sIx items.size 0 lo:Nat):Int)==0&&(1:Int)==1&&(HT.sIx items.size items.size hi-HT.sIx items.size 0 lo)==items.size)=true:=by
  rw [hw.1,hw.2];simp
 show wpAny _ _ (if (((HT.sIx items.size 0 lo:Nat):Int)==0&&(1:Int)==1&&(HT.sIx items.size items.size hi-HT.sIx items.size 0 lo)==items.size)=true then _ else _) _ _ s
 rw [if_pos hyes]
 refine wpAny_bind (m:=Builtin.Tuple.tupleIsExact (.ref t)) ?_
 unfold Builtin.Tuple.tupleIsExact
 refine wpAny_bind (wpAny_typeOf ht.typeIs (wpAny_pure ?_))
 rw [if_pos (by decide)]
 refine wpAny_bind (wpAny_rule ?_)
 exact wpAny_pure ⟨_,rfl,wpAny_pure h⟩
theorem b5f:SlR X (λx lo hi H Q=>∃ a xs,x=.ref a/\SqT X.K H a xs/\(HT.sIx xs.length 0 lo=0/\HT.sIx xs.length xs.length hi=xs.length)/\Q (.ref a) H):=by
 intro pins s σ H x v vl vu lo hi sl Q I rx hs pl pu h
 obtain ⟨a,xs,rfl,hx,hw,q⟩:=h
 cases rx
 obtain ⟨its,r,ht,hz⟩:=I.tuple hx
 have hlen:its.toArray.size=xs.length:=by rw [List.size_toArray];exact r.length.symm
 exact ⟨"tuple",_,PyProof.Rows.slot_tuple_getitem.lookup,ht.typeIs,J1 ht hs pl pu (by rw [hlen];exact hw) ⟨.ref a,H,I,rfl,q⟩⟩
theorem c5j:SlR X (λx lo hi H Q=>∃ μ S d,RD X.K μ H d x/\Rep X.K cl μ S H/\Post X.K cl xe μ H (slD d lo hi S) λr _ μ' H'=>∀ v,RD X.K μ' H' r v->Q v H'):=by
 intro pins s σ H x v vl vu lo hi sl Q I rx hs pl pu ⟨μ,S,d,rd,rp,p⟩
 have sq:∀ {a:Addr} {xs:List V} {ds:List D},SqL X.K H a xs->RDs X.K μ H ds xs->x=.ref a->(∀ μ' H',Lat μ H μ' H'->Rep X.K cl μ' S H'->∀ w,RD X.K μ' H' (.lst (A7 ds lo hi)) w->Q w H') ->
   ∃ T id,typeLookup (.type T) "__getitem__" = pure (some (.builtin id))/\s.TypeIs v T/\wpAny (model X.prog X.w) X.A (getItem v (.ref sl)) (EP X pins σ Q) X.xe s:=λ{a xs ds} hq r2 hv q=>by
  subst hv
  refine b3m pins s σ H _ v vl vu lo hi sl Q I rx hs pl pu ⟨a,xs,rfl,hq,λz hz=>?_⟩
  obtain ⟨l,rp2,rd2⟩:=v9 rp (b20 r2 lo hi) hz
  exact q μ _ l rp2 _ rd2
 cases rd with
 | tup h r=>
  rename_i a xs ds
  by_cases hw:HT.sIx xs.length 0 lo=0/\HT.sIx xs.length xs.length hi=xs.length
  ·refine b5f pins s σ H _ v vl vu lo hi sl Q I rx hs pl pu ⟨a,xs,rfl,h.sq,hw,?_⟩
   have e:A7 ds lo hi=ds:=by
    unfold A7
    rw [r.length,hw.1,hw.2,List.drop_zero,Nat.sub_zero]
    exact List.take_of_length_le (by rw [r.length];exact Nat.le_refl _)
   exact p μ H (Lat.refl _ _) rp _ (by rw [e];exact .tup h r)
  ·refine b9c pins s σ H _ v vl vu lo hi sl Q I rx hs pl pu ⟨a,xs,rfl,h.sq,hw,λz hz=>?_⟩
   obtain ⟨l,rp2,rd2⟩:=y3 rp (b20 r lo hi) hz
   exact p μ _ l rp2 _ rd2
 | lst h r=>exact sq h.sq r rfl p
 | scr h r=>exact sq h.sq r rfl p
 | ref h=>
  rename_i n a0
  have p2:Post X.K cl xe μ H (bind (lstOf (.ref n)) (λds=>ret (D.lst (A7 ds lo hi))) S) (λr _ μ' H'=>∀ v,RD X.K μ' H' r v->Q v H'):=p
  obtain ⟨a,xs,ds,e1,h1,h2,e2⟩:=s0 (.ref h) rp p2.bind
  exact sq (.inl (.inl h1)) h2 e1 (p2.ok_bind e2)
 | _=>exact False.elim p
theorem c4u {lo hi:Option Expr} {p2:Pos} {fl fh:Env->M (Option Int)} (h:PE X e (tD X.K cl xe f)) (hl:PO X lo (tPt X.K cl xe fl)) (hh:PO X hi (tPt X.K cl xe fh)) :
  PE X (.Subscript e (.Slice lo hi none p2) pos) (tD X.K cl xe λρ=>bind (f ρ) λd=>bind (fl ρ) λl=>bind (fh ρ) λu=>slD d l u):=PE.imp (b2x c5j h hl hh) λσ H Q ⟨μ,S,ρ,eo,rp,p⟩=>
 ⟨μ,S,ρ,eo,rp,p.bind.imp λd S1 μ1 H1 l1 r1 p1 v rv=>⟨μ1,S1,ρ,eo.later l1,r1,p1.bind.imp λl S2 μ2 H2 l2 r2 p2=>⟨μ2,S2,ρ,(eo.later l1).later l2,r2,p2.bind.imp λu S3 μ3 H3 l3 r3 p3=>⟨μ3,S3,d,(rv.later l2).later l3,r3,p3⟩⟩⟩⟩
end
noncomputable def v3 (x k v:D):M D:=match x with
 | .ref n=>λS=>match S[n]? with
  | some (.lst ds)=>match k with
   | .int i=>match ixN ds.length i with
    | some j=>.ok .non (S.set n (.lst (ds.set j v)))
    | none=>.bad
   | _=>.bad
  | some (.dct kvs)=>match X8 k with
   | some key=>if kvs.length<sizeLine then .ok .non (S.set n (.dct (c01 kvs key v))) else .bad
   | none=>.bad
  | _=>.bad
 | _=>bad
theorem a5h {K:PySem.W.Frag} {μ:Mp} {H:Hp} {k:Key}:∀ {kvs:List (Key×D)} {ks:List (Key×V)},KvsAt K μ H kvs ks->(kvs.any λkv=>decide (kv.1=k))=ks.any λkv=>decide (kv.1=k)
 | _,_,.nil=>rfl
 | _,_,.cons ⟨h1,h2⟩ t=>by simp only [List.any_cons,h1,a5h (k:=k) t]
theorem a5u {K:PySem.W.Frag} {μ:Mp} {H:Hp} {k:Key} {d:D} {v:V} (r:RD K μ H d v):∀ {kvs:List (Key×D)} {ks:List (Key×V)},KvsAt K μ H kvs ks->KvsAt K μ H (kvs.map λkv=>if kv.1=k then (kv.1,d) else kv) (ks.map λkv=>if kv.1=k then (kv.1,v) else kv)
 | _,_,.nil=>.nil
 | _,_,.cons (a:=a) (b:=b) ⟨h1,h2⟩ t=>by
  simp only [List.map_cons]
  refine .cons ?_ (a5u r t)
  by_cases hk:b.1=k
  ·rw [if_pos hk,if_pos (h1.trans hk)];exact ⟨h1,r⟩
  ·rw [if_neg hk,if_neg (by rw [h1];exact hk)];exact ⟨h1,h2⟩
theorem Paired.app {α β:Type} {P:α->β->Prop}:∀ {xs xs':List α} {ys ys':List β},Paired P xs ys->Paired P xs' ys'->Paired P (xs++xs') (ys++ys')
 | _,_,_,_,.nil,s=>s
 | _,_,_,_,.cons r t,s=>.cons r (Paired.app t s)
theorem b3w {K:PySem.W.Frag} {μ:Mp} {H:Hp} {k:Key} {d:D} {v:V} {kvs:List (Key×D)} {ks:List (Key×V)} (h:KvsAt K μ H kvs ks) (r:RD K μ H d v):KvsAt K μ H (c01 kvs k d) (y9 ks k v):=by
 unfold c01 y9
 rw [a5h h]
 split
 ·exact a5u r h
 ·exact Paired.app h (.cons ⟨rfl,r⟩ .nil)
theorem KvsAt.later {K:PySem.W.Frag} {μ μ':Mp} {H H':Hp} {kvs:List (Key×D)} {ks:List (Key×V)} (h:KvsAt K μ H kvs ks) (l:Lat μ H μ' H'):KvsAt K μ' H' kvs ks:=Paired.mono (λ_ _ ⟨z,w⟩=>⟨z,w.later l⟩) h
section
variable {X:Cx} {cl:Nat->Addr} {xe:Addr->Hp->Prop} {a b e:Expr} {es rest:List Expr} {pos:Pos} {f g k:Env->M D}
theorem c3r (hu:X.A.units+1<cLine):b8l X (λo i v H Q=>∃ μ S x y z,RD X.K μ H x o/\RD X.K μ H y i/\RD X.K μ H z v/\Rep X.K cl μ S H/\Post X.K cl xe μ H (v3 x y z S) λ_ _ _ H'=>Q H'):=by
 intro pins s σ H o i v ov iv u Q I ro ri rv ⟨μ,S,x,y,z,rx,ry,rz,rp,p⟩
 cases rx with
 | ref h=>
  rename_i n a
  have m:a∈μ.pl:=List.mem_of_getElem? h
  simp only [v3] at p
  cases q1:S[n]? with
  | none=>rw [q1] at p;exact p.elim
  | some ob=>
   rw [q1] at p
   cases ob with
   | lst ds=>
    obtain ⟨xs,h1,h2⟩:=rp.ats n _ a q1 h
    cases ry with
    | int j=>
     simp only at p
     cases q2:ixN ds.length j with
     | none=>rw [q2] at p;exact p.elim
     | some t=>
      rw [q2] at p
      refine b1y pins s σ H _ _ v ov iv u Q I ro ri rv ⟨a,xs,j,t,rfl,rfl,h1,by rw [<- h2.length];exact q2,?_⟩
      exact p μ _ (Lat.wrote m) (rp.wrote h ⟨_,b8,(h2.set rz t).later (Lat.wrote m)⟩)
    | _=>exact False.elim p
   | dct kvs=>
    obtain ⟨ks,h1,h2⟩:=rp.ats n _ a q1 h
    simp only at p
    cases q2:X8 y with
    | none=>rw [q2] at p;exact p.elim
    | some key=>
     rw [q2] at p
     by_cases hl:kvs.length<sizeLine
     ·simp only [if_pos hl] at p
      have hy:=a12 ry q2
      subst hy
      cases ro
      have hl2:ks.length<sizeLine:=by rw [<- Paired.length h2];exact hl
      refine a70 hu I (DPut.k h1 hl2) ri rv λs' I'=>⟨_,I',?_⟩
      exact p μ _ (Lat.wrote m) (rp.wrote h ⟨_,b8,(b3w h2 rz).later (Lat.wrote m)⟩)
     ·simp only [if_neg hl] at p;exact p.elim
   | exc _ _=>exact p.elim
 | _=>exact False.elim p
theorem a7k {a b:Expr} {p2:Pos} {env:PySem.Env} (h:C3 b=true):∀ v,assign (.Subscript a b p2) env v=(do
   let ov <- holding [v] (eval a env)
   let iv <- holding [v,ov] (eval b env)
   standAt p2
   holding [v,ov,iv] (setItem ov iv v)
   release [v,ov,iv] []):=by
 intro v
 cases b <;> first | rfl | (exact absurd h (by simp [C3]))
theorem b0a {p2:Pos} (hu:X.A.units+1<cLine) (he:PE X e (tD X.K cl xe f)) (ho:PE X a (tD X.K cl xe g)) (hi:PE X b (tD X.K cl xe k)) (hn:k9 e=true) (hb:C3 b=true) :
  PS X (.Assign [.Subscript a b p2] e pos) (sD X.K cl xe λρ=>bind (f ρ) λv=>bind (g ρ) λx=>bind (k ρ) λy=>bind (v3 x y v) λ_=>ret (.nx ρ)):=
 PS.imp (a4q he (b94 ho hi (c3r (cl:=cl) (xe:=xe) hu) (a7k hb)) (by unfold swapsWithSole;exact u8 hn) rfl rfl) λD σ H ⟨μ,S,ρ,eo,rp,p⟩=>
  ⟨μ,S,ρ,eo,rp,p.bind.imp λv S1 μ1 H1 l1 r1 p1 vv rv=>⟨μ1,S1,ρ,eo.later l1,r1,p1.bind.imp λx S2 μ2 H2 l2 r2 p2 xv rx=>⟨μ2,S2,ρ,(eo.later l1).later l2,r2,p2.bind.imp λy S3 μ3 H3 l3 r3 p3 yv ry=>
   ⟨μ3,S3,x,y,v,rx.later l3,ry,(rv.later l2).later l3,r3,p3.bind.imp λ_ S4 μ4 H4 l4 r4 p4=>p4.ret μ4 H4 (Lat.refl _ _) r4 σ ((((eo.later l1).later l2).later l3).later l4)⟩⟩⟩⟩
noncomputable def Q6 (x:D) (ds:List D):M D:=match x,ds with
 | .ref n,[d]=>λS=>match S[n]? with
  | some (.lst es)=>if es.length<sizeLine then .ok .non (S.set n (.lst (es++[d]))) else .bad
  | _=>.bad
 | _,_=>bad
noncomputable def C2 (es:List Expr):Bool:=decide (es.length<30)
theorem b2i {es:List Expr} {cpos:Pos} (h1:es.all noStar=true) (h2:C2 es=true):((backTo cpos (starEach es X.env)).all (λx=>!x.1)&&(backToKw cpos (keywordEach [] X.env)).all (λx=>x.1.isSome)&&decide (es.length+([]:List Keyword).length+(if ([]:List Keyword).isEmpty then 0 else 1)<30))=true:=by
 rw [V2 h1]
 unfold C2 at h2
 simpa [keywordEach,backToKw] using of_decide_eq_true h2
theorem Z1 {fs:Env->M (List D)} {apos cpos:Pos} (ho:PE X a (tD X.K cl xe f)) (ha:PA X (e :: es) (tDs X.K cl xe fs)) (hb:y4 a=true) (hs:(e :: es).all noStar=true) (hf:C2 (e :: es)=true) (hl:(apos.endLine==cpos.line)=true) :
  PE X (.Call (.Attribute a "append" apos) (e :: es) [] cpos) (tD X.K cl xe λρ=>bind (f ρ) λx=>bind (lstOf x) λ_=>bind (fs ρ) λds=>Q6 x ds):=by
 have hs2:=hs
 rw [List.all_cons,Bool.and_eq_true] at hs2
 refine PE.imp (b6u PySem.F.plainAttrs_list PySem.F.slot_list_append PySem.F.type_list_append A8 ho ha (L8 hb) (b2i hs hf) hl (d8 hs2.1) (k8 hs2.2)) λσ H Q ⟨μ,S,ρ,eo,rp,p⟩=>?_
 refine ⟨μ,S,ρ,eo,rp,p.bind.imp λx S1 μ1 H1 l1 r1 p1 xv rx=>?_⟩
 obtain ⟨a0,xs0,ds0,e0,h0,r0,q0⟩:=s0 rx r1 p1.bind
 have p1:=p1.ok_bind q0
 subst e0
 refine ⟨.inl ⟨rfl,_,.inl (.inl h0)⟩,μ1,S1,ρ,eo.later l1,r1,p1.bind.imp λds S2 μ2 H2 l2 r2 p2 vs rvs=>?_⟩
 have rx2:=rx.later l2
 clear p1
 cases rx2 with
 | ref h=>
  rename_i n
  match ds,rvs with
  | [],_=>exact False.elim p2
  | _ :: _ :: _,_=>exact False.elim p2
  | [d],rvs=>
   obtain ⟨v,rfl,rv⟩:=b1b rvs
   simp only [Q6] at p2
   cases q1:S2[n]? with
   | none=>rw [q1] at p2;exact p2.elim
   | some o=>
    rw [q1] at p2
    cases o with
    | lst es=>
     obtain ⟨xs,h1,h2⟩:=r2.ats n _ _ q1 h
     by_cases hl:es.length<sizeLine
     ·simp only [if_pos hl] at p2
      have m:=List.mem_of_getElem? h
      refine ⟨_,xs,v,rfl,rfl,h1,by rw [<- h2.length];exact hl,?_⟩
      exact p2 μ2 _ (Lat.wrote m) (r2.wrote h ⟨_,b8,(h2.append (.cons rv .nil)).later (Lat.wrote m)⟩) _ .non
     ·simp only [if_neg hl] at p2;exact p2.elim
    | dct _=>exact p2.elim
    | exc _ _=>exact p2.elim
 | _=>exact False.elim p2
end
section
variable {K:PySem.W.Frag} {cl:Nat->Addr} {xe:Addr->Hp->Prop} {μ:Mp} {H:Hp} {S:Sto} {β:Type}
theorem bind_assoc {α γ:Type} (m:M α) (k:α->M β) (j:β->M γ):bind (bind m k) j=bind m λa=>bind (k a) j:=by
 funext S
 unfold bind
 cases m S <;> rfl
theorem f6 {α:Type} (a:α) (k:α->M β):bind (ret a) k=k a:=rfl
end
noncomputable def K6 (S:Sto) (d:D):Bool:=match i9 64 S d with
 | some p=>decide (Shows p)&&decide (p.shown.length<=4000)&&(match d with
  | .str x=>decide (x.length<=4000)
  | _=>true)
 | none=>false
noncomputable def Q7 (c:Nat) (fs:List Str) (ds:List D):M D:=λS=>if ds.length=fs.length/\ds.all (K6 S)=true then .ok (.ref S.length) (S++[.exc c (fs.zip ds)]) else .bad
noncomputable def a9w (c:Nat) (ds:List D):M D:=λS=>match ds with
 | [_]=>.ok (.ref S.length) (S++[.exc c []])
 | _=>.bad
theorem a44 {K:PySem.W.Frag} {cl:Nat->Addr} {μ:Mp} {H:Hp} {S:Sto} {d:D} {v:V} (rp:Rep K cl μ S H) (r:RD K μ H d v) (h:K6 S d=true):∃ p,Hn.Fmt K H v p:=by
 unfold K6 at h
 cases e:i9 64 S d with
 | none=>rw [e] at h;cases h
 | some p=>
  rw [e] at h
  simp only [Bool.and_eq_true,decide_eq_true_eq] at h
  refine ⟨p,u4 rp 64 e r,h.1.1,h.1.2,λx ex=>?_⟩
  subst ex
  cases r with
  | str _=>exact of_decide_eq_true h.2
def c15 (K:PySem.W.Frag) (H:Hp) (v:V):Prop:=∃ x C d,v=.ref x/\XC K C/\H x=some (J0 x C d)
def tDf (K:PySem.W.Frag) (cl:Nat->Addr) (xe:Addr->Hp->Prop) (f:Env->M D):TE:=λσ H Q=>∃ μ S ρ,EnvOk K μ H ρ σ/\Rep K cl μ S H/\Post K cl xe μ H (f ρ S) λd _ μ' H'=>∀ v,RD K μ' H' d v->c15 K H' v->Q v H'
theorem PE.unf {X:Cx} {cl:Nat->Addr} {xe:Addr->Hp->Prop} {e:Expr} {f:Env->M D} (h:PE X e (tDf X.K cl xe f)):PE X e (tD X.K cl xe f):=PE.imp h λσ H Q ⟨μ,S,ρ,eo,rp,P⟩=>⟨μ,S,ρ,eo,rp,P.imp λd S1 μ1 H1 l1 r1 p1 v rv _=>p1 v rv⟩
section
variable {X:Cx} {cl:Nat->Addr} {xe:Addr->Hp->Prop} {e:Expr} {es:List Expr} {pos:Pos} {fs:Env->M (List D)}
theorem a6n {K:PySem.W.Frag} {μ:Mp} {H H':Hp} {S:Sto} {c:Nat} {x:Addr} {gs:List (Str×V)} {ds:List (Str×D)} (rp:Rep K cl μ S H) (hx:H x=none) (M:XC K (cl c)) (g:Hn.Got (upd H x (J0 x (cl c) none)) x (cl c) gs H') (r:∀ {μ':Mp} {H':Hp},Lat μ H μ' H'->b2e K μ' H' ds gs) :
  Lat μ H (μ.push x) H'/\Rep K cl (μ.push x) (S++[.exc c ds]) H'/\RD K (μ.push x) H' (.ref S.length) (.ref x):=by
 obtain ⟨d,hd,ne,h1,h2,h3⟩:=g
 rw [a8 ne] at hd
 have k:∀ a u,H a=some u->H' a=some u:=λa u e=>by
  have n1:=b6 e hx
  have n2:=b6 e hd
  rw [h3 a n1 n2,a8 n1];exact e
 have l:=Lat.pushed (μ:=μ) hx k
 refine ⟨l,rp.pushed hx k ⟨M,gs,r l,none,.inr ⟨d,ne,λz=>?_,h1,h2⟩⟩,.ref ?_⟩
 ·rcases List.mem_append.mp (show d∈μ.pl++[x] from z) with z | z
  ·exact rp.notin hd z
  ·exact ne (List.mem_singleton.mp z)
 ·show (μ.pl++[x])[S.length]?=some x
  rw [<- rp.len];simp
theorem a83 {k:Nat} {f:Addr} {fd:FuncData} {ps:List Str} {E:XK} {CX:CXT} {nm g:Str} {p:Pos} {c:Nat} (M:XC X.K (cl c)) (na:t7 X.K (cl c) g) (hi:PySem.W.findIn X.K (.ref (cl c)) "__init__" = some (some (.ref f))) (hf:PySem.W.isFn X.K (.ref f)=true) (F:FnOk X.prog X.w X.K X.mg X.base CX k f fd ps (Hn.sp1 X.K g)) (hr:Room CX.q (k+1) X.A) (hg:Gl X nm) (hm:X.mg nm=some (.ref (cl c))) (hb:Binds X.K fd ps []) (hx:A0 CX X E)
  (ha:PA X (e :: es) (tDs X.K cl xe fs)) (hdb:(nm==("__debug__" : Str))=false) (hs:(e :: es).all noStar=true):PE X (.Call (.Name nm p) (e :: es) [] pos) (tDf X.K cl xe λρ=>bind (fs ρ) (Q7 c [g])):=by
 rw [List.all_cons,Bool.and_eq_true] at hs
 refine PE.imp (T5 M hi hf F hr hg hm hb hx ha hdb (d8 hs.1) (k8 hs.2)) λσ H Q ⟨μ,S,ρ,eo,rp,P⟩=>?_
 refine ⟨μ,S,ρ,eo,rp,P.bind.imp λds S1 μ1 H1 l1 r1 p1 vs rvs=>?_⟩
 unfold Q7 at p1
 by_cases hc:ds.length=[g].length/\ds.all (K6 S1)=true
 ·rw [if_pos hc] at p1
  match ds,hc,rvs,p1 with
  | [d],hc,rvs,p1=>
   obtain ⟨v,rfl,rv⟩:=b1b rvs
   obtain ⟨q,ft⟩:=a44 r1 rv (by simpa using hc.2)
   refine ⟨by show 1<=1000;decide,λx hx=>⟨x,v,cl c,q,rfl,M,na,b8,ft.laid hx,λH' got=>⟨rfl,?_⟩⟩⟩
   obtain ⟨l2,r2,rd2⟩:=a6n (c:=c) (ds:=[(g,d)]) r1 hx M got λl=>.cons ⟨rfl,rv.later l⟩ .nil
   obtain ⟨d0,_,_,g1,_⟩:=id got
   exact p1 _ _ l2 r2 _ rd2 ⟨x,cl c,_,rfl,M,g1⟩
  | [],hc,_,_=>exact absurd hc.1 (by simp)
  | _ :: _ :: _,hc,_,_=>exact absurd hc.1 (by simp)
 ·rw [if_neg hc] at p1;exact p1.elim
theorem a8z {k:Nat} {f:Addr} {fd:FuncData} {ps:List Str} {E:XK} {CX:CXT} {nm g g2:Str} {p:Pos} {c:Nat} (M:XC X.K (cl c)) (na:t7 X.K (cl c) g) (nb:t7 X.K (cl c) g2) (hi:PySem.W.findIn X.K (.ref (cl c)) "__init__" = some (some (.ref f))) (hf:PySem.W.isFn X.K (.ref f)=true) (F:FnOk X.prog X.w X.K X.mg X.base CX k f fd ps (Hn.sp2 X.K g g2)) (hr:Room CX.q (k+1) X.A) (hg:Gl X nm) (hm:X.mg nm=some (.ref (cl c))) (hb:Binds X.K fd ps []) (hx:A0 CX X E)
  (ha:PA X (e :: es) (tDs X.K cl xe fs)) (hdb:(nm==("__debug__" : Str))=false) (hs:(e :: es).all noStar=true):PE X (.Call (.Name nm p) (e :: es) [] pos) (tDf X.K cl xe λρ=>bind (fs ρ) (Q7 c [g,g2])):=by
 rw [List.all_cons,Bool.and_eq_true] at hs
 refine PE.imp (T5 M hi hf F hr hg hm hb hx ha hdb (d8 hs.1) (k8 hs.2)) λσ H Q ⟨μ,S,ρ,eo,rp,P⟩=>?_
 refine ⟨μ,S,ρ,eo,rp,P.bind.imp λds S1 μ1 H1 l1 r1 p1 vs rvs=>?_⟩
 unfold Q7 at p1
 by_cases hc:ds.length=[g,g2].length/\ds.all (K6 S1)=true
 ·rw [if_pos hc] at p1
  match ds,hc,rvs,p1 with
  | [d,d2],hc,rvs,p1=>
   cases rvs with
   | cons rv t=>
    obtain ⟨v2,rfl,rv2⟩:=b1b t
    rename_i v
    have hc2:K6 S1 d=true/\K6 S1 d2=true:=by simpa using hc.2
    obtain ⟨q,ft⟩:=a44 r1 rv hc2.1
    obtain ⟨q2,ft2⟩:=a44 r1 rv2 hc2.2
    refine ⟨by show 2<=1000;decide,λx hx=>⟨x,v,v2,cl c,q,q2,rfl,M,na,nb,b8,ft.laid hx,ft2.laid hx,λH' got=>⟨rfl,?_⟩⟩⟩
    obtain ⟨l2,r2,rd2⟩:=a6n (c:=c) (ds:=[(g,d),(g2,d2)]) r1 hx M got λl=>.cons ⟨rfl,rv.later l⟩ (.cons ⟨rfl,rv2.later l⟩ .nil)
    obtain ⟨d0,_,_,g1,_⟩:=id got
    exact p1 _ _ l2 r2 _ rd2 ⟨x,cl c,_,rfl,M,g1⟩
  | [],hc,_,_=>exact absurd hc.1 (by simp)
  | [_],hc,_,_=>exact absurd hc.1 (by simp)
  | _ :: _ :: _ :: _,hc,_,_=>exact absurd hc.1 (by simp)
 ·rw [if_neg hc] at p1;exact p1.elim
theorem b2f {k:Nat} {f:Addr} {fd:FuncData} {ps:List Str} {E:XK} {CX:CXT} {nm:Str} {p:Pos} {c:Nat} (M:XC X.K (cl c)) (hi:PySem.W.findIn X.K (.ref (cl c)) "__init__" = some (some (.ref f))) (hf:PySem.W.isFn X.K (.ref f)=true) (F:FnOk X.prog X.w X.K X.mg X.base CX k f fd ps (Hn.spHE X.K)) (hr:Room CX.q (k+1) X.A) (hg:Gl X nm) (hm:X.mg nm=some (.ref (cl c))) (hb:Binds X.K fd ps []) (hx:A0 CX X E)
  (ha:PA X (e :: es) (tDs X.K cl xe fs)) (hdb:(nm==("__debug__" : Str))=false) (hs:(e :: es).all noStar=true):PE X (.Call (.Name nm p) (e :: es) [] pos) (tDf X.K cl xe λρ=>bind (fs ρ) (a9w c)):=by
 rw [List.all_cons,Bool.and_eq_true] at hs
 refine PE.imp (T5 M hi hf F hr hg hm hb hx ha hdb (d8 hs.1) (k8 hs.2)) λσ H Q ⟨μ,S,ρ,eo,rp,P⟩=>?_
 refine ⟨μ,S,ρ,eo,rp,P.bind.imp λds S1 μ1 H1 l1 r1 p1 vs rvs=>?_⟩
 match ds,rvs,p1 with
 | [d],rvs,p1=>
  obtain ⟨v,rfl,rv⟩:=b1b rvs
  refine ⟨by show 1<=1000;decide,λx hx=>⟨x,v,cl c,none,rfl,M,b8,rfl,?_⟩⟩
  have k:∀ a u,H1 a=some u->upd H1 x (J0 x (cl c) none) a=some u:=λa u e=>by rw [a8 (b6 e hx)];exact e
  have l:=Lat.pushed (μ:=μ1) hx k
  refine p1 _ _ l (r1.pushed hx k ⟨M,[],.nil,none,.inl ⟨rfl,b8⟩⟩) _ (.ref ?_) ⟨x,cl c,_,rfl,M,b8⟩
  show (μ1.pl++[x])[S1.length]?=some x
  rw [<- r1.len];simp
 | [],_,p1=>exact p1.elim
 | _ :: _ :: _,_,p1=>exact p1.elim
end
noncomputable def tys:List String:=["NoneType","bool","int","str","tuple","list","dict"]
noncomputable def subT (t T:String):Bool:=t==T||(t == "bool" && T == "int")
theorem b5z (K:PySem.W.Frag):∀ t∈tys,∀ T∈tys,PySem.W.kitOne K (.type t) (.type T)=some (subT t T):=by
 intro t ht T hT
 simp only [tys,List.mem_cons,List.not_mem_nil,or_false] at ht hT
 rcases ht with rfl | rfl | rfl | rfl | rfl | rfl | rfl <;> rcases hT with rfl | rfl | rfl | rfl | rfl | rfl | rfl <;> kernel_rfl
noncomputable def tyD (S:Sto) (d:D):Option String:=match d with
 | .non=>some "NoneType"
 | .bl _=>some "bool"
 | .int _=>some "int"
 | .str _=>some "str"
 | .tup _=>some "tuple"
 | .lst _=>some "list"
 | .scr _=>some "list"
 | .ref n=>match S[n]? with
  | some (.lst _)=>some "list"
  | some (.dct _)=>some "dict"
  | _=>none
noncomputable def a1p (T:String) (sx:Nat->Bool) (d:D):M D:=λS=>match tyD S d with
 | some t=>.ok (.bl (subT t T)) S
 | none=>match d with
  | .ref n=>match S[n]? with
   | some (.exc c _)=>.ok (.bl (sx c)) S
   | _=>.bad
  | _=>.bad
noncomputable def a8e (sx:Nat->Bool) (d:D):M D:=λS=>match d with
 | .ref n=>match S[n]? with
  | some (.exc c _)=>.ok (.bl (sx c)) S
  | _=>.bad
 | _=>.bad
section
variable {X:Cx} {cl:Nat->Addr} {xe:Addr->Hp->Prop} {a:Expr} {pos p q:Pos} {f:Env->M D}
theorem b3r {T:V} {c0:Value} {sx:Nat->Bool} (hc:c13 T=some c0) (hk:∀ c,XC X.K (cl c)->PySem.W.kitOne X.K (.ref (cl c)) c0=some (sx c)) {pins:List (Addr×Obj)} {s:Shared} {σ:L2.St} {H:Hp} {us:List Value} {Q:VK} {μ:Mp} {S:Sto} {n:Nat} {b:Addr} {c:Nat} {fs:List (Str×D)} (I:L2.Inv X pins σ H s) (r:Vals [.ref b,T] us)
  (rp:Rep X.K cl μ S H) (e:S[n]?=some (.exc c fs)) (h:μ.pl[n]?=some b) (q:Q (.bl (sx c)) H):wpAny (model X.prog X.w) X.A (call (.builtin "isinstance") us) (EP X pins σ Q) X.xe s:=by
 obtain ⟨xc,gs,r2,fr,h2⟩:=rp.ats n _ b e h
 rcases h2 with ⟨z,e2⟩ | ⟨d,n1,n2,e2,e3⟩
 ·exact X9 pins s σ H _ us Q I r ⟨fr,b,cl c,none,T,c0,sx c,rfl,xc,e2,λ_ z=>(nomatch z),hc,hk c xc,q⟩
 ·exact X9 pins s σ H _ us Q I r ⟨fr,b,cl c,some d,T,c0,sx c,rfl,xc,e2,λd' z=>by cases z;exact ⟨gs,e3⟩,hc,hk c xc,q⟩
theorem a7g {T:String} (hT:T∈tys) {pins:List (Addr×Obj)} {s:Shared} {σ:L2.St} {H:Hp} {us:List Value} {Q:VK} {μ:Mp} {S:Sto} {d:D} {v:V} {t:String} (I:L2.Inv X pins σ H s) (r:Vals [v,.ty T] us) (rd:RD X.K μ H d v) (rp:Rep X.K cl μ S H) (e:tyD S d=some t)
  (q:Q (.bl (subT t T)) H):wpAny (model X.prog X.w) X.A (call (.builtin "isinstance") us) (EP X pins σ Q) X.xe s:=by
 obtain ⟨u,u2,rfl,ru,ru2⟩:=b2h r
 cases (show u2=Value.type T from ru2)
 have ht:t∈tys:=by
  cases d <;> simp only [tyD] at e <;> first
   | (cases e;decide)
   | (split at e <;> first | (cases e;decide) | cases e)
 have hk:=b5z X.K t ht T hT
 have fin:∀ tk,EP X pins σ Q (.bool (subT t T)) { s with toks:=tk }:=λtk=>⟨.bl _,H,I.tok _,rfl,q⟩
 have tupT:∀ {b:Addr} {xs:List V},SqT X.K H b xs->u=.ref b->t = "tuple"->wpAny (model X.prog X.w) X.A (call (.builtin "isinstance") [u,.type T]) (EP X pins σ Q) X.xe s:=λ{b xs} h eu et=>by
  subst eu et
  obtain ⟨its,_,⟨o,h1,h2,_⟩,_⟩:=I.tuple h
  exact PySem.W.kia_one PySem.W.kitx_tuple I.kIn ⟨o,h1,h2⟩ hk (λz=>nomatch z) fin
 have lstT:∀ {b:Addr} {xs:List V},SqL X.K H b xs->u=.ref b->t = "list"->wpAny (model X.prog X.w) X.A (call (.builtin "isinstance") [u,.type T]) (EP X pins σ Q) X.xe s:=λ{b xs} h eu et=>by
  subst eu et
  obtain ⟨its,_,⟨o,n,h1,h2,_⟩,_⟩:=I.list h
  exact PySem.W.kia_one PySem.W.kitx_list I.kIn ⟨o,h1,h2⟩ hk (λz=>nomatch z) fin
 cases rd with
 | non=>cases (show u=Value.none from ru);cases e;exact PySem.W.kia_one PySem.W.kitx_none I.kIn True.intro hk (λz=>nomatch z) fin
 | bl b=>cases (show u=Value.bool b from ru);cases e;exact PySem.W.kia_one PySem.W.kitx_bool I.kIn True.intro hk (λz=>nomatch z) fin
 | int i=>obtain ⟨tk,q⟩:=(show ∃ t,u=Value.int i t from ru);cases q;cases e;exact PySem.W.kia_one PySem.W.kitx_int I.kIn True.intro hk (λz=>nomatch z) fin
 | str x=>obtain ⟨tk,q⟩:=(show ∃ t,u=Value.str x t from ru);cases q;cases e;exact PySem.W.kia_one PySem.W.kitx_str I.kIn True.intro hk (λz=>nomatch z) fin
 | tup h r=>cases e;exact tupT h.sq ru rfl
 | lst h r=>cases e;exact lstT h.sq ru rfl
 | scr h r=>cases e;exact lstT h.sq ru rfl
 | ref h=>
  rename_i n b
  simp only [tyD] at e
  cases q1:S[n]? with
  | none=>rw [q1] at e;cases e
  | some o=>
   rw [q1] at e
   cases o with
   | lst ds=>
    cases e
    obtain ⟨xs,h1,h2⟩:=rp.ats n _ b q1 h
    exact lstT (.inl (.inl h1)) ru rfl
   | dct kvs=>
    cases e
    obtain ⟨ks,h1,h2⟩:=rp.ats n _ b q1 h
    cases (show u=Value.ref b from ru)
    obtain ⟨_,_,vs,_,pp⟩:=(show ObjOk X.prog X.w H s.heap b (.dK ks) from I.hok b _ h1)
    obtain ⟨o,es,ep,g1,g2,_⟩:=pp
    exact PySem.W.kia_one PySem.W.kitx_dict I.kIn ⟨o,g1,g2.1⟩ hk (λz=>nomatch z) fin
   | exc _ _=>cases e
theorem a6r {x:Str} {T:String} {sx:Nat->Bool} (hT:T∈tys\/T = "ValueError") (hk:∀ c,XC X.K (cl c)->PySem.W.kitOne X.K (.ref (cl c)) (.type T)=some (sx c)) (h:PE X a (tD X.K cl xe f)) (hg:Gl X "isinstance") (hm:X.mg "isinstance" = none) (hg2:Gl X x) (hm2:X.mg x=none) (hv:bootBuiltins x=some (.type T)) (hn:x ≠ "__name__") (hd:(x==("__debug__" : Str))=false) (hs:noStar a=true) :
  PE X (.Call (.Name "isinstance" p) [a,.Name x q] [] pos) (tD X.K cl xe λρ=>bind (f ρ) λd=>if T∈tys then a1p T sx d else a8e sx d):=by
 have key:j9 X (.builtin "isinstance") (λvs H Q=>∃ μ S d v,vs=[v,.ty T]/\RD X.K μ H d v/\Rep X.K cl μ S H/\Post X.K cl xe μ H ((if T∈tys then a1p T sx d else a8e sx d) S) λr _ μ' H'=>∀ v,RD X.K μ' H' r v->Q v H'):=by
  intro pins s σ H xs us Q I r ⟨μ,S,d,v,ev,rd,rp,P⟩
  subst ev
  have ex:∀ {n:Nat} {b:Addr} {c:Nat} {fs:List (Str×D)},v=.ref b->S[n]?=some (.exc c fs)->μ.pl[n]?=some b->Q (.bl (sx c)) H->wpAny (model X.prog X.w) X.A (call (.builtin "isinstance") us) (EP X pins σ Q) X.xe s:=λ{n b c fs} ev e h q=>by
   subst ev
   exact b3r (T:=.ty T) (c0:=.type T) rfl hk I r rp e h q
  by_cases ht:T∈tys
  ·rw [if_pos ht] at P
   unfold a1p at P
   cases e:tyD S d with
   | some t=>rw [e] at P;exact a7g ht I r rd rp e (P μ H (Lat.refl _ _) rp _ (.bl _))
   | none=>
    rw [e] at P
    cases rd with
    | ref h=>
     rename_i n b
     simp only at P
     cases q1:S[n]? with
     | none=>rw [q1] at P;exact P.elim
     | some o=>
      rw [q1] at P
      cases o with
      | exc c fs=>exact ex rfl q1 h (P μ H (Lat.refl _ _) rp _ (.bl _))
      | lst _=>exact P.elim
      | dct _=>exact P.elim
    | _=>exact False.elim P
  ·rw [if_neg ht] at P
   unfold a8e at P
   cases rd with
   | ref h=>
    rename_i n b
    simp only at P
    cases q1:S[n]? with
    | none=>rw [q1] at P;exact P.elim
    | some o=>
     rw [q1] at P
     cases o with
     | exc c fs=>exact ex rfl q1 h (P μ H (Lat.refl _ _) rp _ (.bl _))
     | lst _=>exact P.elim
     | dct _=>exact P.elim
   | _=>exact False.elim P
 have hb:PE X (.Name x q) (tC (.ty T)):=b3e (u:=.type T) hg2 hm2 hv rfl hn hd
 refine PE.imp (a13 key hg hm (by rfl) (B6 h (B6 hb a0y (d8 rfl)) (d8 hs)) (by decide) (by decide) (d8 hs) (k8 rfl)) λσ H Q ⟨μ,S,ρ,eo,rp,P⟩=>?_
 exact ⟨μ,S,ρ,eo,rp,P.bind.imp λd S1 μ1 H1 l1 r1 p1 v rv=>⟨μ1,S1,d,v,rfl,rv,r1,p1⟩⟩
end
section
variable {X:Cx}
variable {cl:Nat->Addr} {xe:Addr->Hp->Prop}
noncomputable def n9:List D->Option (List Int)
 | []=>some []
 | .int i :: ds=>(n9 ds).map (i :: ·)
 | _=>none
theorem R8 {K:PySem.W.Frag} {μ:Mp} {H:Hp}:∀ {ds:List D} {vs:List V} {ns:List Int},n9 ds=some ns->RDs K μ H ds vs->vs=ns.map V.int
 | [],_,ns,e,r=>by cases r;cases e;rfl
 | d :: ds,_,ns,e,r=>by
  cases r with
  | cons h t=>
   cases d <;> try (simp [n9] at e;done)
   case int i=>
    simp only [n9] at e
    cases e1:n9 ds with
    | none=>rw [e1] at e;cases e
    | some ns'=>
     rw [e1] at e;cases e
     cases h
     rw [R8 e1 t];rfl
noncomputable def a7i (d:D):M D:=match d with
 | .int i=>ret (.int (-i))
 | _=>bad
theorem b1f:UnR X (unaryOp .USub) (λx H Q=>∃ μ S d,RD X.K μ H d x/\Rep X.K cl μ S H/\Post X.K cl xe μ H (a7i d S) λr _ μ' H'=>∀ v,RD X.K μ' H' r v->Q v H'):=by
 intro pins s σ H x v Q I rx ⟨μ,S,d,rd,rp,p⟩
 cases rd with
 | int i=>exact c0t pins s σ H _ v Q I rx ⟨i,rfl,p μ H (Lat.refl _ _) rp _ (.int _)⟩
 | _=>exact False.elim p
theorem b8d {a:Expr} {f:Env->M D} {pos:Pos} (h:PE X a (tD X.K cl xe f)):PE X (.UnaryOp .USub a pos) (tD X.K cl xe λρ=>bind (f ρ) a7i):=
 PE.imp (c3j b1f h) λσ H Q ⟨μ,S,ρ,eo,rp,p⟩=>⟨μ,S,ρ,eo,rp,p.bind.imp λd S1 μ1 H1 l1 r1 p1 v rv=>⟨μ1,S1,d,rv,r1,p1⟩⟩
noncomputable def a1j (h h':D->D->M D) (x y:D) (z:M D):M D:=bind (h x y) λd=>bind (asB d) λk=>if k=true then bind z λw=>h' y w else ret (.bl false)
theorem b1w {h h':D->D->M D} {tc:TE} {fc:Env->M D} {ρ:Env} {σ:L2.St} {μ:Mp} {S:Sto} {H:Hp} {x y:D} {v u:V} {Q:VK} (htc:tc=tD X.K cl xe fc) (eo:EnvOk X.K μ H ρ σ) (rx:RD X.K μ H x v) (ry:RD X.K μ H y u) (rp:Rep X.K cl μ S H)
  (p:Post X.K cl xe μ H (a1j h h' x y (fc ρ) S) λd _ μ' H'=>∀ v,RD X.K μ' H' d v->Q v H') :
  rP2 X.K cl xe h v u H λz H3=>∃ k,z=.bl k/\(if k=true then tc σ H3 λw' H4=>rP2 X.K cl xe h' u w' H4 Q else Q (.bl false) H3):=by
 subst htc
 refine ⟨μ,S,x,y,rx,ry,rp,p.bind.imp λd S3 μ3 H3 l3 r3 p3 z rz=>?_⟩
 cases rz with
 | bl k=>
  refine ⟨k,rfl,?_⟩
  have p3:Post X.K cl xe μ3 H3 ((if k=true then bind (fc ρ) (λw=>h' y w) else ret (.bl false)) S3) λd _ μ' H'=>∀ v,RD X.K μ' H' d v->Q v H':=p3
  cases k with
  | true=>
   rw [if_pos rfl] at p3 ⊢
   exact ⟨μ3,S3,ρ,eo.later l3,r3,p3.bind.imp λw S4 μ4 H4 l4 r4 p4 w' rw'=>⟨μ4,S4,y,w,(ry.later l3).later l4,rw',r4,p4⟩⟩
  | false=>
   rw [if_neg Bool.false_ne_true] at p3 ⊢
   exact p3 μ3 H3 (Lat.refl _ _) r3 _ (.bl _)
 | _=>exact False.elim p3
theorem c1b {op op':CmpOp} {b c:Expr} (h:behindInMarks op' c=false):lastMarks [op,op'] [b,c]=false:=h
theorem b2l {op op':CmpOp} {h h':D->D->M D} {a b c:Expr} {f g fc:Env->M D} {pos:Pos} (ha:PE X a (tD X.K cl xe f)) (hb:PE X b (tD X.K cl xe g)) (hc:PE X c (tD X.K cl xe fc)) (ho:OpR X (compareOp op) (rP2 X.K cl xe h)) (ho':OpR X (compareOp op') (rP2 X.K cl xe h')) (hm:behindInMarks op' c=false) :
  PE X (.Compare a [op,op'] [b,c] pos) (tD X.K cl xe λρ=>bind (f ρ) λx=>bind (g ρ) λy=>a1j h h' x y (fc ρ)):=PE.imp (a9r ho ho' ha hb hc (c1b hm)) λσ H Q ⟨μ,S,ρ,eo,rp,p⟩=>
 ⟨μ,S,ρ,eo,rp,p.bind.imp λx S1 μ1 H1 l1 r1 p1 v rv=>⟨μ1,S1,ρ,eo.later l1,r1,p1.bind.imp λy S2 μ2 H2 l2 r2 p2 u ru=>b1w rfl ((eo.later l1).later l2) (rv.later l2) ru r2 p2⟩⟩
end
section
variable {X:Cx} {e:Expr} {te:TE} {p p2 pos pos2:Pos} {cl:Nat->Addr} {xe:Addr->Hp->Prop}
theorem L5:∀ {ns:List Int} {us:List Value},Vals (ns.map V.int) us->IntsAre us ns
 | [],_,r=>by cases r;exact .nil
 | n :: ns,_,r=>by
  cases r with
  | cons h t=>
   obtain ⟨k,rfl⟩:=(show ∃ t,_=Value.int n t from h)
   exact .cons n k (L5 t)
end
end L3
namespace HT
open PySem PySem.Spec PyProof.Rows
section
variable {prog:Program} {w:World} {A:Around} {E:Value->Shared->Prop} {s:Shared}
theorem c0b {a:Addr} {us:List Value} {ob:Obj} {k:Nat} {T:String} {Q:List Value->Shared->Prop} (hT:T = "list"\/T = "tuple") (ha:s.heap.get? a=some ob) (hT2:ob.cls=.type T) (hD:ob.data=.seq us.toArray k) (hz:us.length<=sizeLine)
  (q:Q us { s with heap:=(s.heap.push (seqObj "list" #[] 0)).update s.heap.objs.size (Obj.mapSeq (·++us.toArray)) }):wpAny (model prog w) A (collect (.ref a)) Q E s:=by
 have ha2:(s.heap.push (seqObj "list" #[] 0)).get? a=some ob:=Heap.get?_push_of_some _ ha
 have hn:(s.heap.push (seqObj "list" #[] 0)).get? s.heap.objs.size=some (seqObj "list" #[] 0):=Heap.get?_push_size _ rfl
 unfold collect
 refine wpAny_bind (wpAny_runValue (codeAny_builtin PyProof.Rows.entry_proto_collect' (?_:wpAny _ _ (do again (.builtin "list.__iadd__" ⟨[<- newList [],.ref a],[]⟩)) _ _ s)))
 refine wpAny_bind (wpAny_newList (wpAny_pure ⟨Code.quiet_builtin _ (by decide +kernel),codeAny_builtin PyProof.Rows.entry_list_iadd' (?_:wpAny _ _ (Builtin.List.listExtendWith (.ref s.heap.objs.size) (.ref a) (.ref s.heap.objs.size)) _ _ { s with heap:=s.heap.push (seqObj "list" #[] 0) })⟩))
 unfold Builtin.List.listExtendWith
 refine wpAny_bind (wpAny_typeOf (T:=T) ⟨ob,ha2,hT2⟩ ?_)
 rw [if_pos (by rcases hT with rfl | rfl <;> simp)]
 refine wpAny_bind (PyProof.Rows.listItems_at ha2 hD (wpAny_bind (PyProof.Rows.listItems_at hn rfl ?_)))
 rw [if_neg (by simp)]
 refine wpAny_bind (PyProof.Rows.listUpdate_at hn rfl (wpAny_pure ?_) (Nat.zero_le _) (by rw [Array.size_append];show 0+us.toArray.size<=_;rw [List.size_toArray];omega))
 show wpAny (model prog w) A (load s.heap.objs.size >>= _) Q E _
 refine wpAny_bind (wpAny_load (PyProof.Rows.get?_update_seq hn _) ?_)
 show wpAny _ _ (pure ((#[]:Array Value)++us.toArray).toList) Q E _
 have e:((#[]:Array Value)++us.toArray).toList=us:=by simp
 rw [e]
 exact wpAny_pure q
theorem sorted_seq {a:Addr} {us:List Value} {ob:Obj} {k:Nat} {T:String} {ns:List Int} {Q:Value->Shared->Prop} (hT:T = "list"\/T = "tuple") (ha:s.heap.get? a=some ob) (hT2:ob.cls=.type T) (hD:ob.data=.seq us.toArray k) (hI:IntsAre us ns) (few:us.length<64)
  (q:∀ (out:Array Value) (ms:List Int),IntsAre out.toList ms->ms.Perm ns->ms.Pairwise (·<=·)->Q (.ref (s.heap.objs.size+1)) { s with heap:=sortedAll s.heap us out }):wpAny (model prog w) A (call (.builtin "sorted") [.ref a]) Q E s:=by
 refine Calls.call_function_entry PyProof.Rows.kind_sorted PyProof.Rows.plain_sorted PyProof.Rows.entry_sorted (PyProof.Rows.args_sorted1 _) ?_
 unfold Builtin.«sorted»
 refine wpAny_bind (m:=checkCount "sorted" 1 1 _) (wpAny_pure (wpAny_bind (c0b hT ha hT2 hD (by rw [sizeLine_eq];omega) (wpAny_bind (wpAny_newList ?_)))))
 have sz:((s.heap.push (seqObj "list" #[] 0)).update s.heap.objs.size (Obj.mapSeq (·++us.toArray))).objs.size=s.heap.objs.size+1:=by
  rw [Heap.size_update,PyProof.Rows.size_push']
 have at_:(((s.heap.push (seqObj "list" #[] 0)).update s.heap.objs.size (Obj.mapSeq (·++us.toArray))).push (seqObj "list" us.toArray 0)).get? (s.heap.objs.size+1)=some (seqObj "list" us.toArray 0):=sz▸Heap.get?_push_size _ rfl
 show wpAny _ _ _ _ _ { s with heap:=((s.heap.push (seqObj "list" #[] 0)).update s.heap.objs.size (Obj.mapSeq (·++us.toArray))).push (seqObj "list" us.toArray 0) }
 rw [sz]
 refine wpAny_bind (wpAny_holding (wpAny_call_entry PyProof.Rows.slot_list_sort ⟨_,at_,rfl⟩ PyProof.Rows.entry_list_sort (PyProof.Rows.list_sort_tree at_ hI few λout ms b1 b2 b3=>⟨_,rfl,wpAny_pure ⟨_,rfl,q out ms b1 b2 b3⟩⟩) (PyProof.Rows.args_list_sort _)))
end
end HT
namespace L3
open PySem PySem.Spec PyProof.Rows L2
noncomputable def a4a (x:Int):List Int->List Int
 | []=>[x]
 | y :: ys=>if x<=y then x :: y :: ys else y :: a4a x ys
noncomputable def srt:List Int->List Int
 | []=>[]
 | x :: xs=>a4a x (srt xs)
theorem V3 (x:Int):∀ l:List Int,(a4a x l).Perm (x :: l)
 | []=>.refl _
 | y :: ys=>by
  unfold a4a
  split
  ·exact .refl _
  ·exact ((V3 x ys).cons y).trans (.swap x y ys)
theorem i7:∀ l:List Int,(srt l).Perm l
 | []=>.refl _
 | x :: xs=>(V3 x (srt xs)).trans ((i7 xs).cons x)
theorem a8y (x:Int):∀ l:List Int,l.Pairwise (·<=·)->(a4a x l).Pairwise (·<=·)
 | [],_=>by simp [a4a]
 | y :: ys,h=>by
  unfold a4a
  rw [List.pairwise_cons] at h
  split
  ·rename_i c
   rw [List.pairwise_cons]
   refine ⟨λz hz=>?_,List.pairwise_cons.mpr h⟩
   rcases List.mem_cons.mp hz with e | e
   ·omega
   ·have:=h.1 z e;omega
  ·rename_i c
   rw [List.pairwise_cons]
   refine ⟨λz hz=>?_,a8y x ys h.2⟩
   rcases List.mem_cons.mp ((V3 x ys).mem_iff.mp hz) with e | e
   ·omega
   ·exact h.1 z e
theorem a0t:∀ l:List Int,(srt l).Pairwise (·<=·)
 | []=>.nil
 | x :: xs=>a8y x _ (a0t xs)
theorem a30:∀ {a b:List Int},a.Perm b->a.Pairwise (·<=·)->b.Pairwise (·<=·)->a=b
 | [],b,p,_,_=>by
  have:=p.length_eq
  cases b with
  | nil=>rfl
  | cons _ _=>simp at this
 | x :: a,[],p,_,_=>by have:=p.length_eq;simp at this
 | x :: a,y :: b,p,ha,hb=>by
  rw [List.pairwise_cons] at ha hb
  have h1:x∈y :: b:=p.mem_iff.mp (List.mem_cons_self ..)
  have h2:y∈x :: a:=p.mem_iff.mpr (List.mem_cons_self ..)
  have e:x=y:=by
   rcases List.mem_cons.mp h1 with e | e
   ·exact e
   ·rcases List.mem_cons.mp h2 with f | f
    ·exact f.symm
    ·have:=ha.1 y f;have:=hb.1 x e;omega
  subst e
  rw [a30 (List.Perm.cons_inv p) ha.2 hb.2]
theorem O5:∀ {us:List Value} {ns:List Int},IntsAre us ns->Vals (ns.map V.int) us
 | _,_,.nil=>.nil
 | _,_,.cons n t h=>.cons ⟨t,rfl⟩ (O5 h)
section
variable {X:Cx} {cl:Nat->Addr} {xe:Addr->Hp->Prop}
theorem a0l:j9 X (.builtin "sorted") (λxs H Q=>∃ (a:Addr) (ns:List Int),xs=[.ref a]/\(SqL X.K H a (ns.map V.int)\/SqT X.K H a (ns.map V.int))/\ns.length<64/\∀ p,H p=none->Q (.ref p) (upd H p (.lst ((srt ns).map V.int)))):=by
 intro pins s σ H xs us Q I r h
 obtain ⟨a,ns,rfl,hs,hl,q⟩:=h
 obtain ⟨u,rfl,ru⟩:=P7 r
 cases ru
 have gen:∀ (ob:Obj) (k:Nat) (T:String) (its:List Value),(T = "list"\/T = "tuple")->s.heap.get? a=some ob->ob.cls=.type T->ob.data=.seq its.toArray k->Vals (ns.map V.int) its->wpAny (model X.prog X.w) X.A (call (.builtin "sorted") [.ref a]) (EP X pins σ Q) X.xe s:=λob k T its hT h1 h2 h3 rv=>by
  have hlen:its.length=ns.length:=by rw [<- rv.length,List.length_map]
  refine HT.sorted_seq hT h1 h2 h3 (L5 rv) (by omega) λout ms b1 b2 b3=>?_
  have e:ms=srt ns:=a30 (b2.trans (i7 ns).symm) b3 (a0t ns)
  subst e
  obtain ⟨ep,he⟩:=sortedAll_at s.heap its out
  have hf:H (s.heap.objs.size+1)=none:=I.hok.fresh (Nat.le_succ _)
  refine ⟨.ref (s.heap.objs.size+1),_,I.laid (t':=s.toks) (o:=.lst ((srt ns).map V.int)) (λb ob q=>sortedAll_old q) (Nat.le_succ _) ?_,rfl,q _ hf⟩
  refine ⟨by rw [List.length_map,(i7 ns).length_eq,sizeLine_eq];omega,out.toList,ep,O5 b1,?_⟩
  rw [Array.toArray_toList]
  exact he
 rcases hs with hs | hs
 ·obtain ⟨its,rv,⟨o,n,e,c,d0,d⟩,_⟩:=I.list hs
  exact gen o n "list" its (.inl rfl) e c d rv
 ·obtain ⟨its,rv,⟨o,e,c,n,d⟩,_⟩:=I.tuple hs
  exact gen o n "tuple" its (.inr rfl) e c d rv
noncomputable def G4 (d:D):M D:=bind (p8 d) λds=>match n9 ds with
 | some ns=>if ns.length<64 then ret (.lst ((srt ns).map D.int)) else bad
 | none=>bad
theorem b2j:j9 X (.builtin "sorted") (rPs X.K cl xe (one G4)):=K1 λpins s σ H μ S d v us Q I r rd rp p=>by
 obtain ⟨a,xs,ds,rfl,h1,h2,e2⟩:=E5 rd rp p.bind
 have p:=p.ok_bind e2
 cases e:n9 ds with
 | none=>rw [e] at p;exact p.elim
 | some ns=>
  rw [e] at p
  obtain ⟨hz,p⟩:=Post.guard p
  have:=R8 e h2
  subst this
  refine a0l pins s σ H _ us Q I r ⟨a,ns,rfl,h1,hz,λz hz=>?_⟩
  obtain ⟨l,rp2,rd2⟩:=v9 rp (RDs.ints (srt ns)) hz
  exact p μ _ l rp2 _ rd2
end
section
variable {X:Cx} {cl:Nat->Addr} {xe:Addr->Hp->Prop} {o e:Expr} {es:List Expr} {f:Env->M D} {fs:Env->M (List D)} {apos cpos:Pos} {name:Str} {T T2 id id2:String} {r r2:V->List V->Hp->VK->Prop} {α:Type}
def Looks (K:PySem.W.Frag) (cl:Nat->Addr) (xe:Addr->Hp->Prop) (T:String) (g:D->M α):Prop:=∀ (μ:Mp) (S:Sto) (H:Hp) (x:D) (v:V) (G:α->Sto->Mp->Hp->Prop),RD K μ H x v->Rep K cl μ S H->Post K cl xe μ H (g x S) G->tyV K T v H/\∃ a,g x S=.ok a S
def b9a (K:PySem.W.Frag) (cl:Nat->Addr) (xe:Addr->Hp->Prop) (r:V->List V->Hp->VK->Prop) (op:D->List D->M D):Prop:=∀ (μ:Mp) (S:Sto) (H:Hp) (x:D) (v:V) (ds:List D) (vs:List V) (Q:VK),RD K μ H x v->RDs K μ H ds vs->Rep K cl μ S H->Post K cl xe μ H (op x ds S) (λd _ μ' H'=>∀ w,RD K μ' H' d w->Q w H')->r v vs H Q
theorem a6k {g:D->M α} {op:D->List D->M D} (pa:PlainAttrs T) (slot:Slot T name id) (hty:typeOf (.builtin id)=pure (.type "method_descriptor")) (hm:MtR X id r) (hg:Looks X.K cl xe T g) (hd:b9a X.K cl xe r op) (ho:PE X o (tD X.K cl xe f)) (ha:PA X (e :: es) (tDs X.K cl xe fs))
  (hb:y4 o=true) (hs:(e :: es).all noStar=true) (hf:C2 (e :: es)=true) (hl:(apos.endLine==cpos.line)=true) :
  PE X (.Call (.Attribute o name apos) (e :: es) [] cpos) (tD X.K cl xe λρ=>bind (f ρ) λx=>bind (g x) λ_=>bind (fs ρ) λds=>op x ds):=by
 have hs2:=hs
 rw [List.all_cons,Bool.and_eq_true] at hs2
 refine PE.imp (b6u pa slot hty hm ho ha (L8 hb) (b2i hs hf) hl (d8 hs2.1) (k8 hs2.2)) λσ H Q ⟨μ,S,ρ,eo,rp,p⟩=>?_
 refine ⟨μ,S,ρ,eo,rp,p.bind.imp λx S1 μ1 H1 l1 r1 p1 xv rx=>?_⟩
 obtain ⟨ty,a,ea⟩:=hg μ1 S1 H1 x xv _ rx r1 p1.bind
 have p1:=p1.ok_bind ea
 exact ⟨ty,μ1,S1,ρ,eo.later l1,r1,p1.bind.imp λds S2 μ2 H2 l2 r2 p2 vs rvs=>hd μ2 S2 H2 x xv ds vs Q (rx.later l2) rvs r2 p2⟩
theorem RDs.erase {K:PySem.W.Frag} {μ:Mp} {H:Hp}:∀ {ds:List D} {vs:List V} (n:Nat),RDs K μ H ds vs->RDs K μ H (ds.eraseIdx n) (vs.eraseIdx n)
 | _,_,_,.nil=>.nil
 | _,_,0,.cons h r=>r
 | _,_,n+1,.cons h r=>.cons h (RDs.erase n r)
noncomputable def popD (x:D) (ds:List D):M D:=match x,ds with
 | .ref n,[.int i]=>λS=>match S[n]? with
  | some (.lst es)=>if -(2 ^ 63)<=i/\i<2 ^ 63 then (match ixN es.length i with
   | some j=>(match es[j]? with
    | some y=>.ok y (S.set n (.lst (es.eraseIdx j)))
    | none=>.bad)
   | none=>.bad) else .bad
  | _=>.bad
 | _,_=>bad
theorem T8:Looks X.K cl xe "list" lstOf:=λμ S H x v G rx rp p=>by
 obtain ⟨a,xs,ds,rfl,h1,h2,e⟩:=s0 rx rp p
 exact ⟨.inl ⟨rfl,_,.inl (.inl h1)⟩,ds,e⟩
theorem a9a:b9a X.K cl xe rPopAt popD:=λμ S H x v ds vs Q rx rvs rp p=>by
 unfold popD at p
 split at p
 ·rename_i n i
  cases rvs with
  | cons h t=>
   cases t;cases h
   cases rx with
   | ref e=>
    rename_i a
    cases q1:S[n]? with
    | none=>rw [q1] at p;exact p.elim
    | some o=>
     rw [q1] at p
     cases o with
     | lst es=>
      obtain ⟨xs,h1,h2⟩:=rp.ats n _ a q1 e
      dsimp only at p
      by_cases hb:-(2 ^ 63)<=i/\i<2 ^ 63
      ·rw [if_pos hb] at p
       cases q2:ixN es.length i with
       | none=>rw [q2] at p;exact p.elim
       | some j=>
        rw [q2] at p
        dsimp only at p
        cases q3:es[j]? with
        | none=>rw [q3] at p;exact p.elim
        | some y=>
         rw [q3] at p
         obtain ⟨y',e4,r4⟩:=h2.get q3
         have ml:a∈μ.pl:=List.mem_of_getElem? e
         refine ⟨a,xs,i,j,y',rfl,rfl,h1,hb.1,hb.2,by rw [<- h2.length];exact (a1k q2).1,e4,?_⟩
         have la:Lat μ H μ (upd H a (.lst (xs.eraseIdx j))):=Lat.wrote ml
         exact p μ _ la (rp.wrote e ⟨_,b8,(h2.erase j).later la⟩) _ (r4.later la)
      ·rw [if_neg hb] at p;exact p.elim
     | dct _=>exact p.elim
     | exc _ _=>exact p.elim
 ·exact p.elim
end
section
variable {X:Cx} {cl:Nat->Addr} {xe:Addr->Hp->Prop} {o e:Expr} {es:List Expr} {f:Env->M D} {p p2 pos pos2:Pos} {te:TE}
noncomputable def rgL (n:Nat):List Int:=(List.range n).map λ(k:Nat)=>(k:Int)
theorem a6v {acc:List Value} {n:Nat} (hl:acc.length=n) (h:∀ (i:Nat) (v:Value),acc[i]?=some v->∃ t,v=Value.int (i:Int) t):Vals ((rgL n).map V.int) acc:=by
 have gen:∀ (k:Nat) (l:List Value) (b:Nat),l.length=k->(∀ (i:Nat) (v:Value),l[i]?=some v->∃ t,v=Value.int ((b+i:Nat):Int) t)->Vals ((List.range' b k).map λ(j:Nat)=>V.int (j:Int)) l:=by
  intro k
  induction k with
  | zero=>intro l b hl _;cases l with
   | nil=>exact .nil
   | cons _ _=>simp at hl
  | succ k ih=>
   intro l b hl hv
   cases l with
   | nil=>simp at hl
   | cons v l=>
    rw [List.range'_succ,List.map_cons]
    refine .cons ?_ (ih l (b+1) (by simpa using hl) λi w hw=>?_)
    ·obtain ⟨t,e⟩:=hv 0 v rfl
     exact ⟨t,by rw [e];simp⟩
    ·obtain ⟨t,e⟩:=hv (i+1) w (by simpa using hw)
     exact ⟨t,by rw [e];congr 2;omega⟩
 have:=gen n acc 0 hl λi v hv=>by
  obtain ⟨t,e⟩:=h i v hv
  exact ⟨t,by rw [e];simp⟩
 unfold rgL
 rw [List.map_map,List.range_eq_range']
 exact this
def b3q (te:TE):TE:=λσ H Q=>te σ H λx H1=>∃ n:Nat,x=.int (n:Int)/\n<100000/\∀ q,H1 q=none->Q (.ref q) (upd H1 q (.lst ((rgL n).map V.int)))
theorem a7f (hc:X.calm=true) (hl:Gl X "list") (ml:X.mg "list" = none) (hr:Gl X "range") (mr:X.mg "range" = none) (he:PE X e te) (hn:noStar e=true):PE X (.Call (.Name "list" p) [.Call (.Name "range" p2) [e] [] pos2] [] pos) (b3q te):=by
 intro pins s σ H Q I h
 have hh:X.A.handled=none:=I.ok.hd hc
 refine wpAny_Call_Name_kw (u3 I hl ml (by rfl) ?_ (by decide) (by decide))
 refine PyProof.Rows.callWith_type1 ?_ rfl rfl
 show wpAny _ _ (spliced ((false,eval (.Call (.Name "range" p2) [e] [] pos2) X.env) :: backTo pos (starEach [] X.env))) _ _ s
 refine Calls.spliced_cons ?_
 refine wpAny_Call_Name_kw (u3 I hr mr boot_range ?_ (by decide) (by decide))
 refine PyProof.Rows.callWith_type1 ?_ (d8 hn) rfl
 rw [d8 hn]
 show wpAny _ _ (spliced ((false,eval e X.env) :: backTo pos2 (starEach [] X.env))) _ _ s
 refine Calls.spliced_cons (thn (he pins s σ H _ I h) λu s1 ⟨x,H1,I1,r1,n,e1,hz,q⟩=>?_)
 subst e1
 obtain ⟨t,rfl⟩:=r1
 refine Calls.spliced_nil (call_range_1 (Calls.spliced_nil ?_))
 have rs:Builtin.Range.rangeSize 0 (n:Int) 1=(n:Int):=by rw [rangeSize_one];split <;> omega
 refine call_list_range hh (IsRange.new ..) (small_one (by omega) (by omega) (by omega) (by omega)) rs (by omega) λh' tk acc c hk hS hacc=>?_
 have I2:=I1.kept (t':=s1.toks+1+1) (h':=s1.heap.push { cls:=.type "range",data:=.fields #[.int 0 s1.toks,.int (n:Int) t,.int 1 (s1.toks+1)] }) λb ob q=>Heap.get?_push_of_some _ q
 refine ⟨.ref _,_,Inv.laid (t':=tk) (o:=.lst ((rgL n).map V.int)) I2 hk (Nat.le_refl _) ?_,rfl,q _ (I2.hok.fresh (Nat.le_refl _))⟩
 refine ⟨by rw [List.length_map];show (rgL n).length<=_;unfold rgL;rw [List.length_map,List.length_range,sizeLine_eq];omega,acc.toList,c,a6v (by rw [Array.length_toList];exact hacc.1) (λi v hv=>?_),?_⟩
 ·obtain ⟨t',e⟩:=hacc.2 i v (by rw [<- Array.getElem?_toList];exact hv)
  exact ⟨t',by rw [e];simp⟩
 ·rw [Array.toArray_toList];exact hS
noncomputable def G3 (d:D):M D:=match d with
 | .int i=>if 0<=i/\i<100000 then ret (.lst ((rgL i.toNat).map D.int)) else bad
 | _=>bad
theorem a7s (hc:X.calm=true) (hl:Gl X "list") (ml:X.mg "list" = none) (hr:Gl X "range") (mr:X.mg "range" = none) (he:PE X e (tD X.K cl xe f)) (hn:noStar e=true):PE X (.Call (.Name "list" p) [.Call (.Name "range" p2) [e] [] pos2] [] pos) (tD X.K cl xe λρ=>bind (f ρ) G3):=
 PE.imp (a7f hc hl ml hr mr he hn) λσ H Q ⟨μ,S,ρ,eo,rp,p⟩=>⟨μ,S,ρ,eo,rp,p.bind.imp λd S1 μ1 H1 l1 r1 p1 v rv=>by
  cases rv with
  | int i=>
   obtain ⟨hi,p1⟩:=Post.guard p1
   refine ⟨i.toNat,by rw [Int.toNat_of_nonneg hi.1],by omega,λz hz=>?_⟩
   obtain ⟨l,rp2,rd2⟩:=v9 r1 (RDs.ints (rgL i.toNat)) hz
   exact p1 μ1 _ l rp2 _ rd2
  | _=>exact False.elim p1⟩
theorem a4r:MtR X "list.extend" (λx vs H Q=>∃ l b xs zs,x=.ref l/\vs=[.ref b]/\H l=some (.lst xs)/\(SqL X.K H b zs\/SqT X.K H b zs)/\xs.length+zs.length<=sizeLine/\Q .non (upd H l (.lst (xs++zs)))):=by
 intro pins s σ H x vs v us Q I rx rv h
 obtain ⟨l,b,xs,zs,rfl,rfl,hH,hB,hz,q⟩:=h
 cases rx
 obtain ⟨u,rfl,ru⟩:=rv.one
 cases ru
 obtain ⟨z,its,n,r,hl,e⟩:=I.lstM hH
 have gen:∀ (ob:Obj) (k:Nat) (T:String) (is2:List Value),(T = "list"\/T = "tuple")->s.heap.get? b=some ob->ob.cls=.type T->ob.data=.seq is2.toArray k->Vals zs is2->wpAny (model X.prog X.w) X.A (call (.builtin "list.extend") [.ref l,.ref b]) (EP X pins σ Q) X.xe s:=λob k T is2 hT h1 h2 h3 rv2=>by
  have hsz:its.toArray.size+is2.toArray.size<=sizeLine:=by rw [List.size_toArray,List.size_toArray,<- rv2.length];omega
  have hlong:¬ (!its.toArray.isEmpty&&Builtin.List.listTooLong (its.toArray.size+is2.toArray.size))=true:=by
   rw [a2w hsz,Bool.and_false]
   exact Bool.false_ne_true
  have ht:s.TypeIs (.ref l) "list":=⟨_,e,rfl⟩
  refine wpAny_call_entry F.slot_list_extend ht F.entry_list_extend ?_ (F.args_list_extend_2 _ _)
  show wpAny _ _ (Builtin.List.listExtendWith (.ref l) (.ref b) .none) _ _ s
  unfold Builtin.List.listExtendWith
  refine wpAny_bind (wpAny_typeOf (T:=T) ⟨ob,h1,h2⟩ ?_)
  rw [if_pos (by rcases hT with rfl | rfl <;> simp)]
  refine wpAny_bind (PyProof.Rows.listItems_at h1 h3 (wpAny_bind (PyProof.Rows.listItems_at e rfl ?_)))
  rw [if_neg hlong]
  refine wpAny_bind (PyProof.Rows.listUpdate_at e rfl (wpAny_pure ?_) (by rw [List.size_toArray];omega) (by rw [Array.size_append];omega))
  refine ⟨_,rfl,.non,_,I.lset (its':=its++is2) hH e (by simp) (r.append rv2) ?_,rfl,q⟩
  rw [List.length_append]
  omega
 rcases hB with hB | hB
 ·obtain ⟨is2,rv2,⟨o,k,e2,c,d0,d⟩,_⟩:=I.list hB
  exact gen o k "list" is2 (.inl rfl) e2 c d rv2
 ·obtain ⟨is2,rv2,⟨o,e2,c,k,d⟩,_⟩:=I.tuple hB
  exact gen o k "tuple" is2 (.inr rfl) e2 c d rv2
noncomputable def extD (x:D) (ds:List D):M D:=match x,ds with
 | .ref n,[.tup ys]=>λS=>match S[n]? with
  | some (.lst es)=>if es.length+ys.length<=sizeLine then .ok .non (S.set n (.lst (es++ys))) else .bad
  | _=>.bad
 | .ref n,[.lst ys]=>λS=>match S[n]? with
  | some (.lst es)=>if es.length+ys.length<=sizeLine then .ok .non (S.set n (.lst (es++ys))) else .bad
  | _=>.bad
 | _,_=>bad
theorem a9j:b9a X.K cl xe (λx vs H Q=>∃ l b xs zs,x=.ref l/\vs=[.ref b]/\H l=some (.lst xs)/\(SqL X.K H b zs\/SqT X.K H b zs)/\xs.length+zs.length<=sizeLine/\Q .non (upd H l (.lst (xs++zs)))) extD:=λμ S H x v ds vs Q rx rvs rp p=>by
 have gen:∀ (n:Nat) (a b:Addr) (ys:List D) (zs:List V),μ.pl[n]?=some a->(SqL X.K H b zs\/SqT X.K H b zs)->RDs X.K μ H ys zs->Post X.K cl xe μ H (match S[n]? with
   | some (.lst es)=>if es.length+ys.length<=sizeLine then R.ok D.non (S.set n (.lst (es++ys))) else .bad
   | _=>.bad) (λd _ μ' H'=>∀ w,RD X.K μ' H' d w->Q w H')->∃ l b' xs zs',V.ref a=.ref l/\[V.ref b]=[.ref b']/\H l=some (.lst xs)/\(SqL X.K H b' zs'\/SqT X.K H b' zs')/\xs.length+zs'.length<=sizeLine/\Q .non (upd H l (.lst (xs++zs'))):=λn a b ys zs e hs hr p=>by
  cases q1:S[n]? with
  | none=>rw [q1] at p;exact p.elim
  | some o=>
   rw [q1] at p
   cases o with
   | lst es=>
    obtain ⟨xs,h1,h2⟩:=rp.ats n _ a q1 e
    dsimp only at p
    by_cases hz:es.length+ys.length<=sizeLine
    ·rw [if_pos hz] at p
     have ml:a∈μ.pl:=List.mem_of_getElem? e
     refine ⟨a,b,xs,zs,rfl,rfl,h1,hs,by rw [<- h2.length,<- hr.length];exact hz,?_⟩
     have la:Lat μ H μ (upd H a (.lst (xs++zs))):=Lat.wrote ml
     exact p μ _ la (rp.wrote e ⟨_,b8,(h2.append hr).later la⟩) _ .non
    ·rw [if_neg hz] at p;exact p.elim
   | dct _=>exact p.elim
   | exc _ _=>exact p.elim
 unfold extD at p
 split at p
 ·rename_i n ys
  cases rvs with
  | cons h t=>
   cases t
   cases rx with
   | ref e=>
    cases h with
    | tup h1 h2=>
     rename_i a b zs
     exact gen n a b ys zs e (.inr h1.sq) h2 p
 ·rename_i n ys
  cases rvs with
  | cons h t=>
   cases t
   cases rx with
   | ref e=>
    cases h with
    | lst h1 h2=>
     rename_i a b zs
     exact gen n a b ys zs e (.inl h1.sq) h2 p
 ·exact p.elim
noncomputable def listP (d:D):M D:=bind (p8 d) λds=>λS=>.ok (.ref S.length) (S++[.lst ds])
theorem a5g:j9 X (.type "list") (rPs X.K cl xe (one listP)):=K1 λpins s σ H μ S d v us Q I r rd rp p=>by
 obtain ⟨a,xs,ds,rfl,h1,h2,e2⟩:=E5 rd rp p.bind
 refine M0 pins s σ H _ us Q I r ⟨a,xs,rfl,h1,λz hz=>?_⟩
 obtain ⟨l,rp2,rd2⟩:=a0b rp h2 hz
 exact (p.ok_bind e2) _ _ l rp2 _ rd2
end
end L3
namespace HT
open PySem PySem.Spec PyProof.Rows
noncomputable def o0 (led:Bool):Obj:={ cls:=.type "set",dict:=none,data:=.set #[] 0 (.fresh 0 0 led) }
def Rise (xs:Array Nat):Prop:=xs.toList.Pairwise (· < ·)
theorem Rise.lt {xs:Array Nat} (h:Rise xs) {i j:Nat} (hij:i<j) (hj:j<xs.size):xs[i]<xs[j]:=by
 have:=List.pairwise_iff_getElem.mp h i j (by simp;omega) (by simpa using hj) hij
 simpa using this
theorem V6 {xs:Array Nat} {j:Nat} (h:Rise xs):∀ (fuel lo hi:Nat),hi-lo<=fuel->lo<=hi->hi<=xs.size->(∀ i (z:i<xs.size),i<lo->xs[i]<j)->(∀ i (z:i<xs.size),hi<=i->j<=xs[i]) ->
  SetTable.below.go xs j fuel lo hi<=xs.size/\(∀ i (z:i<xs.size),i<SetTable.below.go xs j fuel lo hi->xs[i]<j)/\∀ i (z:i<xs.size),SetTable.below.go xs j fuel lo hi<=i->j<=xs[i]
 | 0,lo,hi,f,le,le2,a,b=>by
  have e:lo=hi:=by omega
  subst e
  exact ⟨le2,a,b⟩
 | fuel+1,lo,hi,f,le,le2,a,b=>by
  unfold SetTable.below.go
  by_cases c:lo<hi
  ·rw [if_pos c]
   have hm:(lo+hi) / 2<xs.size:=by omega
   have em:xs.getD ((lo+hi) / 2) j=xs[(lo+hi) / 2]:=by simp [Array.getD,hm]
   dsimp only
   rw [em]
   by_cases d:xs[(lo+hi) / 2]<j
   ·rw [if_pos d]
    refine V6 h fuel _ _ (by omega) (by omega) le2 (λi z w=>?_) b
    rcases Nat.lt_or_ge i ((lo+hi) / 2) with u | u
    ·exact Nat.lt_trans (h.lt u hm) d
    ·have:i=(lo+hi) / 2:=by omega
     subst this;exact d
   ·rw [if_neg d]
    refine V6 h fuel _ _ (by omega) (by omega) (by omega) a λi z w=>?_
    rcases Nat.lt_or_ge ((lo+hi) / 2) i with u | u
    ·have:=h.lt u z;omega
    ·have:i=(lo+hi) / 2:=by omega
     subst this;omega
  ·rw [if_neg c]
   have e:lo=hi:=by omega
   subst e
   exact ⟨le2,a,b⟩
theorem U0 {xs:Array Nat} (h:Rise xs) (j:Nat):SetTable.below xs j<=xs.size/\(∀ i (z:i<xs.size),i<SetTable.below xs j->xs[i]<j)/\∀ i (z:i<xs.size),SetTable.below xs j<=i->j<=xs[i]:=
 V6 h xs.size 0 xs.size (by omega) (Nat.zero_le _) (Nat.le_refl _) (λi _ w=>absurd w (Nat.not_lt_zero _)) λi z w=>by omega
theorem a4u {xs:Array Nat} (h:Rise xs) {i:Nat} (hi:i<xs.size):SetTable.below xs (xs[i]+1)=i+1:=by
 obtain ⟨a,b,c⟩:=U0 h (xs[i]+1)
 generalize SetTable.below xs (xs[i]+1)=k at a b c
 rcases Nat.lt_trichotomy k (i+1) with u | u | u
 ·have:=c i hi (by omega);omega
 ·exact u
 ·have z:i+1<xs.size:=by omega
  have:=b (i+1) z u
  have:xs[i]<xs[i+1]:=h.lt (Nat.lt_succ_self i) z
  omega
theorem a3o {xs:Array Nat} (h:Rise xs):SetTable.below xs 0=0:=by
 obtain ⟨a,b,c⟩:=U0 h 0
 rcases Nat.eq_zero_or_pos (SetTable.below xs 0) with u | u
 ·exact u
 ·have:=b 0 (by omega) u;omega
theorem a2c {xs:Array Nat} (h:Rise xs) {j:Nat} (n:xs[SetTable.below xs j]?≠some j):Rise (SetTable.insertAt xs (SetTable.below xs j) j):=by
 obtain ⟨a,b,c⟩:=U0 h j
 unfold Rise
 rw [SetTable.toList_insertAt,List.pairwise_append,List.pairwise_cons]
 refine ⟨List.Pairwise.sublist (List.take_sublist _ _) h,⟨λy hy=>?_,List.Pairwise.sublist (List.drop_sublist _ _) h⟩,λx hx y hy=>?_⟩
 ·obtain ⟨k,hk,rfl⟩:=List.mem_iff_getElem.mp hy
  rw [List.length_drop,Array.length_toList] at hk
  have hz:SetTable.below xs j+k<xs.size:=by omega
  rw [List.getElem_drop,Array.getElem_toList]
  have h1:=c _ hz (Nat.le_add_right _ _)
  rcases Nat.eq_zero_or_pos k with rfl | kp
  ·rcases Nat.lt_or_eq_of_le h1 with u | u
   ·exact u
   ·refine absurd ?_ n
    rw [Array.getElem?_eq_getElem (by omega)]
    exact congrArg some u.symm
  ·have z0:SetTable.below xs j<xs.size:=by omega
   have:=c _ z0 (Nat.le_refl _)
   have:=h.lt (show SetTable.below xs j<SetTable.below xs j+k by omega) hz
   omega
 ·have hxj:x<j:=by
   obtain ⟨k,hk,rfl⟩:=List.mem_iff_getElem.mp hx
   rw [List.length_take,Array.length_toList] at hk
   rw [List.getElem_take,Array.getElem_toList]
   exact b _ (by omega) (by omega)
  rcases List.mem_cons.mp hy with rfl | hy
  ·exact hxj
  ·obtain ⟨k,hk,rfl⟩:=List.mem_iff_getElem.mp hy
   rw [List.length_drop,Array.length_toList] at hk
   rw [List.getElem_drop,Array.getElem_toList]
   have:=c _ (show SetTable.below xs j+k<xs.size by omega) (Nat.le_add_right _ _)
   omega
structure TbHt (t:SetTable):Prop where
 nd:t.dummies=#[]
 up:t.plain=true->Rise t.place
theorem a2q (j:Nat):SetTable.has #[] j=false:=by simp [SetTable.has]
theorem a2u {t:SetTable} (h:t.dummies=#[]) (f:Nat->Int) (x:Int):∀ (n:Nat) (p:SetTable.Probe) (j:Nat) (d:Option Nat),p.dummy=none->SetTable.probe.go t f x n p=some (.empty j d)->d=none/\t.slot j=.empty
 | 0,p,j,d,_,e=>by unfold SetTable.probe.go at e;cases e
 | n+1,p,j,d,pd,e=>by
  unfold SetTable.probe.go at e
  have ad:∀ q:SetTable.Probe,(t.advance q).dummy=q.dummy:=λq=>by
   unfold SetTable.advance
   split <;> rfl
  cases hs:t.slot p.j with
  | empty=>
   rw [hs] at e
   simp only [Option.some.injEq,SetTable.Met.empty.injEq] at e
   obtain ⟨rfl,rfl⟩:=e
   exact ⟨pd,hs⟩
  | dummy=>
   unfold SetTable.slot at hs
   rw [h] at hs
   dsimp only at hs
   split at hs
   ·cases hs
   ·rw [a2q] at hs;simp at hs
  | live i=>
   rw [hs] at e
   dsimp only at e
   split at e
   ·cases e
   ·exact a2u h f x n _ j d ((ad p).trans pd) e
theorem b5r {t:SetTable} (h:t.dummies=#[]) {x:Int} {j:Nat} {b:Bool} (e:t.freeSlot x=some (j,b)):t.slot j=.empty:=by
 unfold SetTable.freeSlot SetTable.probe at e
 split at e
 ·rename_i jj dd eq
  obtain ⟨rfl,q⟩:=a2u h _ _ _ _ _ _ rfl eq
  simp only [Option.getD_none,Option.some.injEq,Prod.mk.injEq] at e
  rw [<- e.1];exact q
 ·cases e
theorem b50 {t:SetTable} {j:Nat} (h:t.slot j=.empty):t.place[SetTable.below t.place j]?≠some j:=λe=>by
 unfold SetTable.slot at h
 dsimp only at h
 rw [e] at h
 simp at h
theorem TbHt.stand (t:SetTable) (n:Nat):TbHt (t.standIn n):=⟨rfl,λh=>by cases h⟩
theorem TbHt.put {t:SetTable} (h:TbHt t) {j:Nat} (e:t.slot j=.empty):TbHt (t.put j).1:=by
 refine ⟨?_,λp=>?_⟩
 ·unfold SetTable.put
  dsimp only
  rw [h.nd,a2q];rfl
 ·exact a2c (h.up p) (b50 e)
theorem TbHt.lay {t:SetTable} (h:TbHt t) (es:Array (Int×Value)) (x:Int) (v:Value):TbHt (layNew t es x v).2.1/\(layNew t es x v).2.1.led=t.led:=by
 unfold layNew
 split
 ·rename_i slot wd e
  have hp:=h.put (b5r h.nd e)
  dsimp only
  unfold SetTable.orStandIn
  split
  ·exact ⟨hp,rfl⟩
  ·exact ⟨.stand _ _,rfl⟩
 ·exact ⟨.stand _ _,rfl⟩
theorem a3s (n:Nat) (f:Nat->Option (Nat×Nat)) (hf:∀ j p,f j=some p->p.1=j):(((List.range n).filterMap f).map (·.1)).Pairwise (· < ·):=by
 rw [List.pairwise_map]
 refine List.Pairwise.filterMap f (R:=λa b=>a<b) (λa b hab x hx y hy=>?_) List.pairwise_lt_range
 rw [hf a x hx,hf b y hy]
 exact hab
theorem TbHt.relay {t:SetTable} (h:TbHt t) (es:Array (Int×Value)) (m:Nat):TbHt (relayAll t es m).2.1/\(relayAll t es m).2.1.led=t.led:=by
 unfold relayAll
 split
 ·rename_i t' ord e
  dsimp only
  unfold SetTable.relaid SetTable.laid at e
  simp only [Option.bind_eq_bind,Option.bind_eq_some_iff,Option.pure_def,Option.some.injEq,Prod.mk.injEq] at e
  obtain ⟨ow,_,rfl,_⟩:=e
  split
  ·refine ⟨⟨rfl,λ_=>?_⟩,rfl⟩
   show Rise _
   unfold Rise
   dsimp only
   refine a3s _ _ λj p q=>?_
   rw [Option.map_eq_some_iff] at q
   obtain ⟨_,_,rfl⟩:=q
   rfl
  ·exact ⟨.stand _ _,rfl⟩
 ·exact ⟨.stand _ _,rfl⟩
theorem TbHt.unplain {t:SetTable} (h:TbHt t):TbHt { t with plain:=false }:=⟨h.nd,λz=>by cases z⟩
theorem TbHt.fresh (f m:Nat) (l:Bool):TbHt (SetTable.fresh f m l):=⟨rfl,λ_=>by unfold Rise SetTable.fresh;exact .nil⟩
section
variable {prog:Program} {w:World} {K:Type} [DecidableEq K] {knd:KeyKind prog w K} {A:Around} {E:Value->Shared->Prop} {s:Shared}
noncomputable def j4 (w:World):Bool:=w.params.followText "set-order"
def a72 (knd:KeyKind prog w K) (o:Obj) (S:K->Bool) (n:Nat) (es:Array (Int×Value)) (ep:Nat) (t:SetTable):Prop:=
 o.ExactSet/\o.data=.set es ep t/\ElemsOf knd es.toList/\(∀ k,S k=true↔∃ e∈es.toList,knd.is k e.2=true)/\es.size<scanBound/\t.fits es.size=true/\es.size=n/\TbHt t/\t.led=!j4 w
def SetL (knd:KeyKind prog w K) (h:Heap) (a:Addr) (S:K->Bool) (n:Nat):Prop:=∃ o es ep t,h.get? a=some o/\a72 knd o S n es ep t
theorem SetL.cg {h:Heap} {a:Addr} {S S':K->Bool} {n n':Nat} (x:SetL knd h a S n) (e:∀ k,S k=S' k) (f:n=n'):SetL knd h a S' n':=by
 have:S=S':=funext e
 subst this;subst f;exact x
theorem SetL.mv {h h':Heap} {a:Addr} {S:K->Bool} {n:Nat} (x:SetL knd h a S n) (e:∀ o,h.get? a=some o->h'.get? a=some o):SetL knd h' a S n:=
 let ⟨o,es,ep,t,ho,r⟩:=x;⟨o,es,ep,t,e o ho,r⟩
theorem a1y {h:Heap} {a:Addr} {o:Obj} {es:Array (Int×Value)} {ep:Nat} {t:SetTable} (ho:h.get? a=some o) (hex:o.ExactSet) (hd:o.data=.set es ep t) {es':Array (Int×Value)} {t':SetTable} {S':K->Bool}
  (r:ElemsOf knd es'.toList/\(∀ k,S' k=true↔∃ e∈es'.toList,knd.is k e.2=true)/\es'.size<scanBound/\t'.fits es'.size=true/\TbHt t'/\t'.led=!j4 w) :
  ∃ o',(h.update a (Obj.putSet es' t')).get? a=some o'/\a72 knd o' S' es'.size es' (ep+1) t':=by
 obtain ⟨g,_⟩:=SetOf_store (knd:=knd) ho hex hd r.1 r.2.1 r.2.2.1 r.2.2.2.1
 exact ⟨_,g,hex,rfl,r.1,r.2.1,r.2.2.1,r.2.2.2.1,rfl,r.2.2.2.2⟩
theorem Y4 {a:Addr} {o:Obj} {es:Array (Int×Value)} {ep:Nat} {t:SetTable} (ho:s.heap.get? a=some o) (hex:o.ExactSet) (hd:o.data=.set es ep t) {g:Bool->Sem Unit}
  (hg:∀ (b:Bool) (u:Shared) (R:Unit->Shared->Prop),R () u->wpAny (model prog w) A (g b) R E u) {es1:Array (Int×Value)} {t2:SetTable} {S':K->Bool}
  (r:ElemsOf knd es1.toList/\(∀ k,S' k=true↔∃ e∈es1.toList,knd.is k e.2=true)/\es1.size<scanBound/\t2.fits es1.size=true/\TbHt t2/\t2.led=!j4 w) {wd:Bool} {R:Option Bool->Shared->Prop}
  (q:∀ h',Heap.SameBut a s.heap h'->SetL knd h' a S' es1.size->R (some true) { s with heap:=h' }) :
  wpAny (model prog w) A (storeSet a es1 t2 >>= λ_=>if (!wd&&t2.tooFull)=true then (g (relayAll t2 es1 (SetTable.grown es1.size)).2.2 >>= λ_=>storeSet a (relayAll t2 es1 (SetTable.grown es1.size)).1 (relayAll t2 es1 (SetTable.grown es1.size)).2.1 >>= λ_=>pure (some true)) else pure (some true)) R E s:=by
 refine wpAny_bind (wpAny_storeSet_of ho hd ?_ (fits_of_scanBound r.2.2.1))
 obtain ⟨o1,ho1,x1⟩:=a1y (S':=S') ho hex hd r
 have b1:=Heap.SameBut.update s.heap a (Obj.putSet es1 t2)
 split
 ·have p:=relayAll_perm t2 es1 (SetTable.grown es1.size)
  have f:=relayAll_fits t2 es1 (SetTable.grown es1.size)
  have tb:=r.2.2.2.2.1.relay es1 (SetTable.grown es1.size)
  generalize relayAll t2 es1 (SetTable.grown es1.size)=Z at p f tb ⊢
  obtain ⟨es2,t3,gv⟩:=Z
  dsimp only at p f tb ⊢
  have sz:es2.size=es1.size:=by
   have:=p.length_eq
   rwa [Array.length_toList,Array.length_toList] at this
  have z2:es2.size<scanBound:=sz▸r.2.2.1
  refine wpAny_bind (hg _ _ _ (wpAny_bind (wpAny_storeSet_of ho1 x1.2.1 ?_ (fits_of_scanBound z2))))
  obtain ⟨o2,ho2,x2⟩:=a1y (S':=S') ho1 x1.1 x1.2.1 (es':=es2) (t':=t3) ⟨r.1.perm p,λk=>(r.2.1 k).trans ⟨λ⟨e,he,z⟩=>⟨e,p.mem_iff.mpr he,z⟩,λ⟨e,he,z⟩=>⟨e,p.mem_iff.mp he,z⟩⟩,z2,f,tb.1,tb.2.trans r.2.2.2.2.2⟩
  exact wpAny_pure (q _ (b1.trans (Heap.SameBut.update _ a _)) (SetL.cg ⟨o2,_,_,_,ho2,x2⟩ (λ_=>rfl) sz))
 ·exact wpAny_pure (q _ b1 ⟨o1,_,_,_,ho1,x1⟩)
theorem c0s {a:Addr} {S:K->Bool} {n:Nat} {k:K} {x:Value} {Q:Bool->Shared->Prop} (hk:knd.is k x=true) (hx:x.scannable=true) (hS:SetL knd s.heap a S n) (hr:n+1<scanBound)
  (q:∀ h',Heap.SameBut a s.heap h'->SetL knd h' a (λk'=>S k'||decide (k'=k)) (if S k then n else n+1)->Q (!S k) { s with heap:=h' }):wpAny (model prog w) A (setAddHashed a x (knd.hash k)) Q E s:=by
 obtain ⟨o,es,ep,t,ho,hex,hd,hel,hm,hb,hf,hn,tb,ld⟩:=hS
 unfold setAddHashed setAddHashedIn
 refine wpAny_holding (wpAny_bind (wpAny_setState_of ho hd hf ?_))
 dsimp only
 rw [byScan_of hx hb hel,if_pos rfl]
 unfold setAddByScan
 refine wpAny_bind (wpAny_bind (wpAny_rule (wpAny_bind (wpAny_setScan_of hk ho hd hf hel ?_))))
 cases fi:List.findIdx? (λe=>knd.is k e.2) es.toList with
 | some j=>
  obtain ⟨hj,hp,_⟩:=List.findIdx?_eq_some_iff_getElem.mp fi
  have yes:S k=true:=(hm k).mpr ⟨es.toList[j],List.getElem_mem hj,hp⟩
  refine wpAny_pure (wpAny_pure ?_)
  have z:=q s.heap (Heap.SameBut.refl a s.heap) (SetL.cg ⟨o,es,ep,t,ho,hex,hd,hel,hm,hb,hf,hn,tb,ld⟩ (λk'=>by
   by_cases e:k'=k
   ·subst e;rw [yes];rfl
   ·simp [e]) (by rw [if_pos yes]))
  rw [yes] at z
  exact z
 | none=>
  have no:S k=false:=by
   cases hc:S k with
   | false=>rfl
   | true=>
    obtain ⟨e,he,hp⟩:=(hm k).mp hc
    have:=List.findIdx?_eq_none_iff.mp fi e he
    rw [hp] at this;cases this
  have gw:∀ (b:Bool) (u:Shared) (R:Unit->Shared->Prop),R () u->wpAny (model prog w) A (match b with | true=>rule "set.scan.the-table-gave-way" | false=>pure ()) R E u:=λb u R z=>by
   cases b
   ·exact wpAny_pure z
   ·exact wpAny_rule z
  have p:=layNew_perm t es (knd.hash k) x
  have f:=layNew_fits t es (knd.hash k) x
  have l:=tb.lay es (knd.hash k) x
  dsimp only
  generalize layNew t es (knd.hash k) x=L at p f l ⊢
  obtain ⟨es1,t1,wd,gave⟩:=L
  dsimp only at p f l ⊢
  rw [Array.toList_push] at p
  have sz:es1.size=n+1:=by
   have:=p.length_eq
   rw [List.length_append,Array.length_toList,Array.length_toList,hn] at this
   exact this
  have end_:∀ h',Heap.SameBut a s.heap h'->SetL knd h' a (λk'=>S k'||decide (k'=k)) es1.size->Q true { s with heap:=h' }:=λh' z y=>by
   have:=q h' z
   rw [no] at this
   exact this (SetL.cg y (λ_=>rfl) sz)
  have r0:ElemsOf knd es1.toList:=(hel.push hk hx).perm p
  have r1:=mem_push_iff hk hm p
  refine wpAny_bind (gw _ _ _ ?_)
  split
  ·rw [hashByValue_scannable 8 hx]
   refine wpAny_bind (m:=pure (plainKind x)) (wpAny_pure ?_)
   refine Y4 ho hex hd (λb u R z=>by cases b <;> first | exact wpAny_pure z | exact wpAny_rule z) ⟨r0,r1,by rw [sz];exact hr,?_,?_,?_⟩ λh' z y=>wpAny_pure (end_ h' z y)
   ·split
    ·exact f
    ·exact SetTable.fits_plain_off f
   ·split
    ·exact l.1
    ·exact l.1.unplain
   ·split <;> exact l.2.trans ld
  ·refine wpAny_bind (wpAny_pure ?_)
   rw [if_pos rfl]
   exact Y4 ho hex hd (λb u R z=>by cases b <;> first | exact wpAny_pure z | exact wpAny_rule z) ⟨r0,r1,by rw [sz];exact hr,f,l.1,l.2.trans ld⟩ λh' z y=>wpAny_pure (end_ h' z y)
end
section
variable {K:Type} [DecidableEq K]
noncomputable def metKHt (f:Nat->K):Nat->List K
 | 0=>[]
 | i+1=>if f i∈metKHt f i then metKHt f i else metKHt f i++[f i]
theorem a4v (f:Nat->K) (i:Nat):metKHt f (i+1)=if f i∈metKHt f i then metKHt f i else metKHt f i++[f i]:=rfl
theorem metK_le (f:Nat->K):∀ i,(metKHt f i).length<=i
 | 0=>Nat.le_refl _
 | i+1=>by
  have:=metK_le f i
  unfold metKHt
  split
  ·omega
  ·rw [List.length_append];show _+1<=_;omega
theorem metK_nd (f:Nat->K):∀ i,(metKHt f i).Nodup
 | 0=>.nil
 | i+1=>by
  have:=metK_nd f i
  unfold metKHt
  split
  ·exact this
  ·rename_i c
   rw [List.nodup_append]
   exact ⟨this,by simp,λa ha b hb e=>c (by rw [List.mem_singleton] at hb;rw [<- hb,<- e];exact ha)⟩
theorem metK_mem (f:Nat->K) (k:K):∀ i,k∈metKHt f i↔∃ j,j<i/\f j=k
 | 0=>by simp [metKHt]
 | i+1=>by
  have ih:=metK_mem f k i
  have e:k∈metKHt f (i+1)↔(k∈metKHt f i\/k=f i):=by
   rw [a4v]
   split
   ·rename_i c
    exact ⟨.inl,λz=>z.elim id λz=>z▸c⟩
   ·rw [List.mem_append,List.mem_singleton]
  rw [e,ih]
  constructor
  ·rintro (⟨j,a,b⟩ | rfl)
   ·exact ⟨j,by omega,b⟩
   ·exact ⟨i,by omega,rfl⟩
  ·rintro ⟨j,a,b⟩
   rcases Nat.lt_or_ge j i with u | u
   ·exact .inl ⟨j,u,b⟩
   ·have:j=i:=by omega
    subst this;exact .inr b.symm
end
section
variable {prog:Program} {w:World} {K:Type} [DecidableEq K] {knd:KeyKind prog w K} {A:Around} {R:Result->Shared->Prop} {I:Addr} {fp wr:List Addr} {G:Array GenState->Array GenState->Prop} {n:Nat} {P:Nat->Value->Prop} {St:Nat->Shared->Prop}
noncomputable def J7 (l:List K) (k:K):Bool:=decide (k∈l)
theorem b97 (W:WalksS prog w A.in1 I fp wr G n P St) (B:Addr) (nB:B∉fp) (f:Nat->K) (hf:∀ i v,P i v->knd.is (f i) v=true/\v.scannable=true) (hb:n+1<scanBound) :
  ∀ (k i:Nat) (s:Shared),n-i=k->i<=n->St i s->SetL knd s.heap B (J7 (metKHt f i)) (metKHt f i).length ->
   (∀ z,Moved (B :: wr) G s z->SetL knd z.heap B (J7 (metKHt f n)) (metKHt f n).length->R (.ok (.ret .none)) z)->codeAny (model prog w) A (.builtin "set.update.loop" ⟨[.ref B,.ref I],[]⟩) R s:=by
 have nw:B∉wr:=λh=>nB (W.sub _ h)
 have sb:∀ b∈wr,b∈B :: wr:=λb hb=>List.mem_cons_of_mem _ hb
 intro k
 induction k with
 | zero=>
  intro i s e1 e2 st hS q
  obtain rfl:i=n:=by omega
  refine codeAny_builtin PyProof.Rows.F.entry_set_update_loop ?_
  rw [Around.under_plainId PyProof.Rows.F.plain_set_update_loop _]
  show wpAny _ A.in1 (pyNext (.ref I) >>= _) _ _ s
  refine wpAny_bind (W.done s _ _ st λz m=>?_)
  show wpAny _ A.in1 (ret Value.none) _ _ z
  exact wpAny_pure (q z (m.mono sb) (hS.mv λo=>m.heap B o nw))
 | succ k ih=>
  intro i s e1 e2 st hS q
  have lt:i<n:=by omega
  refine codeAny_builtin PyProof.Rows.F.entry_set_update_loop ?_
  rw [Around.under_plainId PyProof.Rows.F.plain_set_update_loop _]
  show wpAny _ A.in1 (pyNext (.ref I) >>= _) _ _ s
  refine wpAny_bind (W.item i s _ _ lt st λv z hP st2 m=>?_)
  obtain ⟨h1,h2⟩:=hf i v hP
  have hS2:=hS.mv λo=>m.heap B o nw
  show wpAny _ A.in1 (holding [v] (setAdd B v) >>= _) _ _ z
  unfold setAdd
  refine wpAny_bind (wpAny_holding (wpAny_holding (wpAny_bind (knd.pyHash h1 ?_))))
  refine c0s (s:={ z with toks:=z.toks+1 }) h1 h2 hS2 (by have:=metK_le f i;omega) λg sm hS3=>?_
  have hS4:SetL knd g B (J7 (metKHt f (i+1))) (metKHt f (i+1)).length:=hS3.cg (λk'=>by
   rw [a4v]
   unfold J7
   by_cases c:f i∈metKHt f i
   ·rw [if_pos c]
    by_cases d:k'=f i
    ·subst d;simp [c]
    ·simp [d]
   ·rw [if_neg c]
    simp only [List.mem_append,List.mem_singleton,Bool.decide_or]) (by
   rw [a4v]
   unfold J7
   by_cases c:f i∈metKHt f i
   ·rw [if_pos (by simpa using c),if_pos c]
   ·rw [if_neg (by simpa using c),if_neg c,List.length_append];rfl)
  refine wpAny_pure ⟨plainId_quiet PyProof.Rows.F.plain_set_update_loop _,ih (i+1) _ (by omega) lt (W.frame _ z _ _ st2 (Nat.le_succ _) λb hb o e=>?_) hS4 λz2 m2 hS5=>?_⟩
  ·rw [sm.2 b (λh:b=B=>nB (h▸hb))];exact e
  ·refine q z2 (Moved.trans W.gtrans ((m.mono sb).then_heap (Nat.le_succ _) λb o hb e=>?_) m2) hS5
   rw [sm.2 b (λh:b=B=>hb (h▸List.mem_cons_self))];exact e
end
section
variable {prog:Program} {w:World} {K:Type} [DecidableEq K] {knd:KeyKind prog w K} {A:Around} {E:Value->Shared->Prop} {s:Shared}
def D7 (knd:KeyKind prog w K) (f:Nat->K) (n:Nat) (s:Shared) (g:Heap):Prop:=SetL knd g s.heap.objs.size (J7 (metKHt f n)) (metKHt f n).length/\∀ b o,b<s.heap.objs.size->s.heap.get? b=some o->g.get? b=some o
theorem a4i (h:Heap):SetL knd (h.push (o0 (!j4 w))) h.objs.size (J7 (metKHt (K:=K) f 0)) 0:=
 ⟨_,#[],0,_,Heap.get?_push_size _ rfl,⟨rfl,rfl,rfl⟩,rfl,λe he=>by simp at he,λk=>by simp [J7,metKHt],by decide,rfl,rfl,TbHt.fresh _ _ _,rfl⟩
theorem b38 {a:Addr} {its:Array Value} (f:Nat->K) (hh:A.handled=none) (hl:s.heap.IsTuple a its\/s.heap.IsList a its) (hf:∀ i v,its[i]?=some v->knd.is (f i) v=true/\v.scannable=true) (hb:its.size+1<scanBound) (P:Fin->Shared->Prop) (E':Value->Shared->Prop)
  (h:∀ (g:Heap) (tk:Nat),D7 knd f its.size s g->P (.done (.ret .none)) { s with heap:=g,toks:=tk }) :
  wpAny (model prog w) A (Builtin.«set.__init__» ⟨[.ref s.heap.objs.size,.ref a],[]⟩) P E' { s with heap:=s.heap.push (o0 (!j4 w)) }:=by
 have gS:(s.heap.push (o0 (!j4 w))).get? s.heap.objs.size=some (o0 (!j4 w)):=Heap.get?_push_size _ rfl
 have fin:∀ (iv:Obj) (fp wr:List Addr) (St:Nat->Heap->Prop) (W:Walks prog w A.in1 (s.heap.objs.size+1) fp wr its.size (λi v=>its[i]?=some v) St),wr=[s.heap.objs.size+1]->s.heap.objs.size∉fp->St 0 ((s.heap.push (o0 (!j4 w))).push iv)->codeAny (model prog w) A (.builtin "set.update.loop" ⟨[.ref s.heap.objs.size,.ref (s.heap.objs.size+1)],[]⟩) (λr z=>∃ g tk,r=.ok (.ret .none)/\z={ s with heap:=g,toks:=tk }/\D7 knd f its.size s g) { s with heap:=(s.heap.push (o0 (!j4 w))).push iv }:=λiv fp wr St W ew nS st=>by
  subst ew
  refine b97 (knd:=knd) W.toS s.heap.objs.size nS f hf hb (its.size-0) 0 _ (by omega) (Nat.zero_le _) st ?_ ?_
  ·exact (a4i (knd:=knd) (f:=f) s.heap).mv λo e=>Heap.get?_push_of_some _ e
  ·rintro ⟨g,gn,dr,tk,os⟩ mv hS
   have z1:gn=s.gens:=mv.gens
   have z2:dr=s.drawn:=mv.drawn
   have z3:os=s.os:=mv.os
   subst z1 z2 z3
   refine ⟨g,tk,rfl,rfl,hS,λb o hb e=>mv.heap b o ?_ (Heap.get?_push_of_some _ (Heap.get?_push_of_some _ e))⟩
   simp only [List.mem_cons,List.not_mem_nil,or_false,not_or]
   exact ⟨Nat.ne_of_lt hb,Nat.ne_of_lt (Nat.lt_succ_of_lt hb)⟩
 have h3:A.in1.handled=none:=by simp [hh]
 have ez:(s.heap.push (o0 (!j4 w))).objs.size=s.heap.objs.size+1:=Heap.size_push _ _
 have last:∀ (iv:Obj),codeAny (model prog w) A (.builtin "set.update.loop" ⟨[.ref s.heap.objs.size,.ref (s.heap.objs.size+1)],[]⟩) (λr z=>∃ g tk,r=.ok (.ret .none)/\z={ s with heap:=g,toks:=tk }/\D7 knd f its.size s g) { s with heap:=(s.heap.push (o0 (!j4 w))).push iv } ->
   wpAny (model prog w) A (runValue (.builtin "set.update.loop" ⟨[.ref s.heap.objs.size,.ref (s.heap.objs.size+1)],[]⟩) >>= λ_=>pure ()) (λ_ z=>wpAny (model prog w) A (ret Value.none) P E' z) E' { s with heap:=(s.heap.push (o0 (!j4 w))).push iv }:=λiv z=>by
  refine wpAny_bind (wpAny_runValue (codeAny_mono z λr y ⟨g,tk,e1,e2,e3⟩=>?_))
  subst e1 e2
  exact wpAny_pure (wpAny_pure (h g tk e3))
 rcases hl with hl | hl
 ·obtain ⟨ob,eo,ec,n,ed⟩:=hl
  obtain ⟨cls,dict,data,slots⟩:=ob
  dsimp only at ec ed
  subst ec ed
  have e1:=Heap.get?_push_of_some (o0 (!j4 w)) eo
  have t1:(s.heap.push (o0 (!j4 w))).IsTuple a its:=⟨_,e1,rfl,n,rfl⟩
  have lt:=Heap.lt_size eo
  have q1:=F.sub_tuple_set
  have q2:=F.sub_tuple_frozenset
  have q3:(Value.type "tuple" == Value.type "dict")=false:=by decide
  unfold Builtin.«set.__init__» noKeywords Builtin.Frozenset.updateFrom
  generalize hp:pyIter=pI
  wp_walk
  subst hp
  refine wpAny_pyIter_tuple t1 ?_
  show wpAny _ _ (runValue (.builtin "set.update.loop" ⟨[.ref s.heap.objs.size,.ref (s.heap.push (o0 (!j4 w))).objs.size],[]⟩) >>= λ_=>pure ()) _ _ { s with heap:=(s.heap.push (o0 (!j4 w))).push _ }
  rw [ez]
  have ne:a≠s.heap.objs.size+1:=Nat.ne_of_lt (Nat.lt_succ_of_lt lt)
  refine last _ (fin _ _ _ _ (Walks.tuple h3 _ a ne its) rfl ?_ ⟨⟨_,ez▸Heap.get?_push_size _ rfl,rfl,rfl⟩,t1.push _⟩)
  simp only [List.mem_cons,List.not_mem_nil,or_false,not_or]
  exact ⟨Nat.ne_of_lt (Nat.lt_succ_self _),Nat.ne_of_gt lt⟩
 ·obtain ⟨ob,eo,ec,n,ed⟩:=hl
  obtain ⟨cls,dict,data,slots⟩:=ob
  dsimp only at ec ed
  subst ec ed
  have e1:=Heap.get?_push_of_some (o0 (!j4 w)) eo
  have t1:(s.heap.push (o0 (!j4 w))).IsList a its:=⟨_,e1,rfl,n,rfl⟩
  have lt:=Heap.lt_size eo
  have q1:=PySem.F.sub_list_set
  have q2:=PySem.F.sub_list_frozenset
  have q3:(Value.type "list" == Value.type "dict")=false:=by decide
  unfold Builtin.«set.__init__» noKeywords Builtin.Frozenset.updateFrom
  generalize hp:pyIter=pI
  wp_walk
  subst hp
  refine wpAny_pyIter_list t1 ?_
  show wpAny _ _ (runValue (.builtin "set.update.loop" ⟨[.ref s.heap.objs.size,.ref (s.heap.push (o0 (!j4 w))).objs.size],[]⟩) >>= λ_=>pure ()) _ _ { s with heap:=(s.heap.push (o0 (!j4 w))).push _ }
  rw [ez]
  have ne:a≠s.heap.objs.size+1:=Nat.ne_of_lt (Nat.lt_succ_of_lt lt)
  refine last _ (fin _ _ _ _ (Walks.list h3 _ a ne its) rfl ?_ ⟨⟨_,ez▸Heap.get?_push_size _ rfl,rfl,rfl⟩,t1.push _⟩)
  simp only [List.mem_cons,List.not_mem_nil,or_false,not_or]
  exact ⟨Nat.ne_of_lt (Nat.lt_succ_self _),Nat.ne_of_gt lt⟩
theorem b9z (a:Value) {Q:Value->Shared->Prop} (h:Q (.ref s.heap.objs.size) { s with heap:=s.heap.push (o0 (!j4 w)) }):codeAny (model prog w) A (.call (.builtin "set.__new__") ⟨[.type "set",a],[]⟩) (wants Q E) s:=by
 refine codeAny_of_tree ?_
 show wpAny _ A.in1 (checkBuiltinCall "set.__new__" ⟨[.type "set",a],[]⟩ >>= λ_=>again (.builtin "set.__new__" ⟨[.type "set",a],[]⟩)) _ _ s
 refine wpAny_bind (wpAny_of_eq (PySem.F.newCall_set_1 a) (wpAny_pure ⟨plainId_quiet PySem.F.plain_set_new _,codeAny_builtin PySem.F.entry_set_new ?_⟩))
 rw [Around.under_plainId PySem.F.plain_set_new _]
 unfold Builtin.«set.__new__» Builtin.Frozenset.newClass
 have q:=sub_set_self
 obtain ⟨hp,g,d,tk,os⟩:=s
 dsimp only
 wp_walk
 refine wpAny_askSetting (wpAny_pure ?_)
 dsimp only
 simp only [newObj]
 exact wpAny_bind (wpAny_alloc (wpAny_pure (wpAny_pure h)))
theorem callLHt {a:Addr} {its:Array Value} (f:Nat->K) {Q:Value->Shared->Prop} (hh:A.handled=none) (hl:s.heap.IsTuple a its\/s.heap.IsList a its) (hf:∀ i v,its[i]?=some v->knd.is (f i) v=true/\v.scannable=true) (hb:its.size+1<scanBound)
  (h:∀ (g:Heap) (tk:Nat),D7 knd f its.size s g->Q (.ref s.heap.objs.size) { s with heap:=g,toks:=tk }):wpAny (model prog w) A (call (.type "set") [.ref a]) Q E s:=by
 obtain ⟨c,tl,m1⟩:=PySem.F.called_set.mro
 have m2:=PySem.F.called_set.made
 have m3:=PySem.F.called_set.sub
 refine wpAny_call (codeAny_of_tree ?_)
 show wpAny _ _ (callAny (.type "set") _) _ _ _
 refine wpAny_pure ⟨Code.quiet_builtin _ (by decide +kernel),codeAny_builtin PySem.F.entry_type_call ?_⟩
 rw [Around.under_plain (weight_type_call_type "set" [.ref a] []) rfl]
 have m4:=PySem.F.called_set.notType
 have m5:=PySem.F.called_set.canCreate
 have m6:=PySem.F.typeCall_set_1 (.ref a)
 repeat (any_goals (first | assumption | wp_step))
 refine codeAny_mono (b9z (.ref a) (E:=E) (Q:=λr z=>r=.ref s.heap.objs.size/\z={ s with heap:=s.heap.push (o0 (!j4 w)) }) ⟨rfl,rfl⟩) λr z hr=>?_
 match r,hr with
 | .error _,hr=>exact hr
 | .ok .next,hr=>exact hr.elim
 | .ok .brk,hr=>exact hr.elim
 | .ok .cont,hr=>exact hr.elim
 | .ok (.ret r),hr=>
  obtain ⟨rfl,rfl⟩:=hr
  have tT:Shared.TypeIs { s with heap:=s.heap.push (o0 (!j4 w)) } (.ref s.heap.objs.size) "set":=⟨_,Heap.get?_push_size _ rfl,rfl⟩
  have m7:=PySem.F.called_set.init.lookup
  have m8:=PySem.F.called_set.init.bind (.ref s.heap.objs.size)
  repeat (any_goals (first | assumption | wp_step))
  refine codeAny_mono (codeAny_call_builtin (R:=wants (λr z=>r=.none/\∃ g tk,z={ s with heap:=g,toks:=tk }/\D7 knd f its.size s g) E) PySem.F.called_set.init.plain PySem.F.entry_set_init (check_set_init_1 tT ?_)) λr z hr=>?_
  ·exact b38 f (by simp [hh]) hl hf hb _ _ λg tk hS=>⟨rfl,g,tk,rfl,hS⟩
  ·match r,hr with
   | .error _,hr=>exact hr
   | .ok .next,hr=>exact hr.elim
   | .ok .brk,hr=>exact hr.elim
   | .ok .cont,hr=>exact hr.elim
   | .ok (.ret r),hr=>
    obtain ⟨rfl,g,tk,rfl,hS⟩:=hr
    repeat (any_goals (first | assumption | wp_step))
    exact h _ _ hS
end
theorem si_slot:Slot "set_iterator" "__next__" "set_iterator.__next__":=by
 refine .of (owner:="set_iterator") (n:="__next__") ?_ (by decide +kernel) (by decide +kernel) (by decide +kernel) ?_ ?_
 ·rw [typeLookup_type,builtinLookup_eq_fast];kernel_rfl
 ·first | exact .inl (by decide +kernel) | exact .inr (by decide +kernel)
 ·rw [isSubtype_type];kernel_rfl
theorem M5:entryFor table "set_iterator.__next__" = some Builtin.«set_iterator.__next__»:=entryFor_of_tree (by kernel_rfl)
theorem a19:Manifest.owners.lookup (String.ofList ['r','o','t','a','r','e','t','i','_','t','e','s'].reverse)=some Manifest.sig_set_iterator:=by kernel_rfl
theorem R5 (a:Value):argsOk "set_iterator.__next__" ⟨[a],[]⟩:=by
 unfold argsOk
 rw [signature?_of (id:="set_iterator.__next__") (n:=['_','_','t','x','e','n','_','_']) (o:=['r','o','t','a','r','e','t','i','_','t','e','s']) (by kernel_rfl) a19]
 kernel_rfl
theorem b1x:entryFor table "set.__iter__" = some Builtin.«frozenset.__iter__»:=entryFor_alias (id':="frozenset.__iter__") (by kernel_rfl) rfl (by decide +kernel) (by kernel_rfl)
def SIt (h:Heap) (I a:Addr) (first:Value) (i n ep:Nat):Prop:=∃ o,h.get? I=some o/\o.cls=.type "set_iterator"/\o.data=.fields #[first,.int i 0,.ref a,.int n 0,.int ep 0]
theorem SIt.ty {s:Shared} {I a:Addr} {first:Value} {i n ep:Nat} (x:SIt s.heap I a first i n ep):s.TypeIs (.ref I) "set_iterator":=let ⟨o,ho,hc,_⟩:=x;⟨o,ho,hc⟩
section
variable {prog:Program} {w:World} {A:Around} {E:Value->Shared->Prop} {s:Shared}
theorem a4c {I a:Addr} {o:Obj} {es:Array (Int×Value)} {t:SetTable} {f g i n ep:Nat} {x:Value} {Q:Option Value->Shared->Prop} (hit:SIt s.heap I a (.int (f:Nat) 0) i n ep)
  (ho:s.heap.get? a=some o) (hd:o.data=.set es ep t) (hf:t.fits es.size=true) (hn:es.size=n)
  (hs:∀ (B:Around) (R:Option (Value×Nat)->Shared->Prop) (E:Value->Shared->Prop),R (some (x,g)) s->wpAny (model prog w) B (setNext a f i ep) R E s)
  (hQ:∀ h',SIt h' I a (.int (g:Nat) 0) (i+1) n ep->Heap.SameBut I s.heap h'->Q (some x) { s with heap:=h' }):wpAny (model prog w) A (pyNext (.ref I)) Q E s:=by
 obtain ⟨oi,h1,h2,h3⟩:=id hit
 unfold pyNext
 refine wpAny_bind (wpAny_attempt (wpAny_callSpecial?_slot (name:=Str.ofString "__next__") hit.ty si_slot (wpAny_call_entry si_slot hit.ty M5 ?_ (R5 _))))
 unfold Builtin.«set_iterator.__next__»
 refine wpAny_bind (wpAny_pure (wpAny_bind (wpAny_fieldsOf h1 h3 ?_)))
 show wpAny _ _ (setEntries a >>= _) _ _ s
 refine wpAny_bind (wpAny_setEntries_of ho hd hf ?_)
 rw [if_neg (by rw [hn];simp)]
 show wpAny _ _ (setNext a (f:Int).toNat (i:Int).toNat (ep:Int).toNat >>= _) _ _ s
 refine wpAny_bind (hs _ _ _ ?_)
 show wpAny _ _ (setField (.ref I) 0 (rawInt g) >>= _) _ _ s
 refine wpAny_bind (wpAny_setField h1 h3 (by simp) ?_)
 have h5:=Obj.data_mapFields h3 (·.setIfInBounds 0 (rawInt g))
 have h6:=Heap.get?_update_self (Obj.mapFields (·.setIfInBounds 0 (rawInt g))) h1 (Obj.isFreed_of_fields h5)
 refine wpAny_bind (wpAny_setField h6 h5 (by simp) ?_)
 have h7:=Obj.data_mapFields h5 (·.setIfInBounds 1 (rawInt ((i:Int)+1)))
 refine wpAny_pure ⟨_,rfl,wpAny_pure (hQ _ ⟨_,Heap.get?_update_self _ h6 (Obj.isFreed_of_fields h7),?_,?_⟩ ((Heap.SameBut.update ..).trans (Heap.SameBut.update ..)))⟩
 ·exact (Obj.cls_mapFields ..).trans ((Obj.cls_mapFields ..).trans h2)
 ·rw [h7];simp [rawInt]
theorem a0d {I:Addr} {o:Obj} {vs:Array Value} {k:Nat} {u:Value} {P:Fin->Shared->Prop} {F:Value->Shared->Prop} (hh:A.handled=none) (h1:s.heap.get? I=some o) (h3:o.data=.fields vs) (hk:k<vs.size)
  (q:∀ (e:Addr) (h':Heap),Heap.ExtBut I s.heap h'->Shared.TypeIs { s with heap:=h' } (.ref e) "StopIteration"->F (.ref e) { s with heap:=h' }) :
  wpAny (model prog w) A (setField (.ref I) k u >>= λ_=>(newExc (.type "StopIteration") [] >>= λe=>raiseNew e:Sem Fin)) P F s:=by
 refine wpAny_bind (wpAny_setField h1 h3 hk (wpAny_bind ?_))
 simp only [newExc,newTuple]
 refine wpAny_bind (wpAny_newObj_type ?_ (by size_fits))
 refine wpAny_bind (m:=firstArgMember _ _) (wpAny_of_eq (a:=Value.none) (by first | rfl | (simp only [firstArgMember];rfl)) (wpAny_newObj_type ?_ (by size_fits)))
 simp only [raiseNew]
 refine wpAny_bind (wpAny_handled ?_)
 rw [show A.handled=none from hh]
 refine wpAny_bind (wpAny_pure (wpAny_throw ?_))
 exact q _ _ (((Heap.SameBut.update ..).extBut.push _).push _) ⟨_,Heap.get?_push_size _ rfl,rfl⟩
theorem a74 {I a:Addr} {o:Obj} {es:Array (Int×Value)} {t:SetTable} {f i n ep:Nat} {Q:Option Value->Shared->Prop} (hh:A.handled=none) (hit:SIt s.heap I a (.int (f:Nat) 0) i n ep)
  (ho:s.heap.get? a=some o) (hd:o.data=.set es ep t) (hf:t.fits es.size=true) (hn:es.size=n)
  (hs:∀ (B:Around) (R:Option (Value×Nat)->Shared->Prop) (E:Value->Shared->Prop),R none s->wpAny (model prog w) B (setNext a f i ep) R E s)
  (hQ:∀ h',Heap.ExtBut I s.heap h'->Q none { s with heap:=h' }):wpAny (model prog w) A (pyNext (.ref I)) Q E s:=by
 obtain ⟨oi,h1,h2,h3⟩:=id hit
 unfold pyNext
 refine wpAny_bind (wpAny_attempt (wpAny_callSpecial?_slot (name:=Str.ofString "__next__") hit.ty si_slot (wpAny_call_entry si_slot hit.ty M5 ?_ (R5 _))))
 unfold Builtin.«set_iterator.__next__»
 refine wpAny_bind (wpAny_pure (wpAny_bind (wpAny_fieldsOf h1 h3 ?_)))
 show wpAny _ _ (setEntries a >>= _) _ _ s
 refine wpAny_bind (wpAny_setEntries_of ho hd hf ?_)
 rw [if_neg (by rw [hn];simp)]
 show wpAny _ _ (setNext a (f:Int).toNat (i:Int).toNat (ep:Int).toNat >>= _) _ _ s
 refine wpAny_bind (hs _ _ _ ?_)
 refine a0d (by simp [hh]) h1 h3 (by simp) λe h' x ty=>?_
 exact wpAny_bind (wpAny_isInstance (T:="StopIteration") (b:=true) ty isSubtype_stop (wpAny_pure (hQ _ x)))
theorem a34 {I a tp:Addr} {o ot:Obj} {es:Array (Int×Value)} {t:SetTable} {ps:List Nat} {c i n ep p:Nat} {hx:Int} {x:Value} {Q:Option Value->Shared->Prop} (hit:SIt s.heap I a (.ref tp) i n ep)
  (ho:s.heap.get? a=some o) (hd:o.data=.set es ep t) (hf:t.fits es.size=true) (hn:es.size=n) (ht:s.heap.get? tp=some ot) (htd:ot.data=.seq (ps.map λ(k:Nat)=>rawInt (k:Int)).toArray c)
  (hp:ps[i]?=some p) (he:es[p]?=some (hx,x))
  (hQ:∀ h',SIt h' I a (.ref tp) (i+1) n ep->Heap.SameBut I s.heap h'->Q (some x) { s with heap:=h' }):wpAny (model prog w) A (pyNext (.ref I)) Q E s:=by
 obtain ⟨oi,h1,h2,h3⟩:=id hit
 unfold pyNext
 refine wpAny_bind (wpAny_attempt (wpAny_callSpecial?_slot (name:=Str.ofString "__next__") hit.ty si_slot (wpAny_call_entry si_slot hit.ty M5 ?_ (R5 _))))
 unfold Builtin.«set_iterator.__next__»
 refine wpAny_bind (wpAny_pure (wpAny_bind (wpAny_fieldsOf h1 h3 ?_)))
 show wpAny _ _ (setEntries a >>= _) _ _ s
 refine wpAny_bind (wpAny_setEntries_of ho hd hf ?_)
 rw [if_neg (by rw [hn];simp)]
 show wpAny _ _ (seqItems? (.ref tp) >>= _) _ _ s
 refine wpAny_bind (wpAny_seqItems ht htd ?_)
 have e1:(ps.map λ(k:Nat)=>rawInt (k:Int)).toArray[((i:Int).toNat:Nat)]?=some (rawInt (p:Int)):=by
  rw [Int.toNat_natCast,List.getElem?_toArray,List.getElem?_map,hp];rfl
 dsimp only
 rw [e1]
 show wpAny _ _ (setNextDrawn a (p:Int).toNat (ep:Int).toNat >>= _) _ _ s
 unfold setNextDrawn
 refine wpAny_bind (wpAny_bind (wpAny_setState_of ho hd hf ?_))
 dsimp only
 rw [if_neg (by simp),Int.toNat_natCast,he]
 refine wpAny_pure ?_
 refine wpAny_bind (wpAny_setField h1 h3 (by simp) ?_)
 have h7:=Obj.data_mapFields h3 (·.setIfInBounds 1 (rawInt ((i:Int)+1)))
 refine wpAny_pure ⟨_,rfl,wpAny_pure (hQ _ ⟨_,Heap.get?_update_self _ h1 (Obj.isFreed_of_fields h7),?_,?_⟩ (Heap.SameBut.update ..))⟩
 ·exact (Obj.cls_mapFields ..).trans h2
 ·rw [h7];simp [rawInt]
theorem a7v {I a tp:Addr} {o ot:Obj} {es:Array (Int×Value)} {t:SetTable} {ps:List Nat} {c i n ep:Nat} {Q:Option Value->Shared->Prop} (hh:A.handled=none) (hit:SIt s.heap I a (.ref tp) i n ep)
  (ho:s.heap.get? a=some o) (hd:o.data=.set es ep t) (hf:t.fits es.size=true) (hn:es.size=n) (ht:s.heap.get? tp=some ot) (htd:ot.data=.seq (ps.map λ(k:Nat)=>rawInt (k:Int)).toArray c)
  (hp:ps[i]?=none)
  (hQ:∀ h',Heap.ExtBut I s.heap h'->Q none { s with heap:=h' }):wpAny (model prog w) A (pyNext (.ref I)) Q E s:=by
 obtain ⟨oi,h1,h2,h3⟩:=id hit
 unfold pyNext
 refine wpAny_bind (wpAny_attempt (wpAny_callSpecial?_slot (name:=Str.ofString "__next__") hit.ty si_slot (wpAny_call_entry si_slot hit.ty M5 ?_ (R5 _))))
 unfold Builtin.«set_iterator.__next__»
 refine wpAny_bind (wpAny_pure (wpAny_bind (wpAny_fieldsOf h1 h3 ?_)))
 show wpAny _ _ (setEntries a >>= _) _ _ s
 refine wpAny_bind (wpAny_setEntries_of ho hd hf ?_)
 rw [if_neg (by rw [hn];simp)]
 show wpAny _ _ (seqItems? (.ref tp) >>= _) _ _ s
 refine wpAny_bind (wpAny_seqItems ht htd ?_)
 have e1:(ps.map λ(k:Nat)=>rawInt (k:Int)).toArray[((i:Int).toNat:Nat)]?=none:=by
  rw [Int.toNat_natCast,List.getElem?_toArray,List.getElem?_map,hp];rfl
 dsimp only
 rw [e1]
 refine wpAny_bind (wpAny_setField h1 h3 (by simp) ?_)
 have h7:=Obj.data_mapFields h3 (·.setIfInBounds 0 (rawInt 0))
 have h8:=Heap.get?_update_self (Obj.mapFields (·.setIfInBounds 0 (rawInt 0))) h1 (Obj.isFreed_of_fields h7)
 refine a0d (by simp [hh]) h8 h7 (by simp) λe h' x ty=>?_
 exact wpAny_bind (wpAny_isInstance (T:="StopIteration") (b:=true) ty isSubtype_stop (wpAny_pure (hQ _ λb ob hb q=>x b ob hb ((Heap.SameBut.update s.heap I _).extBut b ob hb q))))
end
theorem a6a:Slot "set_iterator" "__iter__" "set_iterator.__iter__":=by
 refine .of (owner:="set_iterator") (n:="__iter__") ?_ (by decide +kernel) (by decide +kernel) (by decide +kernel) ?_ ?_
 ·rw [typeLookup_type,builtinLookup_eq_fast];kernel_rfl
 ·first | exact .inl (by decide +kernel) | exact .inr (by decide +kernel)
 ·rw [isSubtype_type];kernel_rfl
theorem b2u:entryFor table "set_iterator.__iter__" = some Builtin.«dict_keyiterator.__iter__»:=entryFor_alias (id':="dict_keyiterator.__iter__") (by kernel_rfl) rfl (by decide +kernel) (by kernel_rfl)
theorem b26 (a:Value):argsOk "set_iterator.__iter__" ⟨[a],[]⟩:=by
 unfold argsOk
 rw [signature?_of (id:="set_iterator.__iter__") (n:=['_','_','r','e','t','i','_','_']) (o:=['r','o','t','a','r','e','t','i','_','t','e','s']) (by kernel_rfl) a19]
 kernel_rfl
theorem N7 {α:Type}:∀ (l:List α) (i:Nat) (h:i<l.length),(l[i] :: l.eraseIdx i).Perm l
 | [],i,h=>by cases h
 | x :: l,0,h=>.refl _
 | x :: l,i+1,h=>by
  have z:i<l.length:=Nat.lt_of_succ_lt_succ h
  exact (List.Perm.swap x l[i] (l.eraseIdx i)).trans ((N7 l i z).cons x)
theorem a5p {α:Type} (f:Nat->Nat):∀ (n k:Nat) (l:List α) (out:Array α),n=l.length->(pickOrder.go f n k l out).toList.Perm (out.toList++l)
 | 0,k,l,out,e=>by
  have:l=[]:=List.length_eq_zero_iff.mp e.symm
  subst this
  unfold pickOrder.go
  simp
 | n+1,k,l,out,e=>by
  unfold pickOrder.go
  have z:f k % l.length<l.length:=Nat.mod_lt _ (by omega)
  rw [List.getElem?_eq_getElem z]
  dsimp only
  refine (a5p f n (k+1) _ _ (by rw [List.length_eraseIdx];split <;> omega)).trans ?_
  rw [Array.toList_push,List.append_assoc]
  refine List.Perm.append_left _ ?_
  exact N7 l _ z
theorem a7l {α:Type} (f:Nat->Nat) (xs:Array α):(pickOrder f xs).toList.Perm xs.toList:=by
 have:=a5p f xs.size 0 xs.toList #[] (by simp)
 unfold pickOrder
 simpa using this
section
variable {prog:Program} {w:World} {A:Around} {E:Value->Shared->Prop} {s:Shared}
theorem c2u {src:Source} {n:Nat} {Q:Nat->Shared->Prop} (hn:n≠0) (q:∀ k d,k<n->Q k { s with drawn:=d }):wpAny (model prog w) A (choose src n) Q E s:=
 λ_ _ _=>⟨hn,q _ _ (Nat.mod_lt _ (Nat.pos_of_ne_zero hn))⟩
theorem Z6 {α:Type}:∀ (n:Nat) (l:List α) (s:Shared) (Q:List α->Shared->Prop),n=l.length->(∀ ys d,ys.Perm l->Q ys { s with drawn:=d })->wpAny (model prog w) A (drawOrder n l) Q E s
 | 0,l,s,Q,e,q=>by
  have:l=[]:=List.length_eq_zero_iff.mp e.symm
  subst this
  exact wpAny_pure (q [] s.drawn (.refl _))
 | n+1,[],s,Q,e,q=>by cases e
 | n+1,x :: l,s,Q,e,q=>by
  unfold drawOrder
  refine wpAny_bind (c2u (by simp) λk d hk=>?_)
  rw [List.getElem?_eq_getElem hk]
  refine wpAny_bind (Z6 n _ _ _ (by rw [List.length_eraseIdx,if_pos hk];simp at e ⊢;omega) λys d2 p=>wpAny_pure ?_)
  exact q _ d2 ((p.cons _).trans (N7 (x :: l) k hk))
variable {a:Addr} {o:Obj} {es:Array (Int×Value)} {t:SetTable} {ep:Nat}
theorem text_atHt (hb:j4 w=true):wpAny (model prog w) A setsByText (λb z=>b=true/\s=z) E s:=wpAny_bind (wpAny_askSetting (wpAny_pure ⟨hb,rfl⟩))
theorem text_noHt (hb:j4 w=false):wpAny (model prog w) A setsByText (λb z=>b=false/\s=z) E s:=wpAny_bind (wpAny_askSetting (wpAny_pure ⟨hb,rfl⟩))
theorem a6g {f i:Nat} {R:Option (Value×Nat)->Shared->Prop} (hb:j4 w=true) (ho:s.heap.get? a=some o) (hd:o.data=.set es ep t) (hf:t.fits es.size=true)
  (q:R (((pickOrder (w.params.setOrder a ep) es)[i]?).map λe=>(e.2,f)) s):wpAny (model prog w) A (setNext a f i ep) R E s:=by
 unfold setNext
 refine wpAny_bind (wpAny_setState_of ho hd hf (wpAny_bind (wpAny_mono (text_atHt hb) (λb z ⟨e1,e2⟩=>?_) λ_ _ x=>x)))
 subst e1 e2
 rw [if_pos rfl]
 dsimp only
 rw [if_neg (by simp)]
 unfold setWalk
 refine wpAny_bind (wpAny_bind (wpAny_setState_of ho hd hf (wpAny_bind (wpAny_mono (text_atHt hb) (λb z ⟨e1,e2⟩=>?_) λ_ _ x=>x))))
 subst e1 e2
 rw [if_pos rfl]
 exact wpAny_bind (wpAny_askSetting (wpAny_pure (wpAny_pure q)))
theorem b17 {f i:Nat} {R:Option (Value×Nat)->Shared->Prop} (hb:j4 w=false) (ho:s.heap.get? a=some o) (hd:o.data=.set es ep t) (hf:t.fits es.size=true) (hl:t.led=true) (hp:(!t.plain&&decide (es.size > 1))=false)
  (q:R (match es[SetTable.below t.place f]?,t.place[SetTable.below t.place f]? with | some (_,x),some j=>some (x,j+1) | _,_=>none) s):wpAny (model prog w) A (setNext a f i ep) R E s:=by
 unfold setNext
 refine wpAny_bind (wpAny_setState_of ho hd hf (wpAny_bind (wpAny_mono (text_noHt hb) (λb z ⟨e1,e2⟩=>?_) λ_ _ x=>x)))
 subst e1 e2
 rw [if_neg Bool.false_ne_true]
 show wpAny _ _ (if (!t.plain&&decide (es.size > 1))=true then _ else _) _ _ _
 rw [hp,if_neg Bool.false_ne_true]
 refine wpAny_bind (?_:wpAny _ _ (if (!t.led&&!es.isEmpty)=true then _ else _) _ _ _)
 rw [hl,if_neg (by simp)]
 exact wpAny_pure (wpAny_pure q)
end
section
variable {prog:Program} {w:World} {A:Around} {E:Value->Shared->Prop} {s:Shared} {K:Type} [DecidableEq K] {knd:KeyKind prog w K} {S:K->Bool} {n:Nat}
variable {a:Addr} {o:Obj} {es:Array (Int×Value)} {t:SetTable} {ep:Nat}
theorem SIt.mv {h h':Heap} {I a:Addr} {first:Value} {i n ep:Nat} (x:SIt h I a first i n ep) (e:∀ o,h.get? I=some o->h'.get? I=some o):SIt h' I a first i n ep:=let ⟨o,ho,r⟩:=x;⟨o,e o ho,r⟩
theorem a57 {I a:Addr} {first:Value} {i n ep:Nat} {Q:Value->Shared->Prop} (x:SIt s.heap I a first i n ep) (q:Q (.ref I) s):wpAny (model prog w) A (pyIter (.ref I)) Q E s:=by
 refine wpAny_pyIter_slot x.ty a6a (wpAny_call_entry a6a x.ty b2u ?_ (b26 _))
 show wpAny _ _ (ret (.ref I)) _ _ s
 exact wpAny_pure ⟨_,rfl,"set_iterator",_,x.ty,si_slot.lookup,q⟩
noncomputable def a81 (t:SetTable):Nat->Nat
 | 0=>0
 | i+1=>t.place.getD i 0+1
theorem a42 (hh:A.handled=none) {I:Addr} (ne:a≠I) (x:a72 knd o S n es ep t) (f:Nat->Nat) (vs:List Value) (hn:vs.length=n)
  (h1:∀ i (B:Around) (s:Shared) (R:Option (Value×Nat)->Shared->Prop) (E:Value->Shared->Prop) v,s.heap.get? a=some o->vs[i]?=some v->R (some (v,f (i+1))) s->wpAny (model prog w) B (setNext a (f i) i ep) R E s)
  (h2:∀ (B:Around) (s:Shared) (R:Option (Value×Nat)->Shared->Prop) (E:Value->Shared->Prop),s.heap.get? a=some o->R none s->wpAny (model prog w) B (setNext a (f n) n ep) R E s) :
  Walks prog w A I [I,a] [I] n (λi v=>vs[i]?=some v) (λi h=>SIt h I a (.int (f i:Nat) 0) i n ep/\h.get? a=some o) where
 sub:=λb hb=>by simp at hb;simp [hb]
 frame:=λi h h' st hk=>⟨st.1.mv λo e=>hk I (by simp) o e,hk a (by simp) _ st.2⟩
 item:=λi s Q E hi st q=>by
  have e:vs[i]?=some vs[i]:=List.getElem?_eq_getElem (by omega)
  refine a4c st.1 st.2 x.2.1 x.2.2.2.2.2.1 x.2.2.2.2.2.2.1 (λB R E z=>h1 i B s R E _ st.2 e z) λh' y sm=>q _ h' s.toks e ⟨y,?_⟩ λb ob hb z=>sm.extBut b ob (λc=>hb (by simp [c])) z
  exact sm.extBut _ _ ne st.2
 done:=λs Q E st q=>a74 hh st.1 st.2 x.2.1 x.2.2.2.2.2.1 x.2.2.2.2.2.2.1 (λB R E z=>h2 B s R E st.2 z) λh' y=>q h' s.toks λb ob hb z=>y b ob (λc=>hb (by simp [c])) z
 self:=λ_ _ _ _ st q=>a57 st.1 q
theorem a46 (hh:A.handled=none) {I tp:Addr} (ne:a≠I) (nt:tp≠I) (x:a72 knd o S n es ep t) {ot:Obj} {c:Nat} (ps:List Nat) (htd:ot.data=.seq (ps.map λ(k:Nat)=>rawInt (k:Int)).toArray c) (hp:ps.Perm (List.range n)) :
  Walks prog w A I [I,a,tp] [I] n (λi v=>(ps.map λp=>(es.toList.map (·.2)).getD p .none)[i]?=some v) (λi h=>SIt h I a (.ref tp) i n ep/\h.get? a=some o/\h.get? tp=some ot) where
 sub:=λb hb=>by simp at hb;simp [hb]
 frame:=λi h h' st hk=>⟨st.1.mv λo e=>hk I (by simp) o e,hk a (by simp) _ st.2.1,hk tp (by simp) _ st.2.2⟩
 item:=λi s Q E hi st q=>by
  have ln:ps.length=n:=by rw [hp.length_eq,List.length_range]
  have sz:es.size=n:=x.2.2.2.2.2.2.1
  have e:ps[i]?=some (ps[i]'(by omega)):=List.getElem?_eq_getElem (by omega)
  have lt:ps[i]'(by omega)<es.size:=by
   have:ps[i]'(by omega)∈List.range n:=hp.mem_iff.mp (List.getElem_mem _)
   rw [sz];exact List.mem_range.mp this
  generalize ps[i]'(by omega)=p at e lt
  have e2:es[p]?=some (es[p].1,es[p].2):=Array.getElem?_eq_getElem lt
  refine a34 st.1 st.2.1 x.2.1 x.2.2.2.2.2.1 sz st.2.2 htd e e2 λh' y sm=>q _ h' s.toks ?_ ⟨y,sm.extBut _ _ ne st.2.1,sm.extBut _ _ nt st.2.2⟩ λb ob hb z=>sm.extBut b ob (λc=>hb (by simp [c])) z
  rw [List.getElem?_map,e]
  simp [lt]
 done:=λs Q E st q=>by
  have ln:ps.length=n:=by rw [hp.length_eq,List.length_range]
  exact a7v hh st.1 st.2.1 x.2.1 x.2.2.2.2.2.1 x.2.2.2.2.2.2.1 st.2.2 htd (List.getElem?_eq_none (by omega)) λh' y=>q h' s.toks λb ob hb z=>y b ob (λc=>hb (by simp [c])) z
 self:=λ_ _ _ _ st q=>a57 st.1 q
structure Itd (prog:Program) (w:World) (a:Addr) (es:Array (Int×Value)) (s z:Shared) (I:Addr):Prop where
 keep:∀ b ob,s.heap.get? b=some ob->z.heap.get? b=some ob
 rest:z={ s with heap:=z.heap,drawn:=z.drawn }
 new:s.heap.objs.size<=I
 walk:∃ (vs:List Value) (fp:List Addr) (St:Nat->Heap->Prop),vs.Perm (es.toList.map (·.2))/\(∀ B:Around,B.handled=none->Walks prog w B I fp [I] es.size (λi v=>vs[i]?=some v) St)/\St 0 z.heap/\∀ b∈fp,b=a\/(s.heap.objs.size<=b/\b<z.heap.objs.size)
theorem b4s {Q:Value->Shared->Prop} (ho:s.heap.get? a=some o) (x:a72 knd o S n es ep t) (q:∀ I z,Itd prog w a es s z I->Q (.ref I) z):wpAny (model prog w) A (pyIter (.ref a)) Q E s:=by
 have ty:s.TypeIs (.ref a) "set":=⟨o,ho,x.1.1⟩
 have lt:=Heap.lt_size ho
 obtain ⟨x1,x2,x3,x4,x5,x6,x7,x8,x9⟩:=id x
 refine wpAny_pyIter_slot ty PySem.F.slot_set_iter (wpAny_call_entry PySem.F.slot_set_iter ty b1x ?_ (PySem.F.args_set_iter_1 _))
 unfold Builtin.«frozenset.__iter__» Builtin.Frozenset.slot0 slotArgs
 simp only [List.isEmpty_nil,Bool.not_true,Bool.false_eq_true,↓reduceIte,LawfulMonad.bind_assoc,List.length_nil,bne_self_eq_false]
 unfold Builtin.Frozenset.addrOf Builtin.Frozenset.sizeOf setDrawn
 refine wpAny_bind (wpAny_pure ?_)
 dsimp only
 refine wpAny_bind (wpAny_pure ?_)
 refine wpAny_bind (wpAny_bind (wpAny_setEntries_of ho x2 x6 (wpAny_pure ?_)))
 refine wpAny_bind (wpAny_bind (wpAny_setState_of ho x2 x6 ?_))
 have ne:a≠s.heap.objs.size:=Nat.ne_of_lt lt
 have small:es.size<4096:=x5
 have int_:∀ (f:Nat->Nat) (vs:List Value),f 0=0->vs.Perm (es.toList.map (·.2)) ->
   (∀ i (B:Around) (s:Shared) (R:Option (Value×Nat)->Shared->Prop) (E:Value->Shared->Prop) v,s.heap.get? a=some o->vs[i]?=some v->R (some (v,f (i+1))) s->wpAny (model prog w) B (setNext a (f i) i ep) R E s) ->
   (∀ (B:Around) (s:Shared) (R:Option (Value×Nat)->Shared->Prop) (E:Value->Shared->Prop),s.heap.get? a=some o->R none s->wpAny (model prog w) B (setNext a (f n) n ep) R E s) ->
   wpAny (model prog w) A.in1 (setEpoch a >>= λk=>newFields "set_iterator" [rawInt 0,rawInt 0,.ref a,rawInt es.size,rawInt k] >>= λv=>ret v) (λfin z=>∃ v,fin=Fin.done (Flow.ret v)/\∃ T r,z.TypeIs v T/\typeLookup (Value.type T) (Str.ofString "__next__")=pure (some r)/\Q v z) E s:=λf vs f0 p h1 h2=>by
  have hn:vs.length=n:=by rw [p.length_eq,List.length_map,Array.length_toList,x7]
  refine wpAny_bind (wpAny_setEpoch_of ho x2 x6 (wpAny_bind (wpAny_newObj_type (wpAny_pure ⟨_,rfl,"set_iterator",_,⟨_,Heap.get?_push_size _ rfl,rfl⟩,si_slot.lookup,q _ _ ?_⟩) (by size_fits))))
  refine ⟨λb ob e=>Heap.get?_push_of_some _ e,rfl,Nat.le_refl _,vs,[s.heap.objs.size,a],_,p,λB hB=>x7▸a42 hB ne x f vs hn h1 h2,⟨⟨_,Heap.get?_push_size _ rfl,rfl,?_⟩,Heap.get?_push_of_some _ ho⟩,λb hb=>?_⟩
  ·rcases List.mem_cons.mp hb with rfl | hb
   ·exact .inr ⟨Nat.le_refl _,by show _<(Heap.push _ _).objs.size;rw [Heap.size_push];exact Nat.lt_succ_self _⟩
   ·exact .inl (List.mem_singleton.mp hb)
  ·rw [f0];rfl
 cases hb:j4 w with
 | true=>
  refine wpAny_bind (wpAny_mono (text_atHt hb) (λb z ⟨e1,e2⟩=>?_) λ_ _ y=>y)
  subst e1 e2
  refine wpAny_pure ?_
  have p:=a7l (w.params.setOrder a ep) es
  refine int_ (λ_=>0) ((pickOrder (w.params.setOrder a ep) es).toList.map (·.2)) rfl (p.map _) (λi B s R E v ho hv r=>a6g hb ho x2 x6 ?_) λB s R E ho r=>a6g hb ho x2 x6 ?_
  ·rw [List.getElem?_map,Array.getElem?_toList,Option.map_eq_some_iff] at hv
   obtain ⟨e,h1,h2⟩:=hv
   rw [h1]
   show R (some (e.2,0)) s
   rw [h2]
   exact r
  ·have:(pickOrder (w.params.setOrder a ep) es)[n]?=none:=by
    have:=p.length_eq
    rw [Array.length_toList,Array.length_toList,x7] at this
    exact Array.getElem?_eq_none (by omega)
   rw [this];exact r
 | false=>
  refine wpAny_bind (wpAny_mono (text_noHt hb) (λb z ⟨e1,e2⟩=>?_) λ_ _ y=>y)
  subst e1 e2
  refine wpAny_pure ?_
  cases hd:(!t.plain&&decide (es.size > 1)) with
  | false=>
   show wpAny _ _ (if (!false&&(!t.plain&&decide (es.size > 1)))=true then _ else _) _ _ _
   rw [hd,if_neg (by simp)]
   have led:t.led=true:=by rw [x9,hb];rfl
   have fit:t.place.size=es.size:=by
    have:=x6
    unfold SetTable.fits at this
    simp only [Bool.and_eq_true,beq_iff_eq] at this
    exact this.1
   have up:Rise t.place:=by
    cases pl:t.plain with
    | true=>exact x8.up pl
    | false=>
     rw [pl] at hd
     have z:t.place.size<=1:=by simp at hd;omega
     unfold Rise
     have:t.place.toList.length<=1:=by simpa using z
     match t.place.toList,this with
     | [],_=>exact .nil
     | [y],_=>exact .cons (λ_ h=>by cases h) .nil
   have go:∀ i,i<=n->SetTable.below t.place (a81 t i)=i:=λi hi=>by
    cases i with
    | zero=>exact a3o up
    | succ i=>
     have z:i<t.place.size:=by omega
     show SetTable.below t.place (t.place.getD i 0+1)=i+1
     rw [show t.place.getD i 0=t.place[i] by simp [Array.getD,z]]
     exact a4u up z
   refine int_ (a81 t) (es.toList.map (·.2)) rfl (.refl _) (λi B s R E v ho hv r=>b17 hb ho x2 x6 led hd ?_) λB s R E ho r=>b17 hb ho x2 x6 led hd ?_
   ·rw [List.getElem?_map,Array.getElem?_toList,Option.map_eq_some_iff] at hv
    obtain ⟨e,h1,h2⟩:=hv
    have z:i<es.size:=by
     rcases Nat.lt_or_ge i es.size with u | u
     ·exact u
     ·rw [Array.getElem?_eq_none u] at h1;cases h1
    have z2:i<t.place.size:=by omega
    rw [go i (by omega),h1,Array.getElem?_eq_getElem z2]
    obtain ⟨e1,e2⟩:=e
    dsimp only at h2 ⊢
    subst h2
    have:a81 t (i+1)=t.place[i]+1:=by show t.place.getD i 0+1=_;simp [Array.getD,z2]
    rw [this] at r
    exact r
   ·rw [go n (Nat.le_refl _),Array.getElem?_eq_none (by omega)]
    exact r
  | true=>
   show wpAny _ _ (if (!false&&(!t.plain&&decide (es.size > 1)))=true then _ else _) _ _ _
   rw [hd,if_pos (by simp)]
   refine wpAny_bind (Z6 _ _ _ _ (by simp) λps d p=>?_)
   have pl:ps.length=es.size:=by rw [p.length_eq,List.length_range]
   refine wpAny_bind (wpAny_newTuple (wpAny_bind (wpAny_setEpoch_of (Heap.get?_push_of_some _ ho) x2 x6 (wpAny_bind (wpAny_newObj_type (wpAny_pure ⟨_,rfl,"set_iterator",_,⟨_,Heap.get?_push_size _ rfl,rfl⟩,si_slot.lookup,q _ _ ?_⟩) (by size_fits))))) (by rw [List.length_map,pl,sizeLine_eq];omega))
   have ez:(s.heap.push { cls:=.type "tuple",data:=.seq (ps.map λ(k:Nat)=>rawInt (k:Int)).toArray }).objs.size=s.heap.objs.size+1:=Heap.size_push _ _
   refine ⟨λb ob e=>Heap.get?_push_of_some _ (Heap.get?_push_of_some _ e),rfl,?g1,ps.map λp=>(es.toList.map (·.2)).getD p .none,[(s.heap.push { cls:=.type "tuple",data:=.seq (ps.map λ(k:Nat)=>rawInt (k:Int)).toArray }).objs.size,a,s.heap.objs.size],_,?g2,λB hB=>x7▸a46 hB ?g3 ?g4 x (ot:={ cls:=.type "tuple",data:=.seq (ps.map λ(k:Nat)=>rawInt (k:Int)).toArray }) ps rfl (x7▸p),⟨⟨_,Heap.get?_push_size _ rfl,rfl,?g5⟩,?g6,?g7⟩,λb hb=>?g8⟩
   case g1=>
    rw [ez];exact Nat.le_succ _
   case g2=>
    refine (p.map _).trans ?_
    have:(List.range es.size).map (λp=>(es.toList.map (·.2)).getD p .none)=es.toList.map (·.2):=by
     refine List.ext_getElem (by simp) λi h1 h2=>?_
     simp at h1 h2
     simp [h1]
    rw [this]
   case g3=>
    rw [ez];exact Nat.ne_of_lt (Nat.lt_succ_of_lt lt)
   case g4=>
    rw [ez];exact Nat.ne_of_lt (Nat.lt_succ_self _)
   case g5=>
    rfl
   case g6=>
    exact Heap.get?_push_of_some _ (Heap.get?_push_of_some _ ho)
   case g7=>
    exact Heap.get?_push_of_some _ (Heap.get?_push_size _ rfl)
   case g8=>
    have e2:((s.heap.push { cls:=.type "tuple",data:=.seq (ps.map λ(k:Nat)=>rawInt (k:Int)).toArray }).push { cls:=.type "set_iterator",data:=.fields [Value.ref s.heap.objs.size,rawInt 0,Value.ref a,rawInt ↑es.size,rawInt ↑ep].toArray }).objs.size=s.heap.objs.size+1+1:=(Heap.size_push _ _).trans (congrArg (· + 1) ez)
    rcases List.mem_cons.mp hb with rfl | hb
    ·exact .inr ⟨by rw [ez];exact Nat.le_succ _,by show _<(Heap.push _ _).objs.size;rw [e2,ez];exact Nat.lt_succ_self _⟩
    ·rcases List.mem_cons.mp hb with rfl | hb
     ·exact .inl rfl
     ·rw [List.mem_singleton.mp hb]
      exact .inr ⟨Nat.le_refl _,by show _<(Heap.push _ _).objs.size;rw [e2];exact Nat.lt_succ_of_lt (Nat.lt_succ_self _)⟩
end
section
variable {prog:Program} {w:World} {A:Around} {E:Value->Shared->Prop} {s:Shared} {K:Type} [DecidableEq K] {knd:KeyKind prog w K} {S:K->Bool} {n:Nat}
variable {a:Addr} {o:Obj} {es:Array (Int×Value)} {t:SetTable} {ep:Nat}
theorem a37 {Q:List Value->Shared->Prop} (hh:A.handled=none) (ho:s.heap.get? a=some o) (x:a72 knd o S n es ep t)
  (q:∀ z vs,(∀ b ob,s.heap.get? b=some ob->z.heap.get? b=some ob)->z={ s with heap:=z.heap,drawn:=z.drawn,toks:=z.toks }->vs.Perm (es.toList.map (·.2))->s.heap.objs.size<z.heap.objs.size->Q vs z):wpAny (model prog w) A (collect (.ref a)) Q E s:=by
 have lt:=Heap.lt_size ho
 have small:es.size<4096:=x.2.2.2.2.1
 unfold collect
 refine wpAny_bind (wpAny_runValue (codeAny_builtin PySem.F.entry_proto_collect ?_))
 rw [Around.under_plainId PySem.F.plain_proto_collect _]
 refine wpAny_bind (m:=newList []) (wpAny_newObj_type (wpAny_pure ⟨plainId_quiet PySem.F.plain_list_iadd _,codeAny_builtin PySem.F.entry_list_iadd ?_⟩))
 rw [Around.under_plainId PySem.F.plain_list_iadd _]
 have ho1:=Heap.get?_push_of_some ({ cls:=.type "list",data:=.seq ([]:List Value).toArray }:Obj) ho
 have ty:Shared.TypeIs { s with heap:=s.heap.push { cls:=.type "list",data:=.seq ([]:List Value).toArray } } (.ref a) "set":=⟨o,ho1,x.1.1⟩
 have hL:(s.heap.push { cls:=.type "list",data:=.seq ([]:List Value).toArray }).get? s.heap.objs.size=some { cls:=.type "list",data:=.seq ([]:List Value).toArray }:=Heap.get?_push_size _ rfl
 have hz:(s.heap.push { cls:=.type "list",data:=.seq ([]:List Value).toArray }).objs.size=s.heap.objs.size+1:=Heap.size_push _ _
 show wpAny _ A.in1 (Builtin.List.listExtendWith (.ref s.heap.objs.size) (.ref a) (.ref s.heap.objs.size)) _ _ _
 unfold Builtin.List.listExtendWith
 have e1:Builtin.List.listSameRef (.ref s.heap.objs.size) (.ref a)=false:=by
  have:s.heap.objs.size≠a:=Nat.ne_of_gt lt
  simp [Builtin.List.listSameRef,this]
 refine wpAny_bind (wpAny_typeOf ty ?_)
 rw [if_neg (by rw [e1];decide)]
 refine wpAny_bind (b4s ho1 x λI z d=>wpAny_bind (wpAny_holding ?_))
 have ty2:z.TypeIs (.ref a) "set":=⟨o,d.keep _ _ ho1,x.1.1⟩
 unfold Builtin.List.listLengthHint
 refine wpAny_bind (wpAny_specialOf ty2 PySem.F.slot_set_len.lookup ?_)
 wp_delta
 refine wpAny_bind (wpAny_isInstance (b:=true) ty2 (by rw [isSubtype_type];kernel_rfl) ?_)
 show wpAny _ A.in1 (typeOf (Value.ref a) >>= _) _ _ _
 refine wpAny_bind (wpAny_typeOf ty2 (wpAny_pure ?_))
 rw [if_pos (by decide)]
 refine wpAny_bind (wpAny_rule ?_)
 obtain ⟨vs,fp,St,p,W,st,fo⟩:=d.walk
 have hL2:=d.keep _ _ hL
 refine wpAny_bind ?_
 show wpAny _ A.in1 (updateSeq s.heap.objs.size (·.push .none) >>= λ_=>updateSeq s.heap.objs.size (·.pop)) _ _ _
 refine wpAny_bind (wpAny_updateSeq hL2 rfl ?_)
 have hL3:=Heap.get?_update_self (Obj.mapSeq (·.push Value.none)) hL2 rfl
 refine wpAny_updateSeq (hz:=by seq_fits) hL3 rfl ?_
 have hL4:=Heap.get?_update_self (Obj.mapSeq (·.pop)) hL3 rfl
 have nS:s.heap.objs.size∉fp:=λhm=>by
  rcases fo _ hm with u | u
  ·exact absurd u (Nat.ne_of_gt lt)
  ·have:=u.1;rw [show ({ s with heap:=s.heap.push { cls:=.type "list",data:=.seq ([]:List Value).toArray } }:Shared).heap.objs.size=s.heap.objs.size+1 from hz] at this;omega
 have oth:∀ b ob,b≠s.heap.objs.size->z.heap.get? b=some ob->((z.heap.update s.heap.objs.size (Obj.mapSeq (·.push Value.none))).update s.heap.objs.size (Obj.mapSeq (·.pop))).get? b=some ob:=
  λb ob hb e=>(Heap.get?_update_other _ _ (Ne.symm hb)).trans ((Heap.get?_update_other _ _ (Ne.symm hb)).trans e)
 have W1:=W A.in1 hh
 refine wpAny_pure ⟨plainId_quiet PySem.F.plain_extend_loop _,codeAny_extend_loopS W1.toS (by rw [sizeLine_eq];omega) _ nS _ es.size 0 _ _ _ rfl (Nat.zero_le _) (W1.frame 0 _ _ st λb hb ob e=>oth b ob (λh=>nS (h▸hb)) e) hL4 (ItemsOf.nil _) λy acc c m hL5 hacc=>?_⟩
 show wpAny _ A (load s.heap.objs.size >>= _) _ _ y
 refine wpAny_bind (wpAny_load hL5 (wpAny_pure (q y acc.toList (λb ob e=>?_) ?_ ?_ (Heap.lt_size hL5))))
 ·have lb:=Heap.lt_size e
  refine m.heap b ob (λhb=>?_) (oth b ob (Nat.ne_of_lt lb) (d.keep b ob (Heap.get?_push_of_some _ e)))
  rcases List.mem_cons.mp hb with h | h
  ·exact absurd lb (h▸Nat.lt_irrefl _)
  ·have:=d.new
   rw [<- List.mem_singleton.mp h,show ({ s with heap:=s.heap.push { cls:=.type "list",data:=.seq ([]:List Value).toArray } }:Shared).heap.objs.size=s.heap.objs.size+1 from hz] at this
   exact absurd (Nat.lt_of_lt_of_le lb (Nat.le_of_succ_le this)) (Nat.lt_irrefl _)
 ·have g1:y.gens=z.gens:=m.gens
  have g2:y.os=z.os:=m.os
  have r:=d.rest
  have r1:z.gens=s.gens:=by rw [r]
  have r2:z.os=s.os:=by rw [r]
  obtain ⟨yh,yg,yd,yt,yo⟩:=y
  dsimp only at g1 g2
  subst g1 g2
  rw [r1,r2]
 ·have:acc.toList=vs:=by
   have ln:vs.length=es.size:=by rw [p.length_eq,List.length_map,Array.length_toList]
   refine List.ext_getElem (by rw [Array.length_toList,hacc.1,ln]) λi h1 h2=>?_
   have:vs[i]?=some acc.toList[i]:=hacc.2 i acc.toList[i] (by rw [<- Array.getElem?_toList];exact List.getElem?_eq_getElem h1)
   rw [List.getElem?_eq_getElem h2,Option.some.injEq] at this
   exact this.symm
  rw [this];exact p
end
section
variable {prog:Program} {w:World} {A:Around} {E:Value->Shared->Prop} {s:Shared} {S:Int->Bool} {n:Nat} {a:Addr}
theorem R1 {l:List (Int×Value)} (h:ElemsOf (intKind prog w) l):∃ ks,IntsAre (l.map (·.2)) ks/\∀ k,k∈ks↔∃ e∈l,(intKind prog w).is k e.2=true:=by
 induction l with
 | nil=>exact ⟨[],.nil,λk=>by simp⟩
 | cons e l ih=>
  obtain ⟨ks,h1,h2⟩:=ih h.tail
  obtain ⟨⟨k,hk,_⟩,_⟩:=h.head
  obtain ⟨t,ht⟩:=Value.isInt_shape hk
  refine ⟨k :: ks,?_,λj=>?_⟩
  ·rw [List.map_cons,ht];exact .cons k t h1
  ·rw [List.mem_cons,h2]
   have:(intKind prog w).is j e.2=true↔j=k:=by
    rw [KeyKind.is_eq_decide hk j,decide_eq_true_eq]
   constructor
   ·rintro (u | ⟨e',u,v⟩)
    ·exact ⟨e,List.mem_cons_self,this.mpr u⟩
    ·exact ⟨e',List.mem_cons_of_mem _ u,v⟩
   ·rintro ⟨e',u,v⟩
    rcases List.mem_cons.mp u with rfl | u
    ·exact .inl (this.mp v)
    ·exact .inr ⟨e',u,v⟩
theorem a8g:∀ {us vs:List Value} {ks:List Int},us.Perm vs->IntsAre vs ks->∃ js,IntsAre us js/\js.Perm ks:=λ{us vs ks} p=>by
 induction p generalizing ks with
 | nil=>exact λh=>⟨ks,h,.refl _⟩
 | cons x _ ih=>
  intro h
  cases h with
  | cons n t h=>
   obtain ⟨js,a,b⟩:=ih h
   exact ⟨n :: js,.cons n t a,b.cons n⟩
 | swap x y l=>
  intro h
  cases h with
  | cons n t h=>
   cases h with
   | cons m u h=>exact ⟨_,.cons m u (.cons n t h),.swap _ _ _⟩
 | trans _ _ i1 i2=>
  intro h
  obtain ⟨js,a,b⟩:=i2 h
  obtain ⟨ms,c,d⟩:=i1 a
  exact ⟨ms,c,d.trans b⟩
theorem a2f:∀ {l m:List Int},l.Nodup->(∀ x∈l,x∈m)->l.length=m.length->l.Perm m
 | [],m,_,_,e=>by
  have:m=[]:=List.length_eq_zero_iff.mp e.symm
  subst this;exact .refl _
 | x :: l,m,nd,sb,e=>by
  have hx:=sb x List.mem_cons_self
  rw [List.nodup_cons] at nd
  have ih:=a2f (m:=m.erase x) nd.2 (λy hy=>(List.mem_erase_of_ne (λh:y=x=>nd.1 (h▸hy))).mpr (sb y (List.mem_cons_of_mem _ hy))) (by
   rw [List.length_erase_of_mem hx];simp at e;omega)
  exact (ih.cons x).trans (List.perm_cons_erase hx).symm
theorem sortLHt {ns:List Int} {Q:Value->Shared->Prop} (hh:A.handled=none) (hS:SetL (intKind prog w) s.heap a (J7 ns) ns.length) (nd:ns.Nodup) (few:ns.length<64)
  (q:∀ (z:Shared) (p:Addr) (out:Array Value) (ms:List Int) (c:Nat),(∀ b ob,s.heap.get? b=some ob->z.heap.get? b=some ob)->z={ s with heap:=z.heap,drawn:=z.drawn,toks:=z.toks }->s.heap.objs.size<=p->z.heap.get? p=some (seqObj "list" out c)->IntsAre out.toList ms->ms.Perm ns->ms.Pairwise (·<=·)->Q (.ref p) z) :
  wpAny (model prog w) A (call (.builtin "sorted") [.ref a]) Q E s:=by
 obtain ⟨o,es,ep,t,ho,x⟩:=hS
 obtain ⟨ks,k1,k2⟩:=R1 x.2.2.1
 have kl:ks.length=ns.length:=by
  rw [<- IntsAre.length k1,List.length_map,Array.length_toList];exact x.2.2.2.2.2.2.1
 have kp:ns.Perm ks:=a2f nd (λy hy=>(k2 y).mpr ((x.2.2.2.1 y).mp (by simpa [J7] using hy))) kl.symm
 refine Calls.call_function_entry PyProof.Rows.kind_sorted PyProof.Rows.plain_sorted PyProof.Rows.entry_sorted (PyProof.Rows.args_sorted1 _) ?_
 unfold Builtin.«sorted»
 refine wpAny_bind (m:=checkCount "sorted" 1 1 _) (wpAny_pure (wpAny_bind (a37 (by simp [hh]) ho x λz vs kp2 rs p lz=>wpAny_bind (wpAny_newList ?_ (by rw [p.length_eq,List.length_map,Array.length_toList,sizeLine_eq];have z:es.size<4096:=x.2.2.2.2.1;omega)))))
 obtain ⟨js,j1,j2⟩:=a8g p k1
 have vl:vs.length=ns.length:=by rw [IntsAre.length j1,j2.length_eq,kl]
 have at_:(z.heap.push (seqObj "list" vs.toArray 0)).get? z.heap.objs.size=some (seqObj "list" vs.toArray 0):=Heap.get?_push_size _ rfl
 show wpAny _ _ _ _ _ { z with heap:=z.heap.push (seqObj "list" vs.toArray 0) }
 refine wpAny_bind (wpAny_holding (wpAny_call_entry PyProof.Rows.slot_list_sort ⟨_,at_,rfl⟩ PyProof.Rows.entry_list_sort (PyProof.Rows.list_sort_tree at_ j1 (by omega) λout ms b1 b2 b3=>⟨_,rfl,wpAny_pure ⟨_,rfl,?_⟩⟩) (PyProof.Rows.args_list_sort _)))
 obtain ⟨c,hc⟩:=sortedHeap_at (out:=out) at_
 refine q _ _ out ms c (λb ob e=>?_) ?_ (Nat.le_of_lt lz) hc b1 (b2.trans (j2.trans kp.symm)) b3
 ·have lb:=Heap.lt_size (kp2 b ob e)
  rw [sortedHeap_old (Nat.ne_of_lt lb) (by rw [PyProof.Rows.size_push'];exact Nat.lt_succ_of_lt lb)]
  exact Heap.get?_push_of_some _ (kp2 b ob e)
 ·show ({ z with heap:=_ }:Shared)=_
  rw [rs]
end
end HT
namespace L3
open PySem PySem.Spec PyProof.Rows L2
noncomputable def B7:List Int->Int
 | []=>0
 | x :: xs=>x+B7 xs
theorem a21:∀ (xs ys:List Int),B7 (xs++ys)=B7 xs+B7 ys
 | [],ys=>by show B7 ys=0+B7 ys;omega
 | x :: xs,ys=>by show x+B7 (xs++ys)=x+B7 xs+B7 ys;rw [a21 xs ys];omega
theorem a53 (ns:List Int):∀ j,j<=ns.length->preSum (λi=>ns.getD i 0) j=B7 (ns.take j)
 | 0,_=>by simp [preSum,B7]
 | j+1,h=>by
  have hj:j<ns.length:=by omega
  rw [List.take_succ_eq_append_getElem hj,a21,<- a53 ns j (by omega)]
  show preSum _ j+ns.getD j 0=preSum _ j+(ns[j]+0)
  simp [hj]
section
variable {X:Cx} {cl:Nat->Addr} {xe:Addr->Hp->Prop}
theorem a6x {pins:List (Addr×Obj)} {s s':Shared} {σ:L2.St} {H:Hp} {Q:VK} {ns:List Int} {t':Nat} {o:Obj} (I:L2.Inv X pins σ H s) (q:Q (.int (B7 ns)) H) {m:Nat} (hm:m=ns.length)
  (mv:Moved [s.heap.objs.size] (λa b=>b=a) { s with heap:=s.heap.push o } s'):EP X pins σ Q (.int (preSum (λi=>ns.getD i 0) m) t') s':=by
 have e:preSum (λi=>ns.getD i 0) m=B7 ns:=by rw [hm,a53 ns ns.length (Nat.le_refl _),List.take_length]
 rw [e]
 obtain ⟨k,g,dr,os,tk⟩:=mv
 have es:s'={ s with heap:=s'.heap,toks:=s'.toks }:=by
  cases s';cases s
  simp only at g dr os ⊢
  subst g dr os
  rfl
 rw [es]
 refine ⟨.int (B7 ns),H,I.kept (t':=s'.toks) λb o eb=>?_,⟨_,rfl⟩,q⟩
 have nb:b<s.heap.objs.size:=Heap.lt_size eb
 exact k b o (by simp;exact Nat.ne_of_lt nb) (Heap.get?_push_of_some _ eb)
theorem a2h {ns:List Int} {its:List Value} (r':Vals (ns.map V.int) its):∀ (i:Nat) (v:Value),its.toArray[i]?=some v->∃ t,v=Value.int (ns.getD i 0) t:=by
 intro i v hP
 rw [List.getElem?_toArray] at hP
 have hl:its.length=ns.length:=by rw [<- r'.length,List.length_map]
 have hi:i<ns.length:=by
  have b:=(List.getElem?_eq_some_iff.mp hP).1
  omega
 obtain ⟨u,e1,rv⟩:=Vals.get r' (i:=i) (x:=V.int ns[i]) (by rw [List.getElem?_map,List.getElem?_eq_getElem hi];rfl)
 rw [e1] at hP;cases hP
 obtain ⟨t,rfl⟩:=rv
 exact ⟨t,by simp [hi]⟩
theorem b2g {s:Shared} {p:Addr} {o:Obj} (lt:p<s.heap.objs.size) (hf:o.isFreed=false:=by rfl):∀ b∈[s.heap.objs.size,p],b<(s.heap.push o).objs.size:=by
 intro b hb
 rcases List.mem_cons.mp hb with rfl | hb
 ·exact Heap.lt_size (Heap.get?_push_size _ hf)
 ·rw [List.mem_singleton.mp hb];exact Nat.lt_trans lt (Heap.lt_size (Heap.get?_push_size _ hf))
theorem a2a (hc:X.calm=true):j9 X (.builtin "sum") (λxs H Q=>∃ (p:Addr) (ns:List Int),xs=[.ref p]/\(SqL X.K H p (ns.map V.int)\/SqT X.K H p (ns.map V.int))/\Q (.int (B7 ns)) H):=by
 intro pins s σ H xs us Q I r h
 obtain ⟨p,ns,rfl,hq,q⟩:=h
 obtain ⟨u,rfl,rx⟩:=P7 r
 cases rx
 have hh:X.A.handled=none:=I.ok.hd hc
 rcases hq with hq | hq
 ·obtain ⟨its,r',pl,hz⟩:=I.list hq
  have lt:p<s.heap.objs.size:=by
   obtain ⟨o,ho,_⟩:=pl.isList
   exact Heap.lt_size ho
  have hl:its.toArray.size=ns.length:=by rw [List.size_toArray,<- r'.length,List.length_map]
  exact call_sum_walkAnyS (wpAny_pyIter_list pl.isList ⟨s.heap.objs.size,[s.heap.objs.size,p],[s.heap.objs.size],_,its.toArray.size,_,_,λi=>ns.getD i 0,rfl,(Walks.list (A:=X.A.in1) (show X.A.in1.handled=none from hh) _ _ (Nat.ne_of_lt lt) its.toArray).toS,⟨⟨_,Heap.get?_push_size _ rfl,rfl,rfl⟩,pl.isList.push _⟩,b2g lt,a2h r',λs' t' m=>a6x I q hl m⟩)
 ·obtain ⟨its,r',⟨o,ho,hcl,n,hd⟩,hz⟩:=I.tuple hq
  have pl:s.heap.IsTuple p its.toArray:=⟨o,ho,hcl,n,hd⟩
  have lt:p<s.heap.objs.size:=Heap.lt_size ho
  have hl:its.toArray.size=ns.length:=by rw [List.size_toArray,<- r'.length,List.length_map]
  exact call_sum_walkAnyS (wpAny_pyIter_tuple pl ⟨s.heap.objs.size,[s.heap.objs.size,p],[s.heap.objs.size],_,its.toArray.size,_,_,λi=>ns.getD i 0,rfl,(Walks.tuple (A:=X.A.in1) (show X.A.in1.handled=none from hh) _ _ (Nat.ne_of_lt lt) its.toArray).toS,⟨⟨_,Heap.get?_push_size _ rfl,rfl,rfl⟩,pl.push _⟩,b2g lt,a2h r',λs' t' m=>a6x I q hl m⟩)
noncomputable def b28 (d:D):M D:=bind (p8 d) λds=>match n9 ds with
 | some ns=>ret (.int (B7 ns))
 | none=>bad
theorem c4d (hc:X.calm=true):j9 X (.builtin "sum") (rPs X.K cl xe (one b28)):=K1 λpins s σ H μ S d v us Q I r rd rp p=>by
 obtain ⟨a,xs,ds,rfl,h1,h2,e2⟩:=E5 rd rp p.bind
 have p:=p.ok_bind e2
 cases e:n9 ds with
 | none=>rw [e] at p;exact p.elim
 | some ns=>
  rw [e] at p
  have:=R8 e h2
  subst this
  exact a2a hc pins s σ H _ us Q I r ⟨a,ns,rfl,h1,p μ H (Lat.refl _ _) rp _ (.int _)⟩
end
def CXr (P:Program) (w:World) (K:PySem.W.Frag):List PySem.Env->Hp->Shared->XK->Value->Shared->Prop:=λouter H s E e s'=>
 ∃ a C d tb H',e=.ref a/\s'.os=s.os/\AllBare s'.gens/\Un (frs outer) [] H H' s.heap s'.heap/\HOk P w H' s'.heap/\Fx K H' a C d tb/\E e none H'
noncomputable abbrev CXd (P:Program) (w:World) (K:PySem.W.Frag):CXT:=⟨CXr P w K,false⟩
section
variable {K:PySem.W.Frag} {cl:Nat->Addr} {xe xe':Addr->Hp->Prop} {α β:Type} {μ:Mp} {H H':Hp} {S:Sto} {a C:Addr} {d tb:Option Addr} {P:Program} {w:World} {h:Heap}
theorem Post.ximp {r:R α} {G:α->Sto->Mp->Hp->Prop} (p:Post K cl xe μ H r G) (k:∀ n S μ' H' a,r=.exn n S->Lat μ H μ' H'->Rep K cl μ' S H'->μ'.pl[n]?=some a->xe a H'->xe' a H'):Post K cl xe' μ H r G:=by
 cases r with
 | ok a S=>exact p
 | exn n S=>exact λμ' H' a l r e=>k n S μ' H' a rfl l r e (p μ' H' a l r e)
 | bad=>exact p
noncomputable def nx (m:M α):M α:=λS=>match m S with
 | .exn _ _=>.bad
 | r=>r
theorem Post.nx {m:M α} {G:α->Sto->Mp->Hp->Prop} (p:Post K cl xe μ H (nx m S) G):Post K cl xe' μ H (m S) G:=by
 unfold L3.nx at p
 cases e:m S with
 | ok a S1=>rw [e] at p;exact p
 | exn n S1=>rw [e] at p;exact p.elim
 | bad=>rw [e] at p;exact p
theorem a9q {c:Nat} {fs:List (Str×D)} (hk:HOk P w H h) (o:OAt K cl μ H a (.exc c fs)) (e:H a=some (M9 tb a C d)) (ht:∀ T,tb=some T->T≠a/\H T=some (TbO T)):C=cl c/\Fx K H a C d tb:=by
 obtain ⟨xc,gs,q,fr,o⟩:=o
 obtain ⟨vs,q1,_⟩:=(hk a _ e).1
 rcases o with ⟨z,e2⟩ | ⟨d',h1,h2,e2,e3⟩
 ·obtain ⟨vs2,q2,_⟩:=(hk a _ e2).1
  rw [q1] at q2;cases q2
  exact ⟨rfl,xc,e,λd' z=>(nomatch z),ht⟩
 ·obtain ⟨vs2,q2,_⟩:=(hk a _ e2).1
  rw [q1] at q2;cases q2
  exact ⟨rfl,xc,e,λd2 z=>by cases z;exact ⟨h1,gs,e3⟩,ht⟩
theorem Rep.mv {n:Nat} (r:Rep K cl μ S H) (hk:HOk P w H h) (e:μ.pl[n]?=some a) (fx:H a=some (M9 tb a C d)) (m:Mv H a C d H'):Lat μ H μ H'/\Rep K cl μ S H':=by
 have am:a∈μ.pl:=List.mem_of_getElem? e
 have l:Lat μ H μ H':=⟨λ_ _ h=>h,λb o q nb=>m.1 b o (λz=>nb (z▸am)) q,λ_ h=>.inl h,rfl⟩
 refine ⟨l,r.len,r.nd,λi o b e1 e2=>?_,λb mb=>let ⟨h1,u,h2⟩:=r.res b mb;⟨h1,u,l.oth _ _ h2 h1⟩⟩
 have ho:=r.ats i o b e1 e2
 by_cases hb:b=a
 ·subst hb
  cases o with
  | lst ds=>obtain ⟨xs,q,_⟩:=ho;rw [fx] at q;simp [M9] at q
  | dct kvs=>obtain ⟨xs,q,_⟩:=ho;rw [fx] at q;simp [M9] at q
  | exc c fs=>
   obtain ⟨xc,gs,q,fr,o⟩:=ho
   obtain ⟨tb',m2⟩:=m.2
   obtain ⟨vs,q1,_⟩:=(hk b _ fx).1
   rcases o with ⟨z,e2⟩ | ⟨d',h1,h2,e2,e3⟩
   ·obtain ⟨vs2,q2,_⟩:=(hk b _ e2).1
    rw [q1] at q2;cases q2
    exact ⟨xc,gs,Paired.mono (λ_ _ ⟨z,w⟩=>⟨z,w.later l⟩) q,tb',.inl ⟨z,m2⟩⟩
   ·obtain ⟨vs2,q2,_⟩:=(hk b _ e2).1
    rw [q1] at q2;cases q2
    exact ⟨xc,gs,Paired.mono (λ_ _ ⟨z,w⟩=>⟨z,w.later l⟩) q,tb',.inr ⟨d',h1,h2,m2,m.1 d' _ h1 e3⟩⟩
 ·obtain ⟨u,q⟩:=ho.some
  exact ho.later l (by rw [q];exact m.1 b u hb q)
end
def xOf (X:Cx) (a:Addr) (H:Hp):Prop:=∀ (pins:List (Addr×Obj)) (σ:L2.St) (s:Shared) (C:Addr) (d tb:Option Addr),L2.Inv X pins σ H s->Fx X.K H a C d tb->X.xe (.ref a) s
def b61 (X:Cx) (pins:List (Addr×Obj)) (σ:L2.St) (F:Addr->Hp->Prop) (ev:Value) (s:Shared):Prop:=∃ a H C d tb,ev=.ref a/\L2.Inv X pins σ H s/\Fx X.K H a C d tb/\F a H
def PX (X:Cx) (cl:Nat->Addr) (e:Expr) (f:Env->M D):Prop:=∀ (pins:List (Addr×Obj)) (s:Shared) (σ:L2.St) (H:Hp) (Q:VK) (F:Addr->Hp->Prop),L2.Inv X pins σ H s->tD X.K cl F f σ H Q ->
 wpAny (model X.prog X.w) X.A (eval e X.env) (EP X pins σ Q) (b61 X pins σ F) s
def spX (K:PySem.W.Frag) (cl:Nat->Addr) (n:Nat) (run:List D->M D):Sp:=λvs H Q E=>vs.length=n/\∃ μ S ds,RDs K μ H ds vs/\Rep K cl μ S H/\Post K cl (b0j E) μ H (run ds S) λd _ μ' H'=>∀ v,RD K μ' H' d v->Q v H'
section
variable {X:Cx} {cl:Nat->Addr} {e:Expr} {es:List Expr} {f:Env->M D} {pos p:Pos}
theorem PX.of (h:PE X.nox e (tD X.K cl x0 f)):PX X cl e λρ=>nx (f ρ):=λpins s σ H Q F I ⟨μ,S,ρ,eo,rp,p⟩=>
 wpAny_mono (h pins s σ H Q (I.wish _) ⟨μ,S,ρ,eo,rp,p.nx⟩) (λ_ _ ⟨v,H',I',r,q⟩=>⟨v,H',I'.unwish,r,q⟩) λ_ _ z=>False.elim z
theorem b6e {k n:Nat} {a:Addr} {fd:FuncData} {ps:List Str} {x:Str} {fs:Env->M (List D)} {run:List D->M D} (hn:ps.length=n) (F:FnOk X.prog X.w X.K X.mg X.base (CXd X.prog X.w X.K) k a fd ps (spX X.K cl n run)) (hr:Room false k X.A) (hg:Gl X x) (hm:X.mg x=some (.ref a)) (hk:PySem.W.keepIn X.K (.ref a)=true) (hb:Binds X.K fd ps [])
  (ha:PA X.nox (e :: es) (tDs X.K cl x0 fs)) (hdb:(x==("__debug__" : Str))=false) (hs:(e :: es).all noStar=true) :
  PX X cl (.Call (.Name x p) (e :: es) [] pos) λρ=>bind (nx (fs ρ)) λds=>if ds.length=n then run ds else bad:=by
 rw [List.all_cons,Bool.and_eq_true] at hs
 intro pins s σ H Q F0 I ⟨μ,S,ρ,eo,rp,p⟩
 refine wpAny_Call_Name_kw (C6 I hg hm ?_ hdb)
 refine PySem.W.callWith_K (h₀:=X.base) I.ok.mod.kin hk (wpAny_mono (ha pos pins s σ H (λvs H1=>∃ μ1 S1 ds,RDs X.K μ1 H1 ds vs/\Rep X.K cl μ1 S1 H1/\Post X.K cl F0 μ1 H1 ((if ds.length=n then run ds else bad) S1) λd _ μ' H'=>∀ v,RD X.K μ' H' d v->Q v H') (I.wish _) ⟨μ,S,ρ,eo,rp,p.bind.nx.imp λds S1 μ1 H1 l1 r1 p1 vs rvs=>⟨μ1,S1,ds,rvs,r1,p1⟩⟩)
  (λus s1 ⟨vs,H1,I1,r,μ1,S1,ds,rvs,r1,p1⟩=>⟨I1.unwish.kIn,?_⟩) λ_ _ z=>False.elim z) (d8 hs.1) (k8 hs.2)
 have I1:=I1.unwish
 by_cases hd:ds.length=n
 ·rw [if_pos hd] at p1
  have hl:us.length=ps.length:=by rw [<- r.length,<- rvs.length,hd,hn]
  have hb2:=hb s1 us I1.kIn (by rw [List.append_nil];exact hl)
  rw [List.append_nil] at hb2
  refine wpAny_call (codeAny_mono (F.run X.A X.stack s1 H1 ⟨us,[]⟩ us vs Q (λev _ H=>∀ a,ev=.ref a->F0 a H) hr I1.env0 hb2 r ⟨by rw [<- rvs.length];exact hd,μ1,S1,ds,rvs,r1,p1.ximp λ_ _ _ _ a _ _ _ _ h a' z=>by cases z;exact h⟩) λres s' hq=>?_)
  cases res with
  | error ev=>
   obtain ⟨a',C,d,tb,H',he,os,bare,un,hok,fx,q⟩:=hq
   exact ⟨a',H',C,d,tb,he,I1.call' (ch:=[]) os un hok bare (λb z=>absurd z (by simp)),fx,q a' he⟩
  | ok fl=>
   cases fl with
   | ret u=>exact I1.after hq
   | next=>exact False.elim hq
   | brk=>exact False.elim hq
   | cont=>exact False.elim hq
 ·rw [if_neg hd] at p1;exact p1.elim
noncomputable def K3 (d:D):M Fl:=match d with
 | .ref n=>λS=>match S[n]? with
  | some (.exc _ _)=>.exn n S
  | _=>.bad
 | _=>bad
theorem a9i (hc:X.calm=true) (h:PE X e (tDf X.K cl (xOf X) f)):PS X (.Raise (some e) none pos) (sD X.K cl (xOf X) λρ=>bind (f ρ) K3):=by
 intro pins s σ H D I ⟨μ,S,ρ,eo,rp,p⟩
 show wpAny _ _ (do standAt pos;raiseStmt X.env (some (do let v <- eval e X.env;standAt pos;pure v)) none) _ _ _
 refine wpAny_bind (wpAny_standAt (a06 (K:=X.K) (I.ok.hd hc) (wpAny_bind (wpAny_mono (h pins s σ H (λv H1=>∃ (x C:Addr) (d:Option Addr) (μ1:Mp) (S1:Sto) (n c:Nat) (fs:List (Str×L3.D)),v=.ref x/\XC X.K C/\H1 x=some (J0 x C d)/\Rep X.K cl μ1 S1 H1/\S1[n]?=some (O.exc c fs)/\μ1.pl[n]?=some x/\xOf X x H1) I ⟨μ,S,ρ,eo,rp,p.bind.imp λd S1 μ1 H1 l1 r1 p1 v rv fr=>?_⟩)
  (λu s1 ⟨v,H1,I1,ru,x,C,d,μ1,S1,n,c,fs,ev,xc,ex,r1,e1,e2,xo⟩=>wpAny_bind (wpAny_standAt (wpAny_pure ?_))) λ_ _ z=>z))))
 ·cases rv with
  | ref hp=>
   rename_i n a
   obtain ⟨x,C,d,ev,xc,ex⟩:=fr
   cases ev
   simp only [K3] at p1
   cases q:S1[n]? with
   | none=>rw [q] at p1;exact p1.elim
   | some o=>
    rw [q] at p1
    cases o with
    | exc c fs=>exact ⟨_,C,d,μ1,S1,n,c,fs,rfl,xc,ex,r1,q,hp,p1 μ1 H1 _ (Lat.refl _ _) r1 hp⟩
    | lst _=>exact p1.elim
    | dct _=>exact p1.elim
  | _=>exact False.elim p1
 ·subst ev
  obtain rfl:u=Value.ref x:=ru
  have fx:=(a9q I1.hok (r1.ats n _ x e1 e2) ex λT z=>(nomatch z)).2
  exact ⟨x,C,d,rfl,I1.kIn,xc,I1.isX ex,xo pins σ s1 C d none I1 fx⟩
end
section
variable {K:PySem.W.Frag} {cl:Nat->Addr} {xe xe':Addr->Hp->Prop} {α:Type} {μ:Mp} {H:Hp}
theorem Post.up {r:R α} {G:α->Sto->Mp->Hp->Prop} (p:Post K cl xe μ H r G) (k:∀ a H',xe a H'->xe' a H'):Post K cl xe' μ H r G:=p.ximp λ_ _ _ H' a _ _ _ _ h=>k a H' h
theorem Post.x0 {r:R α} {G:α->Sto->Mp->Hp->Prop} (p:Post K cl (b0j E0) μ H r G):Post K cl xe μ H r G:=p.up λ_ _ z=>False.elim z
end
noncomputable abbrev x0:Addr->Hp->Prop:=b0j E0
section
variable {X:Cx} {cl:Nat->Addr} {xe:Addr->Hp->Prop} {e tg:Expr} {es:List Expr}
theorem PE.x0 {f:Env->M D} (h:PE X e (tD X.K cl xe f)):PE X e (tD X.K cl x0 f):=PE.imp h λσ H Q ⟨μ,S,ρ,eo,rp,p⟩=>⟨μ,S,ρ,eo,rp,p.x0⟩
theorem PTL.x0 {f:Env->M Bool} (h:PTL X es (tBo X.K cl xe f)):PTL X es (tBo X.K cl x0 f):=λpins s σ H Q I ⟨μ,S,ρ,eo,rp,p⟩=>h pins s σ H Q I ⟨μ,S,ρ,eo,rp,p.x0⟩
theorem PA.x0 {f:Env->M (List D)} (h:PA X es (tDs X.K cl xe f)):PA X es (tDs X.K cl x0 f):=PA.imp h λσ H Q ⟨μ,S,ρ,eo,rp,p⟩=>⟨μ,S,ρ,eo,rp,p.x0⟩
theorem PI.x0 {f:Env->M (Src×Nat)} (h:PI X tg e (tIt X.K cl xe f)):PI X tg e (tIt X.K cl x0 f):=PI.imp h λσ H Q ⟨μ,S,ρ,eo,rp,p⟩=>⟨μ,S,ρ,eo,rp,p.x0⟩
theorem PSs.x0 {sts:List Stmt} {f:Env->M Fl} (h:PSs X sts (sD X.K cl xe f)):PSs X sts (sD X.K cl x0 f):=PSs.imp h λD σ H ⟨μ,S,ρ,eo,rp,p⟩=>⟨μ,S,ρ,eo,rp,p.x0⟩
theorem a6w {fs:Env->M (List D)} (h:PE X e (a94 X.K cl x0 fs)):PE X e (tD X.K cl xe λρ=>bind (nx (fs ρ)) λds=>ret (.lst ds)):=PE.imp h λσ H Q ⟨μ,S,ρ,eo,rp,p⟩=>
 ⟨μ,S,ρ,eo,rp,p.bind.nx.imp λds S1 μ1 H1 l1 r1 p1 acc ys hl rds=>p1.ret μ1 H1 (Lat.refl _ _) r1 _ (.lst hl rds)⟩
theorem b7a:A0 (CXd X.prog X.w X.K) X (λev _ H=>∀ a,ev=.ref a->xOf X a H):=λpins σ H s e s' I ⟨a,C,d,tb,H',he,os,bare,un,hok,fx,q⟩=>by
 subst he
 exact q a rfl pins σ s' C d tb (I.call' (ch:=[]) os un hok bare λb z=>absurd z (by simp)) fx
theorem b0f {k n:Nat} {a:Addr} {fd:FuncData} {ps:List Str} {x:Str} {p pos:Pos} {fs:Env->M (List D)} {run:List D->M D} (F:FnOk X.prog X.w X.K X.mg X.base (CXd X.prog X.w X.K) k a fd ps (spX X.K cl n run)) (hr:Room false k X.A) (hg:Gl X x) (hm:X.mg x=some (.ref a)) (hk:PySem.W.keepIn X.K (.ref a)=true) (hb:Binds X.K fd ps [])
  (ha:PA X (e :: es) (tDs X.K cl (xOf X) fs)) (hdb:(x==("__debug__" : Str))=false) (hs:(e :: es).all noStar=true) :
  PE X (.Call (.Name x p) (e :: es) [] pos) (tD X.K cl (xOf X) λρ=>bind (fs ρ) λds=>if ds.length=n then run ds else bad):=by
 rw [List.all_cons,Bool.and_eq_true] at hs
 exact PE.imp (b4j F hr hg hm hk hb .nil b7a ha hdb (d8 hs.1) (k8 hs.2)) λσ H Q ⟨μ,S,ρ,eo,rp,p⟩=>
  ⟨μ,S,ρ,eo,rp,p.bind.imp λds S1 μ1 H1 l1 r1 p1 vs rvs=>by
   by_cases hd:ds.length=n
   ·rw [if_pos hd] at p1
    exact ⟨by rw [List.append_nil,<- rvs.length];exact hd,μ1,S1,ds,by rw [List.append_nil];exact rvs,r1,p1.up λa H' h a' z=>by cases z;exact h⟩
   ·rw [if_neg hd] at p1;exact p1.elim⟩
theorem a8j {k:Nat} {a:Addr} {fd:FuncData} {ps:List Str} {x:Str} {p pos:Pos} {run:List D->M D} (F:FnOk X.prog X.w X.K X.mg X.base (CXd X.prog X.w X.K) k a fd ps (spX X.K cl 0 run)) (hr:Room false k X.A) (hg:Gl X x) (hm:X.mg x=some (.ref a)) (hk:PySem.W.keepIn X.K (.ref a)=true) (hb:Binds X.K fd ps [])
  (hdb:(x==("__debug__" : Str))=false):PE X (.Call (.Name x p) [] [] pos) (tD X.K cl (xOf X) λρ=>run []):=PE.imp (b06 F hr hg hm hk hb .nil b7a hdb) λσ H Q ⟨μ,S,ρ,eo,rp,p⟩=>⟨rfl,μ,S,[],.nil,rp,p.up λa H' h a' z=>by cases z;exact h⟩
end
inductive G where
 | val (d:D) | fn (i n:Nat) | err (c:Nat) (fs:List Str) | dct (kvs:List (Str×D))
structure Gm where
 gl:List (Str×G)
 sub:Nat->Nat->Bool
 flds:List Str
 qs:List Nat:=[]
structure Lc where
 N:List Str
 sc:Scope
 fr:Bool
 mu:List Str
noncomputable def quiet (lc:Lc):Bool:=lc.mu.contains ("~" : Str)
structure Ev where
 e:Lc->Expr->Env->M D
 t:Lc->Expr->Env->M Bool
 s:Lc->Stmt->Env->M Fl
 i:Lc->Expr->Expr->Env->M (Src×Nat)
structure EvK where
 e:Lc->Expr->Env->∀ {α:Type},(D->M α)->M α
 t:Lc->Expr->Env->∀ {α:Type},(Bool->M α)->M α
 s:Lc->Stmt->Env->∀ {α:Type},(Fl->M α)->M α
 i:Lc->Expr->Expr->Env->∀ {α:Type},(Src×Nat->M α)->M α
structure EqK (r:Ev) (q:EvK):Prop where
 e:∀ lc e ρ {α:Type} (k:D->M α),q.e lc e ρ k=bind (r.e lc e ρ) k
 t:∀ lc e ρ {α:Type} (k:Bool->M α),q.t lc e ρ k=bind (r.t lc e ρ) k
 s:∀ lc e ρ {α:Type} (k:Fl->M α),q.s lc e ρ k=bind (r.s lc e ρ) k
 i:∀ lc g e ρ {α:Type} (k:Src×Nat->M α),q.i lc g e ρ k=bind (r.i lc g e ρ) k
theorem a3i {α β:Type} (k:α->M β):bind bad k=bad:=rfl
theorem n4 {α β:Type} {c:Prop} [Decidable c] (a b:M α) (k:α->M β):bind (if c then a else b) k=if c then bind a k else bind b k:=by split <;> rfl
theorem G5 {α:Type} (m:M α):bind m ret=m:=by
 funext S;unfold bind ret;cases m S <;> rfl
noncomputable def d3:List Str->Str->Option Nat
 | [],_=>none
 | y :: ys,x=>if y=x then some 0 else (d3 ys x).map (· + 1)
theorem k7:∀ {N:List Str} {x:Str} {i:Nat},d3 N x=some i->N[i]?=some x
 | [],_,_,e=>by cases e
 | y :: ys,x,i,e=>by
  unfold d3 at e
  split at e
  ·rename_i h;cases e;simp [h]
  ·cases q:d3 ys x with
   | none=>rw [q] at e;cases e
   | some j=>rw [q] at e;cases e;simpa using k7 q
noncomputable def a97 (sc:Scope) (x:Str):Bool:=decide (sc.names.lookup x=some .local)||decide (sc.names.lookup x=some .cell)||decide (sc.names.lookup x=some .free)
noncomputable def X4 (sc:Scope) (x:Str):Bool:=decide (sc.names.lookup x=some .local)||decide (sc.names.lookup x=some .cell)
noncomputable def glB (sc:Scope) (x:Str):Bool:=decide (sc.names.lookup x=some .globalImplicit)
noncomputable def p9 (x:Str):Bool:=!(x==("__debug__" : Str))&&!(x==("__classdict__" : Str))&&!(x==("__name__" : Str))
theorem b51 {sc:Scope} {x:Str} (h:a97 sc x=true):Vis sc x:=by
 simpa [a97,Vis,or_assoc] using h
theorem w6 {sc:Scope} {x:Str} (h:X4 sc x=true):L2.Loc sc x:=by
 simpa [X4,L2.Loc] using h
theorem u7 {x:Str} (h:p9 x=true):(x==("__debug__" : Str))=false/\(x==("__classdict__" : Str))=false/\x ≠ "__name__":=by
 simpa [p9,and_assoc] using h
structure Tx where
 P:Program
 w:World
 K:PySem.W.Frag
 mg:Str->Option Value
 base:Heap
 cl:Nat->Addr
noncomputable def bnames:List Str:=["len","tuple","list","repr","isinstance","range","int","bool","str","dict","ValueError","all","any","sum","max","min","sorted","set","enumerate","abs","zip"]
noncomputable abbrev CXq (q:Bool):CXT:=⟨λ_ _ _ _ _ _=>False,q⟩
structure FnX (T:Tx) (k i n:Nat) (x:Str) (run:List D->M D):Prop where
 ex:∃ (a:Addr) (fd:FuncData) (ps:List Str),ps.length=n/\FnOk T.P T.w T.K T.mg T.base (CXd T.P T.w T.K) k a fd ps (spX T.K T.cl n run)/\T.mg x=some (.ref a)/\PySem.W.keepIn T.K (.ref a)=true/\Binds T.K fd ps []
structure FnAt (T:Tx) (k i n:Nat) (x:Str) (run:List D->M D):Prop where
 ex:∃ (a:Addr) (fd:FuncData) (ps:List Str),ps.length=n/\FnOk T.P T.w T.K T.mg T.base (CXq true) k a fd ps (spD T.K T.cl n run)/\T.mg x=some (.ref a)/\PySem.W.keepIn T.K (.ref a)=true/\Binds T.K fd ps []
structure ErrAt (T:Tx) (x:Str) (c:Nat) (fs:List Str):Prop where
 xc:XC T.K (T.cl c)
 mg_:T.mg x=some (.ref (T.cl c))
 ex:∃ (f:Addr) (fd:FuncData) (ps:List Str),PySem.W.findIn T.K (.ref (T.cl c)) "__init__" = some (some (.ref f))/\PySem.W.isFn T.K (.ref f)=true/\Binds T.K fd ps [] /\
  match fs with
  | []=>FnOk T.P T.w T.K T.mg T.base CX0 2 f fd ps (Hn.spHE T.K)
  | [g]=>FnOk T.P T.w T.K T.mg T.base CX0 2 f fd ps (Hn.sp1 T.K g)
  | [g,g2]=>FnOk T.P T.w T.K T.mg T.base CX0 2 f fd ps (Hn.sp2 T.K g g2)
  | _=>False
def b2d (T:Tx) (x:Str) (kvs:List (Str×D)):Prop:=∃ (a:Addr) (es:Array DictEntry) (n:Nat),T.mg x=some (.ref a)/\T.K.lookup a=some ⟨.type "dict",none,.dict es n,#[]⟩/\PySem.W.KeysLit T.w.params es.toList/\∀ k d,kvs.lookup k=some d->∃ u v,PySem.W.nsIn T.K a k=some (some u)/\RelV v u/\∀ μ H,RD T.K μ H d v
structure TxOk (T:Tx) (Γ:Gm) (k:Nat) (C:Nat->List D->M D):Prop where
 blt:∀ x∈bnames,Γ.gl.lookup x=none->T.mg x=none
 val:∀ x d,Γ.gl.lookup x=some (.val d)->∃ u v,T.mg x=some u/\RelV v u/\∀ μ H,RD T.K μ H d v
 fn:∀ x i n,Γ.gl.lookup x=some (.fn i n)->i∉Γ.qs->FnX T k i n x (C i)
 fnq:∀ x i n,Γ.gl.lookup x=some (.fn i n)->i∈Γ.qs->FnAt T k i n x (C i)
 err:∀ x c fs,Γ.gl.lookup x=some (.err c fs)->ErrAt T x c fs/\(∀ g∈fs,t7 T.K (T.cl c) g)
 sub:∀ x c c0 fs,Γ.gl.lookup x=some (.err c0 fs)->XC T.K (T.cl c)->PySem.W.kitOne T.K (.ref (T.cl c)) (.ref (T.cl c0))=some (Γ.sub c c0)
 subV:∀ c,XC T.K (T.cl c)->PySem.W.kitOne T.K (.ref (T.cl c)) (.type "ValueError")=some true
 subT:∀ c,XC T.K (T.cl c)->∀ t∈tys,PySem.W.kitOne T.K (.ref (T.cl c)) (.type t)=some false
 fld:∀ g∈Γ.flds,∀ c,XC T.K (T.cl c)->t7 T.K (T.cl c) g
 dct:∀ x kvs,Γ.gl.lookup x=some (.dct kvs)->b2d T x kvs
 k3:3<=k
structure CxOk (T:Tx) (k:Nat) (lc:Lc) (X:Cx):Prop where
 prog:X.prog=T.P
 w:X.w=T.w
 K:X.K=T.K
 mg:X.mg=T.mg
 base:X.base=T.base
 N:X.N=lc.N
 nd:lc.N.Nodup
 sc:X.env.scope=lc.sc
 calm:quiet lc=false->X.calm=true
 room:Room (quiet lc) k X.A
 po:PassesOwn (model X.prog X.w) X.A X.env X.xe
 fn:X.fn=λ_=>lc.fr
 kd:lc.sc.kind=.function
 own:lc.fr=true->quiet lc=false->X.stack=X.env :: X.outer/\X.env.frame=some X.env.locals
structure EvOk (T:Tx) (k:Nat) (r:Ev):Prop where
 e:∀ lc X,CxOk T k lc X->∀ e,PE X e (tD T.K T.cl (xOf X) (r.e lc e))
 t:∀ lc X,CxOk T k lc X->∀ e,PT X e (tBo T.K T.cl (xOf X) (r.t lc e))
 s:∀ lc X,CxOk T k lc X->lc.fr=true->∀ st,PS X st (sD T.K T.cl (xOf X) (r.s lc st))
 i:∀ lc X,CxOk T k lc X->∀ g e,PI X g e (tIt T.K T.cl (xOf X) (r.i lc g e))
section
variable {T:Tx} {k:Nat} {r:Ev} {Γ:Gm} {C:Nat->List D->M D} {lc:Lc} {X:Cx} {pos:Pos}
theorem EvOk.ex (R:EvOk T k r) (h:CxOk T k lc X) (e:Expr):PE X e (tD X.K T.cl (xOf X) (r.e lc e)):=by rw [h.K];exact R.e lc X h e
theorem EvOk.tx (R:EvOk T k r) (h:CxOk T k lc X) (e:Expr):PT X e (tBo X.K T.cl (xOf X) (r.t lc e)):=by rw [h.K];exact R.t lc X h e
theorem EvOk.ix (R:EvOk T k r) (h:CxOk T k lc X) (g e:Expr):PI X g e (tIt X.K T.cl (xOf X) (r.i lc g e)):=by rw [h.K];exact R.i lc X h g e
theorem EvOk.sx (R:EvOk T k r) (h:CxOk T k lc X) (hf:lc.fr=true) (st:Stmt):PS X st (sD X.K T.cl (xOf X) (r.s lc st)):=by rw [h.K];exact R.s lc X h hf st
theorem CxOk.u64 (h:CxOk T k lc X):X.A.units+64<cLine:=h.room.units
theorem CxOk.u80 (h:CxOk T k lc X):X.A.units+80<cLine:=by have:=h.room.un;omega
theorem CxOk.u1 (h:CxOk T k lc X):X.A.units+1<cLine:=c3b h.room
theorem CxOk.gl (h:CxOk T k lc X) {x:Str} (hg:glB lc.sc x=true):Gl X x:=by
 show X.env.kindOf x=_
 unfold PySem.Env.kindOf
 rw [h.sc]
 exact of_decide_eq_true hg
theorem TxOk.none (TX:TxOk T Γ k C) (h:CxOk T k lc X) {x:Str} (hx:x∈bnames) (e:Γ.gl.lookup x=none):X.mg x=none:=by rw [h.mg];exact TX.blt x hx e
theorem CxOk.nd' (h:CxOk T k lc X):X.N.Nodup:=by rw [h.N];exact h.nd
theorem CxOk.fn1 (h:CxOk T k lc X) (hf:lc.fr=true) {x:Str}:X.fn x=true:=by rw [h.fn];exact hf
theorem CxOk.room0 (h:CxOk T k lc X) (hq:quiet lc=false):Room false k X.A:=by have:=h.room;rw [hq] at this;exact this
theorem CxOk.nox (h:CxOk T k lc X):CxOk T k lc X.nox:=⟨h.prog,h.w,h.K,h.mg,h.base,h.N,h.nd,h.sc,h.calm,h.room,PassesOwn.never,h.fn,h.kd,h.own⟩
end
noncomputable abbrev Cf:=Nat->List D->M D
structure RuE:Type 1 where
 is:Gm->Lc->Expr->Bool
 run:Ev->Gm->Cf->Lc->Expr->Env->M D
 ok:∀ {T:Tx} {k:Nat} {r:Ev} {Γ:Gm} {C:Cf} {lc:Lc} {X:Cx} (e:Expr),EvOk T k r->TxOk T Γ k C->CxOk T k lc X->is Γ lc e=true->PE X e (tD X.K T.cl (xOf X) (run r Γ C lc e))
 runK:EvK->Gm->Cf->Lc->Expr->Env->∀ {α:Type},(D->M α)->M α
 eq:∀ {r:Ev} {q:EvK} {Γ:Gm} {C:Cf} {lc:Lc} (e:Expr) (ρ:Env) {α:Type} (k:D->M α),EqK r q->runK q Γ C lc e ρ k=bind (run r Γ C lc e ρ) k
structure RuT:Type 1 where
 is:Gm->Lc->Expr->Bool
 run:Ev->Gm->Cf->Lc->Expr->Env->M Bool
 ok:∀ {T:Tx} {k:Nat} {r:Ev} {Γ:Gm} {C:Cf} {lc:Lc} {X:Cx} (e:Expr),EvOk T k r->TxOk T Γ k C->CxOk T k lc X->is Γ lc e=true->PT X e (tBo X.K T.cl (xOf X) (run r Γ C lc e))
 runK:EvK->Gm->Cf->Lc->Expr->Env->∀ {α:Type},(Bool->M α)->M α
 eq:∀ {r:Ev} {q:EvK} {Γ:Gm} {C:Cf} {lc:Lc} (e:Expr) (ρ:Env) {α:Type} (k:Bool->M α),EqK r q->runK q Γ C lc e ρ k=bind (run r Γ C lc e ρ) k
structure RuS:Type 1 where
 is:Gm->Lc->Stmt->Bool
 run:Ev->Gm->Cf->Lc->Stmt->Env->M Fl
 ok:∀ {T:Tx} {k:Nat} {r:Ev} {Γ:Gm} {C:Cf} {lc:Lc} {X:Cx} (e:Stmt),EvOk T k r->TxOk T Γ k C->CxOk T k lc X->lc.fr=true->is Γ lc e=true->PS X e (sD X.K T.cl (xOf X) (run r Γ C lc e))
 runK:EvK->Gm->Cf->Lc->Stmt->Env->∀ {α:Type},(Fl->M α)->M α
 eq:∀ {r:Ev} {q:EvK} {Γ:Gm} {C:Cf} {lc:Lc} (e:Stmt) (ρ:Env) {α:Type} (k:Fl->M α),EqK r q->runK q Γ C lc e ρ k=bind (run r Γ C lc e ρ) k
structure RuI:Type 1 where
 is:Gm->Lc->Expr->Expr->Bool
 run:Ev->Gm->Cf->Lc->Expr->Env->M (Src×Nat)
 ok:∀ {T:Tx} {k:Nat} {r:Ev} {Γ:Gm} {C:Cf} {lc:Lc} {X:Cx} (g e:Expr),EvOk T k r->TxOk T Γ k C->CxOk T k lc X->is Γ lc g e=true->PI X g e (tIt X.K T.cl (xOf X) (run r Γ C lc e))
 runK:EvK->Gm->Cf->Lc->Expr->Env->∀ {α:Type},(Src×Nat->M α)->M α
 eq:∀ {r:Ev} {q:EvK} {Γ:Gm} {C:Cf} {lc:Lc} (e:Expr) (ρ:Env) {α:Type} (k:Src×Nat->M α),EqK r q->runK q Γ C lc e ρ k=bind (run r Γ C lc e ρ) k
structure Rules:Type 1 where
 es:List RuE
 ts:List RuT
 ss:List RuS
 is:List RuI
section
variable (Rs:Rules) (Γ:Gm) (C:Cf)
noncomputable def step (r:Ev):Ev:=
 ⟨λlc e=>match Rs.es.find? (λR=>R.is Γ lc e) with
  | some R=>R.run r Γ C lc e
  | none=>λ_=>bad,
 λlc e=>match Rs.ts.find? (λR=>R.is Γ lc e) with
  | some R=>R.run r Γ C lc e
  | none=>λ_=>bad,
 λlc e=>match Rs.ss.find? (λR=>R.is Γ lc e) with
  | some R=>R.run r Γ C lc e
  | none=>λ_=>bad,
 λlc g e=>match Rs.is.find? (λR=>R.is Γ lc g e) with
  | some R=>R.run r Γ C lc e
  | none=>λ_=>bad⟩
noncomputable def badEv:Ev:=⟨λ_ _ _=>bad,λ_ _ _=>bad,λ_ _ _=>bad,λ_ _ _ _=>bad⟩
noncomputable def ev:Nat->Ev
 | 0=>badEv
 | n+1=>step Rs Γ C (ev n)
noncomputable def b6p (q:EvK):EvK:=
 ⟨λlc e ρ _ k=>match Rs.es.find? (λR=>R.is Γ lc e) with
  | some R=>R.runK q Γ C lc e ρ k
  | none=>bad,
 λlc e ρ _ k=>match Rs.ts.find? (λR=>R.is Γ lc e) with
  | some R=>R.runK q Γ C lc e ρ k
  | none=>bad,
 λlc e ρ _ k=>match Rs.ss.find? (λR=>R.is Γ lc e) with
  | some R=>R.runK q Γ C lc e ρ k
  | none=>bad,
 λlc g e ρ _ k=>match Rs.is.find? (λR=>R.is Γ lc g e) with
  | some R=>R.runK q Γ C lc e ρ k
  | none=>bad⟩
noncomputable def c6n:EvK:=⟨λ_ _ _ _ _=>bad,λ_ _ _ _ _=>bad,λ_ _ _ _ _=>bad,λ_ _ _ _ _ _=>bad⟩
noncomputable def evK:Nat->EvK
 | 0=>c6n
 | n+1=>b6p Rs Γ C (evK n)
end
section
variable {Rs:Rules} {T:Tx} {k:Nat} {r:Ev} {q:EvK} {Γ:Gm} {C:Cf} {lc:Lc} {X:Cx}
theorem a1s (TX:TxOk T Γ k C) (R:EvOk T k r):EvOk T k (step Rs Γ C r):=by
 refine ⟨λlc X h e=>?_,λlc X h e=>?_,λlc X h hf e=>?_,λlc X h g e=>?_⟩
 ·rw [<- h.K]
  show PE X e (tD X.K T.cl (xOf X) (match Rs.es.find? (λR=>R.is Γ lc e) with
   | some R=>R.run r Γ C lc e
   | none=>λ_=>bad))
  cases hf:Rs.es.find? (λR=>R.is Γ lc e) with
  | none=>exact i6
  | some R0=>exact R0.ok e R TX h (by have:=List.find?_some hf;exact this)
 ·rw [<- h.K]
  show PT X e (tBo X.K T.cl (xOf X) (match Rs.ts.find? (λR=>R.is Γ lc e) with
   | some R=>R.run r Γ C lc e
   | none=>λ_=>bad))
  cases hf:Rs.ts.find? (λR=>R.is Γ lc e) with
  | none=>exact a4b
  | some R0=>exact R0.ok e R TX h (by have:=List.find?_some hf;exact this)
 ·rw [<- h.K]
  show PS X e (sD X.K T.cl (xOf X) (match Rs.ss.find? (λR=>R.is Γ lc e) with
   | some R=>R.run r Γ C lc e
   | none=>λ_=>bad))
  cases hq:Rs.ss.find? (λR=>R.is Γ lc e) with
  | none=>exact D3
  | some R0=>exact R0.ok e R TX h hf (by have:=List.find?_some hq;exact this)
 ·rw [<- h.K]
  show PI X g e (tIt X.K T.cl (xOf X) (match Rs.is.find? (λR=>R.is Γ lc g e) with
   | some R=>R.run r Γ C lc e
   | none=>λ_=>bad))
  cases hf:Rs.is.find? (λR=>R.is Γ lc g e) with
  | none=>exact a5z
  | some R0=>exact R0.ok g e R TX h (by have:=List.find?_some hf;exact this)
theorem b1s:EvOk T k badEv:=⟨λlc X h e=>by rw [<- h.K];exact i6,λlc X h e=>by rw [<- h.K];exact a4b,λlc X h _ st=>by rw [<- h.K];exact D3,λlc X h g e=>by rw [<- h.K];exact a5z⟩
theorem b08 (TX:TxOk T Γ k C):∀ n,EvOk T k (ev Rs Γ C n)
 | 0=>b1s
 | n+1=>a1s TX (b08 TX n)
theorem b34 (h:EqK r q):EqK (step Rs Γ C r) (b6p Rs Γ C q):=by
 refine ⟨λlc e ρ _ k=>?_,λlc e ρ _ k=>?_,λlc e ρ _ k=>?_,λlc g e ρ _ k=>?_⟩
 ·show (match Rs.es.find? (λ(R:RuE)=>R.is Γ lc e) with
   | some R=>R.runK q Γ C lc e ρ k
   | none=>bad)=bind ((match Rs.es.find? (λ(R:RuE)=>R.is Γ lc e) with
   | some R=>R.run r Γ C lc e
   | none=>λ_=>bad) ρ) k
  cases Rs.es.find? (λ(R:RuE)=>R.is Γ lc e) with
  | none=>rfl
  | some R0=>exact R0.eq e ρ k h
 ·show (match Rs.ts.find? (λ(R:RuT)=>R.is Γ lc e) with
   | some R=>R.runK q Γ C lc e ρ k
   | none=>bad)=bind ((match Rs.ts.find? (λ(R:RuT)=>R.is Γ lc e) with
   | some R=>R.run r Γ C lc e
   | none=>λ_=>bad) ρ) k
  cases Rs.ts.find? (λ(R:RuT)=>R.is Γ lc e) with
  | none=>rfl
  | some R0=>exact R0.eq e ρ k h
 ·show (match Rs.ss.find? (λ(R:RuS)=>R.is Γ lc e) with
   | some R=>R.runK q Γ C lc e ρ k
   | none=>bad)=bind ((match Rs.ss.find? (λ(R:RuS)=>R.is Γ lc e) with
   | some R=>R.run r Γ C lc e
   | none=>λ_=>bad) ρ) k
  cases Rs.ss.find? (λ(R:RuS)=>R.is Γ lc e) with
  | none=>rfl
  | some R0=>exact R0.eq e ρ k h
 ·show (match Rs.is.find? (λ(R:RuI)=>R.is Γ lc g e) with
   | some R=>R.runK q Γ C lc e ρ k
   | none=>bad)=bind ((match Rs.is.find? (λ(R:RuI)=>R.is Γ lc g e) with
   | some R=>R.run r Γ C lc e
   | none=>λ_=>bad) ρ) k
  cases Rs.is.find? (λ(R:RuI)=>R.is Γ lc g e) with
  | none=>rfl
  | some R0=>exact R0.eq e ρ k h
theorem b6v:∀ n,EqK (ev Rs Γ C n) (evK Rs Γ C n)
 | 0=>⟨λ_ _ _ _ _=>rfl,λ_ _ _ _ _=>rfl,λ_ _ _ _ _=>rfl,λ_ _ _ _ _ _=>rfl⟩
 | n+1=>b34 (b6v n)
end
section
variable (r:Ev) (q:EvK) (lc:Lc)
noncomputable def o9:List Expr->Env->M (List D)
 | [],_=>ret []
 | e :: es,ρ=>bind (r.e lc e ρ) λd=>bind (o9 es ρ) λds=>ret (d :: ds)
noncomputable def r8 {α:Type}:List Expr->Env->(List D->M α)->M α
 | [],_,k=>k []
 | e :: es,ρ,k=>q.e lc e ρ λd=>r8 es ρ λds=>k (d :: ds)
noncomputable def O8:List Stmt->Env->M Fl
 | [],ρ=>ret (.nx ρ)
 | st :: sts,ρ=>c2w (r.s lc st) (O8 sts) ρ
noncomputable def p7 {α:Type}:List Stmt->Env->(Fl->M α)->M α
 | [],ρ,k=>k (.nx ρ)
 | st :: sts,ρ,k=>q.s lc st ρ λfl=>match fl with
  | .nx ρ'=>p7 sts ρ' k
  | fl=>k fl
end
section
variable {T:Tx} {k:Nat} {r:Ev} {q:EvK} {Γ:Gm} {C:Cf} {lc:Lc} {X:Cx} {pos:Pos}
theorem j6 (h:EqK r q):∀ (es:List Expr) (ρ:Env) {α:Type} (k:List D->M α),r8 q lc es ρ k=bind (o9 r lc es ρ) k
 | [],_,_,_=>rfl
 | e :: es,ρ,_,k=>by
  show q.e lc e ρ (λd=>r8 q lc es ρ λds=>k (d :: ds))=bind (bind (r.e lc e ρ) λd=>bind (o9 r lc es ρ) λds=>ret (d :: ds)) k
  rw [h.e,bind_assoc]
  congr;funext d
  rw [j6 h,bind_assoc];rfl
theorem W9 (h:EqK r q):∀ (sts:List Stmt) (ρ:Env) {α:Type} (k:Fl->M α),p7 q lc sts ρ k=bind (O8 r lc sts ρ) k
 | [],_,_,_=>rfl
 | st :: sts,ρ,_,k=>by
  show (q.s lc st ρ λfl=>match fl with
   | .nx ρ'=>p7 q lc sts ρ' k
   | fl=>k fl)=bind (bind (r.s lc st ρ) λfl=>match fl with
   | .nx ρ'=>O8 r lc sts ρ'
   | fl=>ret fl) k
  rw [h.s,bind_assoc]
  congr;funext fl
  cases fl with
  | nx ρ'=>exact W9 h sts ρ' k
  | bk ρ'=>rfl
  | ct ρ'=>rfl
  | rt d=>rfl
theorem k4 (R:EvOk T k r) (h:CxOk T k lc X):∀ {es:List Expr},es.all noStar=true->PA X es (tDs X.K T.cl (xOf X) (o9 r lc es))
 | [],_=>K8
 | e :: es,hs=>by
  rw [List.all_cons,Bool.and_eq_true] at hs
  exact A4 (R.ex h e) (k4 R h hs.2) hs.1
theorem K0 (R:EvOk T k r) (h:CxOk T k lc X) (hf:lc.fr=true):∀ {sts:List Stmt},PSs X sts (sD X.K T.cl (xOf X) (O8 r lc sts))
 | []=>b11
 | st :: sts=>b41 (R.sx h hf st) (K0 R h hf)
end
noncomputable def b1t (c:Const):M D:=match c with
 | .int i=>ret (.int i)
 | .bool b=>ret (.bl b)
 | .none=>ret .non
 | .str x=>ret (.str x)
 | _=>bad
noncomputable def b7i {α:Type} (c:Const) (k:D->M α):M α:=match c with
 | .int i=>k (.int i)
 | .bool b=>k (.bl b)
 | .none=>k .non
 | .str x=>k (.str x)
 | _=>bad
noncomputable def b99:RuE where
 is _ _ e:=match e with
  | .Constant _ _ _=>true
  | _=>false
 run _ _ _ _ e _:=match e with
  | .Constant c _ _=>b1t c
  | _=>bad
 ok e R TX h hi:=by
  cases e with
  | Constant c n p=>
   show PE _ _ (tD _ _ _ λ_=>b1t c)
   cases c <;> first
    | exact D8 c0j λ_ _=>.int _
    | exact D8 c4n λ_ _=>.bl _
    | exact D8 c0q λ_ _=>.non
    | exact D8 b8x λ_ _=>.str _
    | exact i6
  | _=>exact i6
 runK _ _ _ _ e _ _ k:=match e with
  | .Constant c _ _=>b7i c k
  | _=>bad
 eq e ρ _ k h:=by
  cases e with
  | Constant c n p=>cases c <;> rfl
  | _=>rfl
noncomputable def a3a (Γ:Gm) (lc:Lc) (x:Str) (ρ:Env):M D:=match d3 lc.N x with
 | some i=>if a97 lc.sc x=true then getD i ρ else bad
 | none=>if glB lc.sc x=true then (match Γ.gl.lookup x with
  | some (.val d)=>ret d
  | _=>bad) else bad
noncomputable def c4y {α:Type} (i:Nat) (ρ:Env) (k:D->M α):M α:=match ρ[i]? with
 | some (some d)=>k d
 | _=>bad
noncomputable def b0z {α:Type} (Γ:Gm) (lc:Lc) (x:Str) (ρ:Env) (k:D->M α):M α:=match d3 lc.N x with
 | some i=>if a97 lc.sc x=true then c4y i ρ k else bad
 | none=>if glB lc.sc x=true then (match Γ.gl.lookup x with
  | some (.val d)=>k d
  | _=>bad) else bad
theorem b59 {T:Tx} {k:Nat} {Γ:Gm} {C:Cf} {lc:Lc} {X:Cx} {pos:Pos} (TX:TxOk T Γ k C) (h:CxOk T k lc X) {x:Str} (hn:p9 x=true):PE X (.Name x pos) (tD X.K T.cl (xOf X) (a3a Γ lc x)):=by
 unfold a3a
 obtain ⟨n1,n2,n3⟩:=u7 hn
 cases e:d3 lc.N x with
 | some i=>
  by_cases hv:a97 lc.sc x=true
  ·simp only [if_pos hv]
   exact c0p (a80 (by rw [h.N];exact k7 e) (by rw [h.sc];exact b51 hv) n1 n2)
  ·simp only [if_neg hv];exact i6
 | none=>
  by_cases hv:glB lc.sc x=true
  ·simp only [if_pos hv]
   cases e2:Γ.gl.lookup x with
   | none=>exact i6
   | some g=>
    cases g with
    | val d=>
     obtain ⟨u,v,e3,rv,rd⟩:=TX.val x d e2
     exact D8 (b4g (u:=u) (h.gl hv) (by rw [h.mg];exact e3) rv n1) λμ H=>by rw [h.K];exact rd μ H
    | fn i n=>exact i6
    | err c fs=>exact i6
    | dct kvs=>exact i6
  ·simp only [if_neg hv];exact i6
theorem b6g (Γ:Gm) (lc:Lc) (x:Str) (ρ:Env) {α:Type} (k:D->M α):b0z Γ lc x ρ k=bind (a3a Γ lc x ρ) k:=by
 unfold b0z a3a
 cases d3 lc.N x with
 | some i=>
  simp only []
  split
  ·unfold c4y getD
   cases ρ[i]? with
   | none=>rfl
   | some o=>cases o <;> rfl
  ·rfl
 | none=>
  simp only []
  split
  ·cases Γ.gl.lookup x with
   | none=>rfl
   | some g=>cases g <;> rfl
  ·rfl
noncomputable def c2g:RuE where
 is _ _ e:=match e with
  | .Name x _=>p9 x
  | _=>false
 run _ Γ _ lc e ρ:=match e with
  | .Name x _=>a3a Γ lc x ρ
  | _=>bad
 ok e R TX h hi:=by
  cases e with
  | Name x p=>exact b59 TX h hi
  | _=>exact i6
 runK _ Γ _ lc e ρ _ k:=match e with
  | .Name x _=>b0z Γ lc x ρ k
  | _=>bad
 eq e ρ _ k h:=by
  cases e with
  | Name x p=>exact b6g _ _ x ρ k
  | _=>rfl
noncomputable def b96 (op:Operator):D->D->M D:=match op with
 | .Add=>E2
 | .Sub=>a0u
 | .Mult=>C5
 | .Mod=>V4
 | .FloorDiv=>Q1
 | .Pow=>a45
 | _=>λ_ _=>bad
noncomputable def d5 (op:CmpOp):D->D->M D:=match op with
 | .Eq=>eqD false
 | .NotEq=>eqD true
 | .Lt=>a8v λi j=>decide (i<j)
 | .LtE=>a8v λi j=>decide (i<=j)
 | .Gt=>a8v λi j=>decide (j<i)
 | .GtE=>a8v λi j=>decide (j<=i)
 | .In=>inD false
 | .NotIn=>inD true
 | .Is=>isD false
 | .IsNot=>isD true
theorem c0h {X:Cx} {cl:Nat->Addr} {xe:Addr->Hp->Prop} (op:Operator):OpR X (binaryOp op) (rP2 X.K cl xe (b96 op)):=by
 cases op <;> first
  | exact c3l
  | exact c14
  | exact c2o
  | exact c2c
  | exact b92
  | exact c1k
  | exact λpins s σ H x y v u Q I rx ry ⟨μ,S,d,e,rd,re,rp,p⟩=>p.elim
theorem a1o {T:Tx} {k:Nat} {lc:Lc} {X:Cx} {cl:Nat->Addr} {xe:Addr->Hp->Prop} (h:CxOk T k lc X) (op:CmpOp):OpR X (compareOp op) (rP2 X.K cl xe (d5 op)):=by
 cases op
 case Eq=>exact c58 h.u64
 case NotEq=>exact c6l h.u64
 case Lt=>exact a5b c1s
 case LtE=>exact a5b c2k
 case Gt=>exact a5b c2p
 case GtE=>exact a5b c46
 case In=>exact c4p false h.u80
 case NotIn=>exact c4p true h.u80
 case Is=>exact c44 false
 case IsNot=>exact c44 true
noncomputable def c5a:RuE where
 is _ _ e:=match e with
  | .BinOp _ _ _ _=>true
  | _=>false
 run r _ _ lc e ρ:=match e with
  | .BinOp a op b _=>bind (r.e lc a ρ) λx=>bind (r.e lc b ρ) λy=>b96 op x y
  | _=>bad
 ok e R TX h hi:=by
  cases e with
  | BinOp a op b p=>exact c0g (R.ex h _) (R.ex h _) (c0h _)
  | _=>exact i6
 runK q _ _ lc e ρ _ k:=match e with
  | .BinOp a op b _=>q.e lc a ρ λx=>q.e lc b ρ λy=>bind (b96 op x y) k
  | _=>bad
 eq e ρ _ k h:=by
  cases e with
  | BinOp a op b p=>simp only [h.e,bind_assoc]
  | _=>rfl
noncomputable def c49:RuE where
 is _ _ e:=match e with
  | .UnaryOp .Not _ _=>true
  | _=>false
 run r _ _ lc e ρ:=match e with
  | .UnaryOp .Not a _=>bind (r.e lc a ρ) λd=>bind (y7 d) λk=>ret (.bl (!k))
  | _=>bad
 ok e R TX h hi:=by
  split at hi
  ·exact b9k (R.ex h _)
  ·cases hi
 runK q _ _ lc e ρ _ k:=match e with
  | .UnaryOp .Not a _=>q.e lc a ρ λd=>bind (y7 d) λc=>k (.bl (!c))
  | _=>bad
 eq e ρ _ k h:=by
  split
  ·simp only [h.e,bind_assoc,f6]
  ·first
   | rfl
   | (rename_i hn;split;exact (hn _ _ rfl).elim;rfl)
noncomputable def c6u:RuE where
 is _ _ e:=match e with
  | .UnaryOp .USub _ _=>true
  | _=>false
 run r _ _ lc e ρ:=match e with
  | .UnaryOp .USub a _=>bind (r.e lc a ρ) a7i
  | _=>bad
 ok e R TX h hi:=by
  split at hi
  ·exact b8d (R.ex h _)
  ·cases hi
 runK q _ _ lc e ρ _ k:=match e with
  | .UnaryOp .USub a _=>q.e lc a ρ λd=>bind (a7i d) k
  | _=>bad
 eq e ρ _ k h:=by
  split
  ·simp only [h.e,bind_assoc]
  ·first
   | rfl
   | (rename_i hn;split;exact (hn _ _ rfl).elim;rfl)
section
variable (r:Ev) (q:EvK) (lc:Lc)
noncomputable def b0q:List Expr->Env->M D
 | [],_=>bad
 | [a],ρ=>r.e lc a ρ
 | a :: b :: es,ρ=>bind (r.e lc a ρ) λd=>bind (y7 d) λq=>if q=true then b0q (b :: es) ρ else ret d
noncomputable def orE:List Expr->Env->M D
 | [],_=>bad
 | [a],ρ=>r.e lc a ρ
 | a :: b :: es,ρ=>bind (r.e lc a ρ) λd=>bind (y7 d) λq=>if q=true then ret d else orE (b :: es) ρ
noncomputable def b6i {α:Type}:List Expr->Env->(D->M α)->M α
 | [],_,_=>bad
 | [a],ρ,k=>q.e lc a ρ k
 | a :: b :: es,ρ,k=>q.e lc a ρ λd=>bind (y7 d) λc=>if c=true then b6i (b :: es) ρ k else k d
noncomputable def orK {α:Type}:List Expr->Env->(D->M α)->M α
 | [],_,_=>bad
 | [a],ρ,k=>q.e lc a ρ k
 | a :: b :: es,ρ,k=>q.e lc a ρ λd=>bind (y7 d) λc=>if c=true then k d else orK (b :: es) ρ k
noncomputable def b0n:List Expr->Env->M Bool
 | [],_=>bad
 | [a],ρ=>r.t lc a ρ
 | a :: b :: es,ρ=>bind (r.t lc a ρ) λq=>if q=true then b0n (b :: es) ρ else ret false
noncomputable def orB:List Expr->Env->M Bool
 | [],_=>bad
 | [a],ρ=>r.t lc a ρ
 | a :: b :: es,ρ=>bind (r.t lc a ρ) λq=>if q=true then ret true else orB (b :: es) ρ
noncomputable def a58 {α:Type}:List Expr->Env->(Bool->M α)->M α
 | [],_,_=>bad
 | [a],ρ,k=>q.t lc a ρ k
 | a :: b :: es,ρ,k=>q.t lc a ρ λc=>if c=true then a58 (b :: es) ρ k else k false
noncomputable def b3p {α:Type}:List Expr->Env->(Bool->M α)->M α
 | [],_,_=>bad
 | [a],ρ,k=>q.t lc a ρ k
 | a :: b :: es,ρ,k=>q.t lc a ρ λc=>if c=true then k true else b3p (b :: es) ρ k
end
section
variable {T:Tx} {k:Nat} {r:Ev} {q:EvK} {Γ:Gm} {C:Cf} {lc:Lc} {X:Cx} {pos:Pos}
theorem b1l (R:EvOk T k r) (h:CxOk T k lc X):∀ {es:List Expr},PE X (.BoolOp .And es pos) (tD X.K T.cl (xOf X) (b0q r lc es))
 | []=>i6
 | [a]=>a88 (R.ex h a)
 | a :: b :: es=>c0a (R.ex h a) (b1l R h)
theorem b6y (R:EvOk T k r) (h:CxOk T k lc X):∀ {es:List Expr},PE X (.BoolOp .Or es pos) (tD X.K T.cl (xOf X) (orE r lc es))
 | []=>i6
 | [a]=>a88 (R.ex h a)
 | a :: b :: es=>c3n (R.ex h a) (b6y R h)
theorem a6j (R:EvOk T k r) (h:CxOk T k lc X):∀ {es:List Expr},PW X (.BoolOp .And es pos) (tBo X.K T.cl (xOf X) (b0n r lc es))
 | []=>pw_bad
 | [a]=>b25 (R.tx h a)
 | a :: b :: es=>b9w (R.tx h a) (a6j R h)
theorem b0l (R:EvOk T k r) (h:CxOk T k lc X):∀ {es:List Expr},PW X (.BoolOp .Or es pos) (tBo X.K T.cl (xOf X) (orB r lc es))
 | []=>pw_bad
 | [a]=>b8c (R.tx h a)
 | a :: b :: es=>c2q (R.tx h a) (b0l R h)
theorem b07 (h:EqK r q):∀ (es:List Expr) (ρ:Env) {α:Type} (k:D->M α),b6i q lc es ρ k=bind (b0q r lc es ρ) k
 | [],_,_,_=>rfl
 | [a],ρ,_,k=>h.e lc a ρ k
 | a :: b :: es,ρ,_,k=>by simp only [b6i,b0q,h.e,bind_assoc,n4,b07 h (b :: es),f6]
theorem b6q (h:EqK r q):∀ (es:List Expr) (ρ:Env) {α:Type} (k:D->M α),orK q lc es ρ k=bind (orE r lc es ρ) k
 | [],_,_,_=>rfl
 | [a],ρ,_,k=>h.e lc a ρ k
 | a :: b :: es,ρ,_,k=>by simp only [orK,orE,h.e,bind_assoc,n4,b6q h (b :: es),f6]
theorem a6d (h:EqK r q):∀ (es:List Expr) (ρ:Env) {α:Type} (k:Bool->M α),a58 q lc es ρ k=bind (b0n r lc es ρ) k
 | [],_,_,_=>rfl
 | [a],ρ,_,k=>h.t lc a ρ k
 | a :: b :: es,ρ,_,k=>by simp only [a58,b0n,h.t,bind_assoc,n4,a6d h (b :: es),f6]
theorem b0d (h:EqK r q):∀ (es:List Expr) (ρ:Env) {α:Type} (k:Bool->M α),b3p q lc es ρ k=bind (orB r lc es ρ) k
 | [],_,_,_=>rfl
 | [a],ρ,_,k=>h.t lc a ρ k
 | a :: b :: es,ρ,_,k=>by simp only [b3p,orB,h.t,bind_assoc,n4,b0d h (b :: es),f6]
end
noncomputable def c25:RuE where
 is _ _ e:=match e with
  | .BoolOp _ _ _=>true
  | _=>false
 run r _ _ lc e ρ:=match e with
  | .BoolOp .And es _=>b0q r lc es ρ
  | .BoolOp .Or es _=>orE r lc es ρ
  | _=>bad
 ok e R TX h hi:=by
  cases e with
  | BoolOp op es p=>cases op;exact b1l R h;exact b6y R h
  | _=>exact i6
 runK q _ _ lc e ρ _ k:=match e with
  | .BoolOp .And es _=>b6i q lc es ρ k
  | .BoolOp .Or es _=>orK q lc es ρ k
  | _=>bad
 eq e ρ _ k h:=by
  cases e with
  | BoolOp op es p=>cases op;exact b07 h es ρ k;exact b6q h es ρ k
  | _=>rfl
noncomputable def c5w:RuE where
 is _ _ e:=match e with
  | .Compare _ [_] [b] _=>t0 b
  | _=>false
 run r _ _ lc e ρ:=match e with
  | .Compare a [op] [b] _=>bind (r.e lc a ρ) λx=>bind (r.e lc b ρ) λy=>d5 op x y
  | _=>bad
 ok e R TX h hi:=by
  split at hi
  ·exact b8m (R.ex h _) (R.ex h _) (a1o h _) (P1 hi)
  ·cases hi
 runK q _ _ lc e ρ _ k:=match e with
  | .Compare a [op] [b] _=>q.e lc a ρ λx=>q.e lc b ρ λy=>bind (d5 op x y) k
  | _=>bad
 eq e ρ _ k h:=by
  split
  ·simp only [h.e,bind_assoc]
  ·first
   | rfl
   | (rename_i hn;split;exact (hn _ _ _ _ rfl).elim;rfl)
noncomputable def rIf:RuE where
 is _ _ e:=match e with
  | .IfExp _ _ _ _=>true
  | _=>false
 run r _ _ lc e ρ:=match e with
  | .IfExp c a b _=>bind (r.t lc c ρ) λq=>if q=true then r.e lc a ρ else r.e lc b ρ
  | _=>bad
 ok e R TX h hi:=by
  cases e with
  | IfExp c a b p=>exact c3e (R.tx h _) (R.ex h _) (R.ex h _)
  | _=>exact i6
 runK q _ _ lc e ρ _ k:=match e with
  | .IfExp c a b _=>q.t lc c ρ λz=>if z=true then q.e lc a ρ k else q.e lc b ρ k
  | _=>bad
 eq e ρ _ k h:=by
  cases e with
  | IfExp c a b p=>simp only [h.e,h.t,bind_assoc,n4]
  | _=>rfl
noncomputable def c50:RuE where
 is _ _ e:=match e with
  | .Tuple es _ _=>es.all noStar
  | _=>false
 run r _ _ lc e ρ:=match e with
  | .Tuple es _ _=>bind (o9 r lc es ρ) a8k
  | _=>bad
 ok e R TX h hi:=by
  cases e with
  | Tuple es n p=>exact b1a (k4 R h hi)
  | _=>exact i6
 runK q _ _ lc e ρ _ k:=match e with
  | .Tuple es _ _=>r8 q lc es ρ λds=>bind (a8k ds) k
  | _=>bad
 eq e ρ _ k h:=by
  cases e with
  | Tuple es n p=>simp only [j6 h,bind_assoc]
  | _=>rfl
noncomputable def c5e:RuE where
 is _ _ e:=match e with
  | .List es _=>es.all noStar
  | _=>false
 run r _ _ lc e ρ:=match e with
  | .List es _=>bind (o9 r lc es ρ) b9f
  | _=>bad
 ok e R TX h hi:=by
  cases e with
  | List es p=>exact b7s (k4 R h hi)
  | _=>exact i6
 runK q _ _ lc e ρ _ k:=match e with
  | .List es _=>r8 q lc es ρ λds=>bind (b9f ds) k
  | _=>bad
 eq e ρ _ k h:=by
  cases e with
  | List es p=>simp only [j6 h,bind_assoc]
  | _=>rfl
noncomputable def rIx:RuE where
 is _ _ e:=match e with
  | .Subscript _ i _=>C3 i
  | _=>false
 run r _ _ lc e ρ:=match e with
  | .Subscript a i _=>bind (r.e lc a ρ) λx=>bind (r.e lc i ρ) λy=>ixD x y
  | _=>bad
 ok e R TX h hi:=by
  cases e with
  | Subscript a i p=>exact c23 (R.ex h _) (R.ex h _) (c6r h.u1) (a35 hi)
  | _=>exact i6
 runK q _ _ lc e ρ _ k:=match e with
  | .Subscript a i _=>q.e lc a ρ λx=>q.e lc i ρ λy=>bind (ixD x y) k
  | _=>bad
 eq e ρ _ k h:=by
  cases e with
  | Subscript a i p=>simp only [h.e,bind_assoc]
  | _=>rfl
noncomputable def a25 (r:Ev) (lc:Lc) (o:Option Expr) (ρ:Env):M (Option Int):=match o with
 | none=>ret none
 | some e=>bind (r.e lc e ρ) a0q
noncomputable def a6q (q:EvK) (lc:Lc) {α:Type} (o:Option Expr) (ρ:Env) (k:Option Int->M α):M α:=match o with
 | none=>k none
 | some e=>q.e lc e ρ λd=>bind (a0q d) k
theorem b4a {r:Ev} {q:EvK} {lc:Lc} (h:EqK r q) (o:Option Expr) (ρ:Env) {α:Type} (k:Option Int->M α):a6q q lc o ρ k=bind (a25 r lc o ρ) k:=by
 cases o with
 | none=>rfl
 | some e=>simp only [a6q,a25,h.e,bind_assoc]
theorem a6b {T:Tx} {k:Nat} {r:Ev} {lc:Lc} {X:Cx} (R:EvOk T k r) (h:CxOk T k lc X) {o:Option Expr}:PO X o (tPt X.K T.cl (xOf X) (a25 r lc o)):=by
 cases o with
 | none=>exact b58
 | some e=>exact b5x (R.ex h e)
noncomputable def rSl:RuE where
 is _ _ e:=match e with
  | .Subscript _ (.Slice _ _ none _) _=>true
  | _=>false
 run r _ _ lc e ρ:=match e with
  | .Subscript a (.Slice lo hi none _) _=>bind (r.e lc a ρ) λd=>bind (a25 r lc lo ρ) λl=>bind (a25 r lc hi ρ) λu=>slD d l u
  | _=>bad
 ok e R TX h hi:=by
  split at hi
  ·exact c4u (R.ex h _) (a6b R h) (a6b R h)
  ·cases hi
 runK q _ _ lc e ρ _ k:=match e with
  | .Subscript a (.Slice lo hi none _) _=>q.e lc a ρ λd=>a6q q lc lo ρ λl=>a6q q lc hi ρ λu=>bind (slD d l u) k
  | _=>bad
 eq e ρ _ k h:=by
  split
  ·simp only [h.e,b4a h,bind_assoc]
  ·first
   | rfl
   | (rename_i hn;split;exact (hn _ _ _ _ _ rfl).elim;rfl)
noncomputable def b7r:RuE where
 is _ _ e:=match e with
  | .Compare _ [_,_] [_,c] _=>t0 c
  | _=>false
 run r _ _ lc e ρ:=match e with
  | .Compare a [op,op'] [b,c] _=>bind (r.e lc a ρ) λx=>bind (r.e lc b ρ) λy=>a1j (d5 op) (d5 op') x y (r.e lc c ρ)
  | _=>bad
 ok e R TX h hi:=by
  split at hi
  ·exact b2l (R.ex h _) (R.ex h _) (R.ex h _) (a1o h _) (a1o h _) (P1 hi)
  ·cases hi
 runK q _ _ lc e ρ _ k:=match e with
  | .Compare a [op,op'] [b,c] _=>q.e lc a ρ λx=>q.e lc b ρ λy=>bind (d5 op x y) λd=>bind (asB d) λz=>if z=true then q.e lc c ρ λw=>bind (d5 op' y w) k else k (.bl false)
  | _=>bad
 eq e ρ _ k h:=by
  split
  ·simp only [h.e,a1j,bind_assoc,n4,f6]
  ·first
   | rfl
   | (rename_i hn;split;exact (hn _ _ _ _ _ _ rfl).elim;rfl)
noncomputable def b85:RuT where
 is _ _ e:=match e with
  | .UnaryOp .Not _ _=>true
  | _=>false
 run r _ _ lc e ρ:=match e with
  | .UnaryOp .Not a _=>bind (r.t lc a ρ) λq=>ret (!q)
  | _=>bad
 ok e R TX h hi:=by
  split at hi
  ·exact b8b (R.tx h _)
  ·cases hi
 runK q _ _ lc e ρ _ k:=match e with
  | .UnaryOp .Not a _=>q.t lc a ρ λc=>k (!c)
  | _=>bad
 eq e ρ _ k h:=by
  split
  ·simp only [h.t,bind_assoc,f6]
  ·first
   | rfl
   | (rename_i hn;split;exact (hn _ _ rfl).elim;rfl)
noncomputable def c2v:RuT where
 is _ _ e:=match e with
  | .BoolOp _ _ _=>true
  | _=>false
 run r _ _ lc e ρ:=match e with
  | .BoolOp .And es _=>b0n r lc es ρ
  | .BoolOp .Or es _=>orB r lc es ρ
  | _=>bad
 ok e R TX h hi:=by
  cases e with
  | BoolOp op es p=>cases op;exact (a6j R h).pt;exact (b0l R h).pt
  | _=>exact a4b
 runK q _ _ lc e ρ _ k:=match e with
  | .BoolOp .And es _=>a58 q lc es ρ k
  | .BoolOp .Or es _=>b3p q lc es ρ k
  | _=>bad
 eq e ρ _ k h:=by
  cases e with
  | BoolOp op es p=>cases op;exact a6d h es ρ k;exact b0d h es ρ k
  | _=>rfl
noncomputable def c56:RuT where
 is _ _ e:=match e with
  | .Compare _ [_] [b] _=>t0 b
  | _=>false
 run r _ _ lc e ρ:=match e with
  | .Compare a [op] [b] _=>bind (r.e lc a ρ) λx=>bind (r.e lc b ρ) λy=>bind (d5 op x y) asB
  | _=>bad
 ok e R TX h hi:=by
  split at hi
  ·exact b9m (R.ex h _) (R.ex h _) (a1o h _) (P1 hi)
  ·cases hi
 runK q _ _ lc e ρ _ k:=match e with
  | .Compare a [op] [b] _=>q.e lc a ρ λx=>q.e lc b ρ λy=>bind (d5 op x y) λd=>bind (asB d) k
  | _=>bad
 eq e ρ _ k h:=by
  split
  ·simp only [h.e,bind_assoc]
  ·first
   | rfl
   | (rename_i hn;split;exact (hn _ _ _ _ rfl).elim;rfl)
noncomputable def b8f:RuT where
 is _ _ e:=B0 e
 run r _ _ lc e ρ:=bind (r.e lc e ρ) y7
 ok e R TX h hi:=a85 (R.ex h _) hi
 runK q _ _ lc e ρ _ k:=q.e lc e ρ λd=>bind (y7 d) k
 eq e ρ _ k h:=by simp only [h.e,bind_assoc]
noncomputable def b5k (Γ:Gm) (x:Str) (p:Nat->Nat->Bool):Bool:=match Γ.gl.lookup x with
 | some (.fn i n)=>p i n
 | _=>false
theorem a6m {Γ:Gm} {x:Str} {p:Nat->Nat->Bool} (h:b5k Γ x p=true):∃ i n,Γ.gl.lookup x=some (.fn i n)/\p i n=true:=by
 unfold b5k at h
 split at h
 ·rename_i i n e;exact ⟨i,n,e,h⟩
 ·cases h
noncomputable def rFn:RuE where
 is Γ lc e:=match e with
  | .Call (.Name x _) es [] _=>p9 x&&glB lc.sc x&&es.all noStar&&!quiet lc&&b5k Γ x λi n=>decide (es.length=n)&&decide (i∉Γ.qs)
  | _=>false
 run r Γ C lc e ρ:=match e with
  | .Call (.Name x _) es [] _=>(match Γ.gl.lookup x with
   | some (.fn i n)=>bind (o9 r lc es ρ) λds=>if ds.length=n then C i ds else bad
   | _=>bad)
  | _=>bad
 ok {T k r Γ C lc X} e R TX h hi:=by
  split at hi
  ·rename_i x p es pos
   simp only [Bool.and_eq_true,Bool.not_eq_true'] at hi
   obtain ⟨⟨⟨⟨c1,c2⟩,c3⟩,c4⟩,c5⟩:=hi
   obtain ⟨n1,n2,n3⟩:=u7 c1
   obtain ⟨i,n,e1,c6⟩:=a6m c5
   simp only [Bool.and_eq_true,decide_eq_true_eq] at c6
   obtain ⟨a,fd,ps,f1,f2,f3,f4,f5⟩:=(TX.fn x i n e1 c6.2).ex
   have F:FnOk X.prog X.w X.K X.mg X.base (CXd X.prog X.w X.K) k a fd ps (spX X.K T.cl n (C i)):=by rw [h.prog,h.w,h.K,h.mg,h.base];exact f2
   have hk:PySem.W.keepIn X.K (.ref a)=true:=by rw [h.K];exact f4
   have hb:Binds X.K fd ps []:=by rw [h.K];exact f5
   have hm:X.mg x=some (.ref a):=by rw [h.mg];exact f3
   show PE X _ (tD X.K T.cl (xOf X) λρ=>(match Γ.gl.lookup x with
    | some (.fn i n)=>bind (o9 r lc es ρ) λds=>if ds.length=n then C i ds else bad
    | _=>bad))
   rw [e1]
   match es,c3,c6 with
   | [],_,c6=>
    have:n=0:=c6.1.symm
    subst this
    exact a8j F (h.room0 c4) (h.gl c2) hm hk hb n1
   | e :: es,c3,_=>exact b0f F (h.room0 c4) (h.gl c2) hm hk hb (k4 R h c3) n1 c3
  ·cases hi
 runK q Γ C lc e ρ _ k:=match e with
  | .Call (.Name x _) es [] _=>(match Γ.gl.lookup x with
   | some (.fn i n)=>r8 q lc es ρ λds=>if ds.length=n then bind (C i ds) k else bad
   | _=>bad)
  | _=>bad
 eq {r q Γ C lc} e ρ _ k h:=by
  split
  ·rename_i x p es pos
   cases Γ.gl.lookup x with
   | none=>rfl
   | some g=>cases g <;> first | rfl | simp only [j6 h,bind_assoc,n4,a3i]
  ·first
   | rfl
   | (rename_i hn;split;exact (hn _ _ _ _ rfl).elim;rfl)
noncomputable def a79 (r:Ev) (Γ:Gm) (lc:Lc) (x:Str) (es:List Expr) (ρ:Env):M D:=match Γ.gl.lookup x with
 | some (.err c fs)=>(match fs with
  | []=>bind (o9 r lc es ρ) (a9w c)
  | [g]=>bind (o9 r lc es ρ) (Q7 c [g])
  | [g,g2]=>bind (o9 r lc es ρ) (Q7 c [g,g2])
  | _=>bad)
 | _=>bad
noncomputable def b6h (q:EvK) (Γ:Gm) (lc:Lc) (x:Str) (es:List Expr) (ρ:Env) {α:Type} (k:D->M α):M α:=match Γ.gl.lookup x with
 | some (.err c fs)=>(match fs with
  | []=>r8 q lc es ρ λds=>bind (a9w c ds) k
  | [g]=>r8 q lc es ρ λds=>bind (Q7 c [g] ds) k
  | [g,g2]=>r8 q lc es ρ λds=>bind (Q7 c [g,g2] ds) k
  | _=>bad)
 | _=>bad
theorem a84 {r:Ev} {q:EvK} {Γ:Gm} {lc:Lc} (h:EqK r q) (x:Str) (es:List Expr) (ρ:Env) {α:Type} (k:D->M α):b6h q Γ lc x es ρ k=bind (a79 r Γ lc x es ρ) k:=by
 unfold b6h a79
 cases Γ.gl.lookup x with
 | none=>rfl
 | some g=>
  cases g with
  | err c fs=>
   match fs with
   | []=>simp only [j6 h,bind_assoc]
   | [g]=>simp only [j6 h,bind_assoc]
   | [g,g2]=>simp only [j6 h,bind_assoc]
   | _ :: _ :: _ :: _=>rfl
  | _=>rfl
theorem a5v {T:Tx} {k:Nat} {r:Ev} {Γ:Gm} {C:Cf} {lc:Lc} {X:Cx} {x:Str} {p pos:Pos} {e:Expr} {es:List Expr} (R:EvOk T k r) (TX:TxOk T Γ k C) (h:CxOk T k lc X) (c1:p9 x=true) (c2:glB lc.sc x=true) (c3:(e :: es).all noStar=true) (c4:quiet lc=false) :
  PE X (.Call (.Name x p) (e :: es) [] pos) (tDf X.K T.cl (xOf X) (a79 r Γ lc x (e :: es))):=by
 have bd:PE X (.Call (.Name x p) (e :: es) [] pos) (tDf X.K T.cl (xOf X) λρ=>bad):=λ_ _ _ _ _ _ ⟨_,_,_,_,_,z⟩=>z.elim
 obtain ⟨n1,n2,n3⟩:=u7 c1
 have ha:=k4 R h c3
 unfold a79
 cases e1:Γ.gl.lookup x with
 | none=>exact bd
 | some g=>
  cases g with
  | val d=>exact bd
  | fn i n=>exact bd
  | dct kvs=>exact bd
  | err c fs=>
   obtain ⟨ea,na⟩:=TX.err x c fs e1
   obtain ⟨f,fd,ps,g1,g2,g3,g4⟩:=ea.ex
   have xc:XC X.K (T.cl c):=by rw [h.K];exact ea.xc
   have hm:X.mg x=some (.ref (T.cl c)):=by rw [h.mg];exact ea.mg_
   have hr:Room false (2+1) X.A:=(h.room0 c4).mono TX.k3
   have hi:PySem.W.findIn X.K (.ref (T.cl c)) "__init__" = some (some (.ref f)):=by rw [h.K];exact g1
   have hf:PySem.W.isFn X.K (.ref f)=true:=by rw [h.K];exact g2
   have hb:Binds X.K fd ps []:=by rw [h.K];exact g3
   match fs,g4,na with
   | [],g4,na=>exact b2f (E:=E0) xc hi hf (by rw [h.prog,h.w,h.K,h.mg,h.base];exact g4) hr (h.gl c2) hm hb a5n ha n1 c3
   | [g],g4,na=>exact a83 (E:=E0) xc (by rw [h.K];exact na g (by simp)) hi hf (by rw [h.prog,h.w,h.K,h.mg,h.base];exact g4) hr (h.gl c2) hm hb a5n ha n1 c3
   | [g,g'],g4,na=>exact a8z (E:=E0) xc (by rw [h.K];exact na g (by simp)) (by rw [h.K];exact na g' (by simp)) hi hf (by rw [h.prog,h.w,h.K,h.mg,h.base];exact g4) hr (h.gl c2) hm hb a5n ha n1 c3
   | _ :: _ :: _ :: _,g4,_=>exact g4.elim
noncomputable def b73 (Γ:Gm) (x:Str):Bool:=match Γ.gl.lookup x with
 | some (.err _ _)=>true
 | _=>false
noncomputable def c5k:RuE where
 is Γ lc e:=match e with
  | .Call (.Name x _) (a :: es) [] _=>p9 x&&glB lc.sc x&&(a :: es).all noStar&&!quiet lc&&b73 Γ x
  | _=>false
 run r Γ C lc e ρ:=match e with
  | .Call (.Name x _) (a :: es) [] _=>a79 r Γ lc x (a :: es) ρ
  | _=>bad
 ok {T k r Γ C lc X} e R TX h hi:=by
  split at hi
  ·simp only [Bool.and_eq_true,Bool.not_eq_true'] at hi
   exact PE.unf (a5v R TX h hi.1.1.1.1 hi.1.1.1.2 hi.1.1.2 hi.1.2)
  ·cases hi
 runK q Γ C lc e ρ _ k:=match e with
  | .Call (.Name x _) (a :: es) [] _=>b6h q Γ lc x (a :: es) ρ k
  | _=>bad
 eq {r q Γ C lc} e ρ _ k h:=by
  split
  ·exact a84 h _ _ ρ k
  ·first
   | rfl
   | (rename_i hn;split;exact (hn _ _ _ _ _ rfl).elim;rfl)
noncomputable def a0v (Γ:Gm) (lc:Lc) (x:Str) (a:Expr):Bool:=decide (x = "isinstance")&&(Γ.gl.lookup ("isinstance" : Str)).isNone&&glB lc.sc "isinstance" && noStar a
theorem a4p {Γ:Gm} {lc:Lc} {x:Str} {a:Expr} (h:a0v Γ lc x a=true):x = "isinstance"/\Γ.gl.lookup ("isinstance" : Str)=none/\glB lc.sc "isinstance" = true/\noStar a=true:=by
 simp only [a0v,Bool.and_eq_true,decide_eq_true_eq,Option.isNone_iff_eq_none] at h
 exact ⟨h.1.1.1,h.1.1.2,h.1.2,h.2⟩
noncomputable def btys:List (Str×String):=[("int","int"),("bool","bool"),("str","str"),("tuple","tuple"),("list","list"),("dict","dict"),("ValueError","ValueError")]
theorem b4t:∀ {x:Str} {t:String},btys.lookup x=some t->bootBuiltins x=some (.type t)/\x∈bnames/\(t∈tys\/t = "ValueError"):=by
 intro x t e
 have:∀ y∈btys,bootBuiltins y.1=some (.type y.2)/\y.1∈bnames/\(y.2∈tys\/y.2 = "ValueError"):=by
  intro y hy
  simp only [btys,List.mem_cons,List.not_mem_nil,or_false] at hy
  rcases hy with rfl | rfl | rfl | rfl | rfl | rfl | rfl <;> exact ⟨rfl,by decide,by decide⟩
 exact this _ (L2.mem_of_lookup e)
noncomputable def c21:RuE where
 is Γ lc e:=match e with
  | .Call (.Name x _) [a,.Name y _] [] _=>a0v Γ lc x a&&p9 y&&glB lc.sc y&&(Γ.gl.lookup y).isNone
  | _=>false
 run r Γ C lc e ρ:=match e with
  | .Call (.Name _ _) [a,.Name y _] [] _=>(match btys.lookup y with
   | some T=>bind (r.e lc a ρ) λd=>if T∈tys then a1p T (λ_=>false) d else a8e (λ_=>true) d
   | none=>bad)
  | _=>bad
 ok {T k r Γ C lc X} e R TX h hi:=by
  split at hi
  ·rename_i x p a y q pos
   simp only [Bool.and_eq_true,Option.isNone_iff_eq_none] at hi
   obtain ⟨⟨⟨c0,c1⟩,c2⟩,c3⟩:=hi
   obtain ⟨rfl,i1,i2,i3⟩:=a4p c0
   obtain ⟨n1,n2,n3⟩:=u7 c1
   have hm:=TX.none h (x:="isinstance") (by decide) i1
   show PE X _ (tD X.K T.cl (xOf X) λρ=>(match btys.lookup y with
    | some T=>bind (r.e lc a ρ) λd=>if T∈tys then a1p T (λ_=>false) d else a8e (λ_=>true) d
    | none=>bad))
   cases e2:btys.lookup y with
   | none=>exact i6
   | some t=>
    obtain ⟨b1,b2,b3⟩:=b4t e2
    by_cases ht:t∈tys
    ·have:=a6r (pos:=pos) (p:=p) (q:=q) (sx:=λ_=>false) (.inl ht) (λc xc=>by rw [h.K] at xc ⊢;exact TX.subT c xc t ht) (R.ex h a) (h.gl i2) hm (h.gl c2) (TX.none h b2 c3) b1 n3 n1 i3
     simp only [if_pos ht] at this ⊢
     exact this
    ·rcases b3 with b3 | b3
     ·exact absurd b3 ht
     ·subst b3
      have:=a6r (pos:=pos) (p:=p) (q:=q) (sx:=λ_=>true) (.inr rfl) (λc xc=>by rw [h.K] at xc ⊢;exact TX.subV c xc) (R.ex h a) (h.gl i2) hm (h.gl c2) (TX.none h b2 c3) b1 n3 n1 i3
      simp only [if_neg ht] at this ⊢
      exact this
  ·cases hi
 runK q Γ C lc e ρ _ k:=match e with
  | .Call (.Name _ _) [a,.Name y _] [] _=>(match btys.lookup y with
   | some T=>q.e lc a ρ λd=>if T∈tys then bind (a1p T (λ_=>false) d) k else bind (a8e (λ_=>true) d) k
   | none=>bad)
  | _=>bad
 eq {r q Γ C lc} e ρ _ k h:=by
  split
  ·rename_i x p a y q pos
   cases btys.lookup y with
   | none=>rfl
   | some T=>simp only [h.e,bind_assoc,n4]
  ·first
   | rfl
   | (rename_i hn;split;exact (hn _ _ _ _ _ _ rfl).elim;rfl)
noncomputable def a62 (x:Str) (ld:Bool) (Γ:Gm) (lc:Lc) (e:Expr):Bool:=match e with
 | .Call (.Name f _) (a :: es) [] _=>decide (f=x)&&(a :: es).all noStar&&(Γ.gl.lookup x).isNone&&glB lc.sc x&&!(ld&&quiet lc)
 | _=>false
noncomputable def b3l (g:List D->M D) (r:Ev) (lc:Lc) (e:Expr) (ρ:Env):M D:=match e with
 | .Call (.Name _ _) (a :: es) [] _=>bind (o9 r lc (a :: es) ρ) g
 | _=>bad
noncomputable def b5e (g:List D->M D) (q:EvK) (lc:Lc) (e:Expr) (ρ:Env) {α:Type} (k:D->M α):M α:=match e with
 | .Call (.Name _ _) (a :: es) [] _=>r8 q lc (a :: es) ρ λds=>bind (g ds) k
 | _=>bad
theorem b1j (g:List D->M D) {r:Ev} {q:EvK} {lc:Lc} (e:Expr) (ρ:Env) {α:Type} (k:D->M α) (h:EqK r q):b5e g q lc e ρ k=bind (b3l g r lc e ρ) k:=by
 unfold b5e b3l
 split
 ·simp only [j6 h,bind_assoc]
 ·first
  | rfl
  | (rename_i hn;split;exact (hn _ _ _ _ _ rfl).elim;rfl)
theorem a3j {x:Str} {ld:Bool} {Γ:Gm} {lc:Lc} {e:Expr} (h:a62 x ld Γ lc e=true):∃ p a es pos,e=.Call (.Name x p) (a :: es) [] pos/\(a :: es).all noStar=true/\Γ.gl.lookup x=none/\glB lc.sc x=true/\(ld=true->quiet lc=false):=by
 unfold a62 at h
 split at h
 ·simp only [Bool.and_eq_true,decide_eq_true_eq,Option.isNone_iff_eq_none,Bool.not_eq_true'] at h
  obtain ⟨⟨⟨⟨rfl,h2⟩,h3⟩,h4⟩,h5⟩:=h
  refine ⟨_,_,_,_,rfl,h2,h3,h4,λz=>?_⟩
  rw [z] at h5
  simpa using h5
 ·cases h
noncomputable def rBf (x:Str) (id:String) (ld:Bool) (g:List D->M D) (hx:x∈bnames/\x ≠ "__name__"/\(x==("__debug__" : Str))=false) (hv:bootBuiltins x=some (.builtin id))
  (hc:∀ {T:Tx} {k:Nat} {lc:Lc} {X:Cx} {cl:Nat->Addr} {xe:Addr->Hp->Prop},CxOk T k lc X->(ld=true->X.calm=true)->j9 X (.builtin id) (rPs X.K cl xe g)):RuE where
 is:=a62 x ld
 run r _ _ lc e ρ:=b3l g r lc e ρ
 ok {T k r Γ C lc X} e R TX h hi:=by
  obtain ⟨p,a,es,pos,rfl,h1,h2,h3,h4⟩:=a3j hi
  exact b1g (hc h λz=>h.calm (h4 z)) (h.gl h3) (TX.none h hx.1 h2) hv (k4 R h h1) hx.2.1 hx.2.2 h1
 runK q _ _ lc e ρ _ k:=b5e g q lc e ρ k
 eq e ρ _ k h:=b1j g e ρ k h
noncomputable def rBt (x:Str) (id:String) (ld:Bool) (g:List D->M D) (hx:x∈bnames/\x ≠ "__name__"/\(x==("__debug__" : Str))=false) (hv:bootBuiltins x=some (.type id))
  (hc:∀ {T:Tx} {k:Nat} {lc:Lc} {X:Cx} {cl:Nat->Addr} {xe:Addr->Hp->Prop},CxOk T k lc X->(ld=true->X.calm=true)->j9 X (.type id) (rPs X.K cl xe g)):RuE where
 is:=a62 x ld
 run r _ _ lc e ρ:=b3l g r lc e ρ
 ok {T k r Γ C lc X} e R TX h hi:=by
  obtain ⟨p,a,es,pos,rfl,h1,h2,h3,h4⟩:=a3j hi
  exact U2 (hc h λz=>h.calm (h4 z)) (h.gl h3) (TX.none h hx.1 h2) hv (k4 R h h1) hx.2.1 hx.2.2 h1
 runK q _ _ lc e ρ _ k:=b5e g q lc e ρ k
 eq e ρ _ k h:=b1j g e ρ k h
noncomputable def c5v:RuE:=rBf "len" "len" false (one n8) (by decide) PySem.boot_len λ_ _=>c1n
noncomputable def b8y:RuE:=rBt "tuple" "tuple" false (one f7) (by decide) rfl λ_ _=>b5t
noncomputable def c1z:RuE:=rBt "list" "list" false (one a9c) (by decide) rfl λ_ _=>b8s
noncomputable def c2a:RuE:=rBf "repr" "repr" false (one B5) (by decide) rfl λh _=>b7h h.room.gd h.u64
noncomputable def b4c:RuE:=rBf "sorted" "sorted" false (one G4) (by decide) rfl λ_ _=>b2j
noncomputable def b6c:RuE where
 is Γ lc e:=match e with
  | .Call (.Name x _) [.Call (.Name y _) [a] [] _] [] _=>decide (x = "list")&&decide (y = "range")&&(Γ.gl.lookup ("list" : Str)).isNone&&(Γ.gl.lookup ("range" : Str)).isNone&&glB lc.sc "list" && glB lc.sc "range" && !quiet lc&&noStar a
  | _=>false
 run r _ _ lc e ρ:=match e with
  | .Call (.Name _ _) [.Call (.Name _ _) [a] [] _] [] _=>bind (r.e lc a ρ) G3
  | _=>bad
 ok {T k r Γ C lc X} e R TX h hi:=by
  split at hi
  ·simp only [Bool.and_eq_true,decide_eq_true_eq,Option.isNone_iff_eq_none,Bool.not_eq_true'] at hi
   obtain ⟨⟨⟨⟨⟨⟨⟨rfl,rfl⟩,h1⟩,h2⟩,h3⟩,h4⟩,h5⟩,h6⟩:=hi
   exact a7s (h.calm h5) (h.gl h3) (TX.none h (by decide) h1) (h.gl h4) (TX.none h (by decide) h2) (R.ex h _) h6
  ·cases hi
 runK q _ _ lc e ρ _ k:=match e with
  | .Call (.Name _ _) [.Call (.Name _ _) [a] [] _] [] _=>q.e lc a ρ λd=>bind (G3 d) k
  | _=>bad
 eq e ρ _ k h:=by
  split
  ·simp only [h.e,bind_assoc]
  ·first
   | rfl
   | (rename_i hn;split;exact (hn _ _ _ _ _ _ _ rfl).elim;rfl)
noncomputable def c45 (n:Nat) (Γ:Gm) (lc:Lc) (e:Expr):Bool:=match e with
 | .Call (.Name f _) es [] _=>decide (f = "range")&&decide (es.length=n)&&es.all noStar&&(Γ.gl.lookup ("range" : Str)).isNone&&glB lc.sc "range"
 | _=>false
noncomputable def rgE (n:Nat) (r:Ev) (lc:Lc) (e:Expr) (ρ:Env):M (Src×Nat):=match e with
 | .Call (.Name _ _) es [] _=>bind (o9 r lc es ρ) λds=>if ds.length=n then F6 ds else bad
 | _=>bad
noncomputable def rgK (n:Nat) (q:EvK) (lc:Lc) (e:Expr) (ρ:Env) {α:Type} (k:Src×Nat->M α):M α:=match e with
 | .Call (.Name _ _) es [] _=>r8 q lc es ρ λds=>if ds.length=n then bind (F6 ds) k else bad
 | _=>bad
theorem c3y (n:Nat) {r:Ev} {q:EvK} {lc:Lc} (e:Expr) (ρ:Env) {α:Type} (k:Src×Nat->M α) (h:EqK r q):rgK n q lc e ρ k=bind (rgE n r lc e ρ) k:=by
 unfold rgK rgE
 split
 ·simp only [j6 h,bind_assoc,n4,a3i]
 ·first
  | rfl
  | (rename_i hn;split;exact (hn _ _ _ _ rfl).elim;rfl)
noncomputable def b30:RuI where
 is Γ lc _ e:=c45 1 Γ lc e
 run r _ _ lc e ρ:=rgE 1 r lc e ρ
 ok {T k r Γ C lc X} g e R TX h hi:=by
  unfold c45 at hi
  split at hi
  ·rename_i f p es pos
   simp only [Bool.and_eq_true,decide_eq_true_eq,Option.isNone_iff_eq_none] at hi
   obtain ⟨⟨⟨⟨rfl,h1⟩,h2⟩,h3⟩,h4⟩:=hi
   match es,h1,h2 with
   | [a],_,h2=>exact a4g (h.gl h4) (TX.none h (by decide) h3) (k4 R h h2) (by simpa using h2)
  ·cases hi
 runK q _ _ lc e ρ _ k:=rgK 1 q lc e ρ k
 eq e ρ _ k h:=c3y 1 e ρ k h
noncomputable def c39:RuI where
 is Γ lc g e:=match g,e with
  | .Tuple _ _ _,.Call (.Name f _) [a] [] _=>decide (f = "enumerate")&&noStar a&&(Γ.gl.lookup ("enumerate" : Str)).isNone&&glB lc.sc "enumerate"
  | _,_=>false
 run r _ _ lc e ρ:=match e with
  | .Call (.Name _ _) [a] [] _=>bind (o9 r lc [a] ρ) λds=>(match ds with
   | [d]=>U6 d
   | _=>bad)
  | _=>bad
 ok {T k r Γ C lc X} g e R TX h hi:=by
  split at hi
  ·simp only [Bool.and_eq_true,decide_eq_true_eq,Option.isNone_iff_eq_none] at hi
   obtain ⟨⟨⟨rfl,h1⟩,h2⟩,h3⟩:=hi
   exact b15 (h.gl h3) (TX.none h (by decide) h2) (k4 R h (by simpa using h1)) h1
  ·cases hi
 runK q _ _ lc e ρ _ k:=match e with
  | .Call (.Name _ _) [a] [] _=>r8 q lc [a] ρ λds=>(match ds with
   | [d]=>bind (U6 d) k
   | _=>bad)
  | _=>bad
 eq e ρ _ k h:=by
  split
  ·simp only [j6 h,bind_assoc]
   congr;funext ds
   match ds with
   | []=>rfl
   | [_]=>rfl
   | _ :: _ :: _=>rfl
  ·first
   | rfl
   | (rename_i hn;split;exact (hn _ _ _ _ rfl).elim;rfl)
noncomputable def c55:RuI where
 is _ _ _ _:=true
 run r _ _ lc e ρ:=bind (r.e lc e ρ) t9
 ok g e R TX h hi:=b5i (R.ex h e)
 runK q _ _ lc e ρ _ k:=q.e lc e ρ λd=>bind (t9 d) k
 eq e ρ _ k h:=by simp only [h.e,bind_assoc]
noncomputable def a3v (scope sc:Scope):Scope:={ scope with names:=scope.names.map λ(n,k)=>if (k==.free&&sc.kind==.function&&sc.names.lookup n==some .cell) then (n,NameKind.cell) else (n,k) }
theorem a68 (scope:Scope) (env:PySem.Env):relabel scope env=a3v scope env.scope:=rfl
noncomputable def k5 (scope:Scope):List Str:=(scope.names.filter λy=>y.2==.free).map (·.1)
noncomputable def y0 (lc:Lc) (scope:Scope) (xs:List Str):Bool:=
 decide (scope.kind=.function)&&scope.names.all (λy=>decide (y.2≠.cell))&&scope.names.all (λy=>decide (y.2=.local->scope.names.lookup y.1=some .local))
  && scope.names.all (λy=>decide (y.2=.free->scope.names.lookup y.1=some .free/\(lc.sc.names.lookup y.1=some .cell\/lc.sc.names.lookup y.1=some .free)))
  && (k5 scope).all (λz=>decide (scope.names.lookup z=some .free))&&decide ((xs++k5 scope).Nodup)&&xs.all (λx=>decide (scope.names.lookup x=some .local))&&!quiet lc
theorem a2g {α β:Type} {f:α->Option β}:∀ {xs:List α} {ys:List β},f8 f xs=some ys->ys.length=xs.length
 | [],_,e=>by cases e;rfl
 | x :: xs,ys,e=>by
  simp only [f8] at e
  cases e1:f x with
  | none=>rw [e1] at e;cases e
  | some y=>
   cases e2:f8 f xs with
   | none=>rw [e1,e2] at e;cases e
   | some ys'=>rw [e1,e2] at e;cases e;simp [a2g e2]
theorem a1w {α β:Type} {f:α->Option β}:∀ {xs:List α} {ys:List β} {j:Nat} {y:β},f8 f xs=some ys->ys[j]?=some y->∃ x,xs[j]?=some x/\f x=some y
 | [],_,_,_,e,h=>by cases e;simp at h
 | x :: xs,ys,j,y,e,h=>by
  simp only [f8] at e
  cases e1:f x with
  | none=>rw [e1] at e;cases e
  | some z=>
   cases e2:f8 f xs with
   | none=>rw [e1,e2] at e;cases e
   | some ys'=>
    rw [e1,e2] at e;cases e
    cases j with
    | zero=>simp at h;subst h;exact ⟨x,rfl,e1⟩
    | succ j=>simpa using a1w (j:=j) (y:=y) e2 (by simpa using h)
noncomputable def i8 (lc:Lc) (scope:Scope) (xs:List Str):Lc:=⟨xs++k5 scope,a3v scope lc.sc,false,[]⟩
noncomputable def testsE (r:Ev) (lc:Lc) (ifs:List Expr) (ρ:Env):M Bool:=match ifs with
 | []=>ret true
 | [c]=>r.t lc c ρ
 | _=>bad
noncomputable def testsK (q:EvK) (lc:Lc) (ifs:List Expr) (ρ:Env):M Bool:=match ifs with
 | []=>ret true
 | [c]=>q.t lc c ρ ret
 | _=>bad
theorem tests_eq {r:Ev} {q:EvK} {lc:Lc} (h:EqK r q) (ifs:List Expr) (ρ:Env):testsK q lc ifs ρ=testsE r lc ifs ρ:=by
 match ifs with
 | []=>rfl
 | [c]=>simp only [testsK,testsE,h.t,G5]
 | _ :: _ :: _=>rfl
section
variable {T:Tx} {k:Nat} {r:Ev} {q:EvK} {Γ:Gm} {C:Cf} {lc:Lc} {X:Cx}
theorem tests_ok (R:EvOk T k r) (h:CxOk T k lc X) {ifs:List Expr}:PTL X ifs (tBo X.K T.cl (xOf X) (testsE r lc ifs)):=by
 match ifs with
 | []=>exact a7d
 | [c]=>exact b5u (R.tx h c)
 | _ :: _ :: _=>exact λ_ _ _ _ _ _ ⟨_,_,_,_,_,p⟩=>p.elim
theorem G7 (h:CxOk T k lc X) {scope:Scope} {xs:List Str} {caps:List Nat} (hc:y0 lc scope xs=true) (hm:f8 (d3 lc.N) (k5 scope)=some caps):CompText X.N X.env (xs++k5 scope) xs.length caps scope/\(xs++k5 scope).Nodup/\(∀ x∈xs,scope.names.lookup x=some .local)/\quiet lc=false/\scope.kind=.function:=by
 simp only [y0,Bool.and_eq_true,decide_eq_true_eq,List.all_eq_true,Bool.not_eq_true'] at hc
 obtain ⟨⟨⟨⟨⟨⟨⟨h1,h2⟩,h3⟩,h4⟩,h5⟩,h6⟩,h7⟩,h8⟩:=hc
 refine ⟨⟨h1,h2,h3,λy hy hk=>?_,λj i e=>?_,?_⟩,h6,h7,h8,h1⟩
 ·rw [h.sc];exact h4 y hy hk
 ·obtain ⟨z,e1,e2⟩:=a1w hm e
  refine ⟨z,by rw [h.N];exact k7 e2,?_,h5 z (List.mem_of_getElem? e1)⟩
  rw [List.getElem?_append_right (by omega)]
  simpa using e1
 ·simp [a2g hm,Nat.add_comm]
theorem w5 (h:CxOk T k lc X) (hq:quiet lc=false) {scope:Scope} {xs:List Str} (hk:scope.kind=.function) (hn:(xs++k5 scope).Nodup) (pins:List (Addr×Obj)) (C:Addr) (fp:List Addr) (s:Shared) (H:Hp):CxOk T k (i8 lc scope xs) (a9 X pins (xs++k5 scope) scope C fp s H):=
 ⟨h.prog,h.w,h.K,h.mg,h.base,rfl,hn,by show relabel scope X.env=a3v scope lc.sc;rw [a68,h.sc],λ_=>h.calm hq,(by have:=h.room;rw [hq] at this;exact this),PassesOwn.never,rfl,hk,λz=>Bool.noConfusion z⟩
end
noncomputable def i5 (src:Src) (t:D->M Bool) (f:D->M D):Nat->Nat->List D->M (List D)
 | 0,_,_=>bad
 | m+1,i,es=>λS=>match src i S with
  | none=>.bad
  | some none=>.ok es S
  | some (some d)=>bind (t d) (λb=>if b=true then bind (f d) (λy=>if es.length<sizeLine then i5 src t f m (i+1) (es++[y]) else bad) else i5 src t f m (i+1) es) S
theorem W4 (src:Src) (t:Env->M Bool) (f:Env->M D) (mk:D->Env):∀ m i es,J8 src t f mk m i es=i5 src (λd=>t (mk d)) (λd=>f (mk d)) m i es
 | 0,_,_=>rfl
 | m+1,i,es=>by
  funext S
  simp only [J8,i5,W4 src t f mk m]
  all_goals (cases src i S with
  | none=>rfl
  | some o=>cases o <;> rfl)
noncomputable def E8 (r:Ev) (lc:Lc) (elt:Expr) (x:Str) (px:Pos) (iter:Expr) (ifs:List Expr) (scope:Scope) (ρ:Env):M (List D):=match f8 (d3 lc.N) (k5 scope) with
 | some caps=>nx (a5s caps (r.i lc (.Name x px) iter) (testsE r (i8 lc scope [x]) ifs) (r.e (i8 lc scope [x]) elt) ρ)
 | none=>bad
noncomputable def a04 (q:EvK) (lc:Lc) (elt:Expr) (x:Str) (px:Pos) (iter:Expr) (ifs:List Expr) (scope:Scope) (ρ:Env) {α:Type} (k:List D->M α):M α:=match f8 (d3 lc.N) (k5 scope) with
 | some caps=>bind (nx (q.i lc (.Name x px) iter ρ λsm=>i5 sm.1 (λd=>testsK q (i8 lc scope [x]) ifs (some d :: B4 caps ρ)) (λd=>q.e (i8 lc scope [x]) elt (some d :: B4 caps ρ) ret) sm.2 0 [])) k
 | none=>bad
theorem a24 {r:Ev} {q:EvK} {lc:Lc} (h:EqK r q) (elt:Expr) (x:Str) (px:Pos) (iter:Expr) (ifs:List Expr) (scope:Scope) (ρ:Env) {α:Type} (k:List D->M α):a04 q lc elt x px iter ifs scope ρ k=bind (E8 r lc elt x px iter ifs scope ρ) k:=by
 unfold a04 E8
 cases f8 (d3 lc.N) (k5 scope) with
 | none=>rfl
 | some caps=>simp only [h.i,h.e,G5,tests_eq h,a5s,W4]
theorem b2k {T:Tx} {k:Nat} {r:Ev} {lc:Lc} {X:Cx} (R:EvOk T k r) (h:CxOk T k lc X) {elt:Expr} {x:Str} {px pos:Pos} {iter:Expr} {ifs:List Expr} {scope:Scope} (hc:y0 lc scope [x]=true) (hn:t0 iter=true) :
  PE X (.ListComp elt [⟨.Name x px,iter,ifs,0⟩] scope pos) (tD X.K T.cl (xOf X) λρ=>bind (E8 r lc elt x px iter ifs scope ρ) λds=>ret (.lst ds)):=by
 unfold E8
 cases hm:f8 (d3 lc.N) (k5 scope) with
 | none=>exact i6
 | some caps=>
  obtain ⟨t1,t2,t3,t4,t5⟩:=G7 h hc hm
  refine a6w (a2o t1 (h.calm t4) t2 rfl (t3 x (by simp)) (PI.x0 (R.ix h _ _)) (λpins C fp s H=>?_) (λpins C fp s H=>?_) hn)
  ·exact PTL.x0 (tests_ok R (w5 h t4 t5 t2 pins C fp s H))
  ·exact PE.x0 (R.ex (w5 h t4 t5 t2 pins C fp s H) elt)
noncomputable def b7k:RuE where
 is _ lc e:=match e with
  | .ListComp _ [⟨.Name x _,iter,_,0⟩] scope _=>y0 lc scope [x]&&t0 iter
  | _=>false
 run r _ _ lc e ρ:=match e with
  | .ListComp elt [⟨.Name x px,iter,ifs,0⟩] scope _=>bind (E8 r lc elt x px iter ifs scope ρ) λds=>ret (.lst ds)
  | _=>bad
 ok e R TX h hi:=by
  split at hi
  ·rw [Bool.and_eq_true] at hi
   exact b2k R h hi.1 hi.2
  ·cases hi
 runK q _ _ lc e ρ _ k:=match e with
  | .ListComp elt [⟨.Name x px,iter,ifs,0⟩] scope _=>a04 q lc elt x px iter ifs scope ρ λds=>k (.lst ds)
  | _=>bad
 eq e ρ _ k h:=by
  split
  ·simp only [a24 h,bind_assoc,f6]
  ·first
   | rfl
   | (rename_i hn;split;exact (hn _ _ _ _ _ _ _ rfl).elim;rfl)
noncomputable def E7 (r:Ev) (lc:Lc) (elt:Expr) (x y:Str) (px py tp:Pos) (kk:Nat) (iter:Expr) (ifs:List Expr) (scope:Scope) (ρ:Env):M (List D):=match f8 (d3 lc.N) (k5 scope) with
 | some caps=>nx (a05 caps (r.i lc (.Tuple [.Name x px,.Name y py] kk tp) iter) (testsE r (i8 lc scope [x,y]) ifs) (r.e (i8 lc scope [x,y]) elt) ρ)
 | none=>bad
noncomputable def a1g (q:EvK) (lc:Lc) (elt:Expr) (x y:Str) (px py tp:Pos) (kk:Nat) (iter:Expr) (ifs:List Expr) (scope:Scope) (ρ:Env) {α:Type} (k:List D->M α):M α:=match f8 (d3 lc.N) (k5 scope) with
 | some caps=>bind (nx (q.i lc (.Tuple [.Name x px,.Name y py] kk tp) iter ρ λsm=>i5 sm.1 (λd=>a66 (testsK q (i8 lc scope [x,y]) ifs) (mk2 (B4 caps ρ) d)) (λd=>q.e (i8 lc scope [x,y]) elt (mk2 (B4 caps ρ) d) ret) sm.2 0 [])) k
 | none=>bad
theorem a3h {r:Ev} {q:EvK} {lc:Lc} (h:EqK r q) (elt:Expr) (x y:Str) (px py tp:Pos) (kk:Nat) (iter:Expr) (ifs:List Expr) (scope:Scope) (ρ:Env) {α:Type} (k:List D->M α):a1g q lc elt x y px py tp kk iter ifs scope ρ k=bind (E7 r lc elt x y px py tp kk iter ifs scope ρ) k:=by
 unfold a1g E7
 cases f8 (d3 lc.N) (k5 scope) with
 | none=>rfl
 | some caps=>
  have e:testsK q (i8 lc scope [x,y]) ifs=testsE r (i8 lc scope [x,y]) ifs:=funext λρ=>tests_eq h ifs ρ
  simp only [h.i,h.e,G5,e,a05,W4]
theorem b02 {T:Tx} {k:Nat} {r:Ev} {lc:Lc} {X:Cx} (R:EvOk T k r) (h:CxOk T k lc X) {elt:Expr} {x y:Str} {px py tp pos:Pos} {kk:Nat} {iter:Expr} {ifs:List Expr} {scope:Scope} (hc:y0 lc scope [x,y]=true) (hn:t0 iter=true) :
  PE X (.ListComp elt [⟨.Tuple [.Name x px,.Name y py] kk tp,iter,ifs,0⟩] scope pos) (tD X.K T.cl (xOf X) λρ=>bind (E7 r lc elt x y px py tp kk iter ifs scope ρ) λds=>ret (.lst ds)):=by
 unfold E7
 cases hm:f8 (d3 lc.N) (k5 scope) with
 | none=>exact i6
 | some caps=>
  obtain ⟨t1,t2,t3,t4,t5⟩:=G7 h hc hm
  refine a6w (Y6 t1 (h.calm t4) t2 rfl rfl (t3 x (by simp)) (t3 y (by simp)) (PI.x0 (R.ix h _ _)) (λpins C fp s H=>?_) (λpins C fp s H=>?_) hn)
  ·exact PTL.x0 (tests_ok R (w5 h t4 t5 t2 pins C fp s H))
  ·exact PE.x0 (R.ex (w5 h t4 t5 t2 pins C fp s H) elt)
noncomputable def b9t:RuE where
 is _ lc e:=match e with
  | .ListComp _ [⟨.Tuple [.Name x _,.Name y _] _ _,iter,_,0⟩] scope _=>y0 lc scope [x,y]&&t0 iter
  | _=>false
 run r _ _ lc e ρ:=match e with
  | .ListComp elt [⟨.Tuple [.Name x px,.Name y py] kk tp,iter,ifs,0⟩] scope _=>bind (E7 r lc elt x y px py tp kk iter ifs scope ρ) λds=>ret (.lst ds)
  | _=>bad
 ok e R TX h hi:=by
  split at hi
  ·rw [Bool.and_eq_true] at hi
   exact b02 R h hi.1 hi.2
  ·cases hi
 runK q _ _ lc e ρ _ k:=match e with
  | .ListComp elt [⟨.Tuple [.Name x px,.Name y py] kk tp,iter,ifs,0⟩] scope _=>a1g q lc elt x y px py tp kk iter ifs scope ρ λds=>k (.lst ds)
  | _=>bad
 eq e ρ _ k h:=by
  split
  ·simp only [a3h h,bind_assoc,f6]
  ·first
   | rfl
   | (rename_i hn;split;exact (hn _ _ _ _ _ _ _ _ _ _ rfl).elim;rfl)
noncomputable def b9o (m:Str) (e:Expr):Bool:=match e with
 | .Call (.Attribute o n apos) (a :: es) [] cpos=>decide (n=m)&&y4 o&&(a :: es).all noStar&&C2 (a :: es)&&(apos.endLine==cpos.line)
 | _=>false
theorem b3t {m:Str} {e:Expr} (h:b9o m e=true):∃ o apos a es cpos,e=.Call (.Attribute o m apos) (a :: es) [] cpos/\y4 o=true/\(a :: es).all noStar=true/\C2 (a :: es)=true/\(apos.endLine==cpos.line)=true:=by
 unfold b9o at h
 split at h
 ·simp only [Bool.and_eq_true,decide_eq_true_eq] at h
  obtain ⟨⟨⟨⟨rfl,h1⟩,h2⟩,h3⟩,h4⟩:=h
  exact ⟨_,_,_,_,_,rfl,h1,h2,h3,h4⟩
 ·cases h
noncomputable def mtE {α:Type} (g:D->M α) (op:D->List D->M D) (r:Ev) (lc:Lc) (e:Expr) (ρ:Env):M D:=match e with
 | .Call (.Attribute o _ _) (a :: es) [] _=>bind (r.e lc o ρ) λx=>bind (g x) λ_=>bind (o9 r lc (a :: es) ρ) λds=>op x ds
 | _=>bad
noncomputable def mtK {α:Type} (g:D->M α) (op:D->List D->M D) (q:EvK) (lc:Lc) (e:Expr) (ρ:Env) {β:Type} (k:D->M β):M β:=match e with
 | .Call (.Attribute o _ _) (a :: es) [] _=>q.e lc o ρ λx=>bind (g x) λ_=>r8 q lc (a :: es) ρ λds=>bind (op x ds) k
 | _=>bad
theorem c22 {α:Type} (g:D->M α) (op:D->List D->M D) {r:Ev} {q:EvK} {lc:Lc} (e:Expr) (ρ:Env) {β:Type} (k:D->M β) (h:EqK r q):mtK g op q lc e ρ k=bind (mtE g op r lc e ρ) k:=by
 unfold mtK mtE
 split
 ·simp only [h.e,j6 h,bind_assoc]
 ·first
  | rfl
  | (rename_i hn;split;exact (hn _ _ _ _ _ _ rfl).elim;rfl)
noncomputable def rMt {α:Type} (m:Str) (g:D->M α) (op:D->List D->M D)
  (ok:∀ {T:Tx} {k:Nat} {lc:Lc} {X:Cx} {xe:Addr->Hp->Prop} {o a:Expr} {es:List Expr} {apos cpos:Pos} {f:Env->M D} {fs:Env->M (List D)},CxOk T k lc X->PE X o (tD X.K T.cl xe f)->PA X (a :: es) (tDs X.K T.cl xe fs)->y4 o=true->(a :: es).all noStar=true->C2 (a :: es)=true->(apos.endLine==cpos.line)=true->PE X (.Call (.Attribute o m apos) (a :: es) [] cpos) (tD X.K T.cl xe λρ=>bind (f ρ) λx=>bind (g x) λ_=>bind (fs ρ) λds=>op x ds)):RuE where
 is _ _ e:=b9o m e
 run r _ _ lc e ρ:=mtE g op r lc e ρ
 ok {T k r Γ C lc X} e R TX h hi:=by
  obtain ⟨o,apos,a,es,cpos,rfl,c1,c2,c3,c4⟩:=b3t hi
  exact ok h (R.ex h o) (k4 R h c2) c1 c2 c3 c4
 runK q _ _ lc e ρ _ k:=mtK g op q lc e ρ k
 eq e ρ _ k h:=c22 g op e ρ k h
noncomputable def b3z:RuE:=rMt "extend" lstOf extD λ_ ho ha c1 c2 c3 c4=>a6k PySem.F.plainAttrs_list PySem.F.slot_list_extend PySem.F.type_list_extend a4r T8 a9j ho ha c1 c2 c3 c4
noncomputable def c5n:RuE:=rMt "pop" lstOf popD λ_ ho ha c1 c2 c3 c4=>a6k PySem.F.plainAttrs_list PySem.F.slot_list_pop PySem.F.type_list_pop b0s T8 a9a ho ha c1 c2 c3 c4
noncomputable def rAppend:RuE:=rMt "append" lstOf Q6 λ_ ho ha c1 c2 c3 c4=>Z1 ho ha c1 c2 c3 c4
noncomputable def b03:RuE where
 is _ lc e:=match e with
  | .Call (.Attribute o n apos) [.List as p] [] cpos=>decide (n = "append")&&y4 o&&decide (("[]" : Str)∈lc.mu)&&as.all noStar&&(apos.endLine==cpos.line)
  | _=>false
 run r _ _ lc e ρ:=match e with
  | .Call (.Attribute o _ _) [.List as _] [] _=>bind (r.e lc o ρ) λx=>bind (lstOf x) λ_=>bind (bind (bind (o9 r lc as ρ) newL) λd=>ret [d]) λds=>Q6 x ds
  | _=>bad
 ok {T k r Γ C lc X} e R TX h hi:=by
  split at hi
  ·simp only [Bool.and_eq_true,decide_eq_true_eq] at hi
   obtain ⟨⟨⟨⟨rfl,h1⟩,h2⟩,h3⟩,h4⟩:=hi
   refine Z1 (R.ex h _) ?_ h1 rfl rfl h4
   exact PA.imp (A4 (a07 (k4 R h h3)) K8 rfl) λσ H Q ⟨μ,S,ρ,eo,rp,p⟩=>⟨μ,S,ρ,eo,rp,p⟩
  ·cases hi
 runK q _ _ lc e ρ _ k:=match e with
  | .Call (.Attribute o _ _) [.List as _] [] _=>q.e lc o ρ λx=>bind (lstOf x) λ_=>r8 q lc as ρ λds=>bind (newL ds) λd=>bind (Q6 x [d]) k
  | _=>bad
 eq e ρ _ k h:=by
  split
  ·simp only [h.e,j6 h,bind_assoc,f6]
  ·first
   | rfl
   | (rename_i hn;split;exact (hn _ _ _ _ _ _ rfl).elim;rfl)
noncomputable def c3o:RuS where
 is _ _ e:=match e with
  | .Expr e _=>k9 e
  | _=>false
 run r _ _ lc e ρ:=match e with
  | .Expr e _=>bind (r.e lc e ρ) λ_=>ret (.nx ρ)
  | _=>bad
 ok e R TX h hf hi:=by
  cases e with
  | Expr e p=>exact b1k (R.ex h _) hi
  | _=>exact D3
 runK q _ _ lc e ρ _ k:=match e with
  | .Expr e _=>q.e lc e ρ λ_=>k (.nx ρ)
  | _=>bad
 eq e ρ _ k h:=by
  cases e with
  | Expr e p=>simp only [h.e,bind_assoc,f6]
  | _=>rfl
noncomputable def c5q:RuS where
 is _ _ e:=match e with
  | .Return (some _) _=>true
  | _=>false
 run r _ _ lc e ρ:=match e with
  | .Return (some e) _=>bind (r.e lc e ρ) λd=>ret (.rt d)
  | _=>bad
 ok e R TX h hf hi:=by
  split at hi
  ·exact a59 (R.ex h _)
  ·cases hi
 runK q _ _ lc e ρ _ k:=match e with
  | .Return (some e) _=>q.e lc e ρ λd=>k (.rt d)
  | _=>bad
 eq e ρ _ k h:=by
  split
  ·simp only [h.e,bind_assoc,f6]
  ·first
   | rfl
   | (rename_i hn;split;exact (hn _ _ rfl).elim;rfl)
noncomputable def c2j:RuS where
 is _ lc e:=match e with
  | .Return (some (.List es _)) _=>decide (("return" : Str)∈lc.mu)&&es.all noStar
  | _=>false
 run r _ _ lc e ρ:=match e with
  | .Return (some (.List es _)) _=>bind (bind (o9 r lc es ρ) newL) λd=>ret (.rt d)
  | _=>bad
 ok e R TX h hf hi:=by
  split at hi
  ·rw [Bool.and_eq_true] at hi
   exact a59 (a07 (k4 R h hi.2))
  ·cases hi
 runK q _ _ lc e ρ _ k:=match e with
  | .Return (some (.List es _)) _=>r8 q lc es ρ λds=>bind (newL ds) λd=>k (.rt d)
  | _=>bad
 eq e ρ _ k h:=by
  split
  ·simp only [j6 h,bind_assoc,f6]
  ·first
   | rfl
   | (rename_i hn;split;exact (hn _ _ _ rfl).elim;rfl)
noncomputable def sIf:RuS where
 is _ _ e:=match e with
  | .If _ _ _ _=>true
  | _=>false
 run r _ _ lc e ρ:=match e with
  | .If c a b _=>bind (r.t lc c ρ) λq=>if q=true then O8 r lc a ρ else O8 r lc b ρ
  | _=>bad
 ok e R TX h hf hi:=by
  cases e with
  | If c a b p=>exact b7q (R.tx h _) (K0 R h hf) (K0 R h hf)
  | _=>exact D3
 runK q _ _ lc e ρ _ k:=match e with
  | .If c a b _=>q.t lc c ρ λz=>if z=true then p7 q lc a ρ k else p7 q lc b ρ k
  | _=>bad
 eq e ρ _ k h:=by
  cases e with
  | If c a b p=>simp only [h.t,W9 h,bind_assoc,n4]
  | _=>rfl
noncomputable def W2 (lc:Lc) (x:Str):Bool:=(d3 lc.N x).isSome&&X4 lc.sc x
noncomputable def M4 (lc:Lc) (x:Str) (ρ:Env) (d:D):M Fl:=match d3 lc.N x with
 | some i=>ret (.nx (ρ.set i (some d)))
 | none=>bad
noncomputable def y9 (lc:Lc) (x:Str) (ρ:Env) (d:D) {α:Type} (k:Fl->M α):M α:=match d3 lc.N x with
 | some i=>k (.nx (ρ.set i (some d)))
 | none=>bad
theorem W0 (lc:Lc) (x:Str) (ρ:Env) (d:D) {α:Type} (k:Fl->M α):bind (M4 lc x ρ d) k=y9 lc x ρ d k:=by
 unfold M4 y9
 cases d3 lc.N x <;> rfl
theorem a4t {T:Tx} {k:Nat} {lc:Lc} {X:Cx} {xe:Addr->Hp->Prop} {x:Str} {p pos:Pos} {e:Expr} {f:Env->M D} (h:CxOk T k lc X) (hf:lc.fr=true) (hn:W2 lc x=true) (he:PE X e (tD X.K T.cl xe f)) (hc:k9 e=true):PS X (.Assign [.Name x p] e pos) (sD X.K T.cl xe λρ=>bind (f ρ) (M4 lc x ρ)):=by
 rw [W2,Bool.and_eq_true,Option.isSome_iff_exists] at hn
 obtain ⟨⟨i,hi⟩,hl⟩:=hn
 have:=b32 (pos:=pos) (pos':=p) h.nd' (by rw [h.N];exact k7 hi) (by rw [h.sc];exact w6 hl) he hc (.inl (h.fn1 hf))
 have e:M4 lc x=λρ d=>ret (.nx (ρ.set i (some d))):=by funext ρ d;simp only [M4,hi]
 rw [e];exact this
noncomputable def c5b:RuS where
 is _ lc e:=match e with
  | .Assign [.Name x _] e _=>W2 lc x&&k9 e
  | _=>false
 run r _ _ lc e ρ:=match e with
  | .Assign [.Name x _] e _=>bind (r.e lc e ρ) (M4 lc x ρ)
  | _=>bad
 ok e R TX h hf hi:=by
  split at hi
  ·rw [Bool.and_eq_true] at hi
   exact a4t h hf hi.1 (R.ex h _) hi.2
  ·cases hi
 runK q _ _ lc e ρ _ k:=match e with
  | .Assign [.Name x _] e _=>q.e lc e ρ λd=>y9 lc x ρ d k
  | _=>bad
 eq e ρ _ k h:=by
  split
  ·simp only [h.e,bind_assoc,W0]
  ·first
   | rfl
   | (rename_i hn;split;exact (hn _ _ _ _ rfl).elim;rfl)
noncomputable def c1x:RuS where
 is _ lc e:=match e with
  | .Assign [.Name x _] (.List es _) _=>W2 lc x&&decide (x∈lc.mu)&&es.all noStar
  | _=>false
 run r _ _ lc e ρ:=match e with
  | .Assign [.Name x _] (.List es _) _=>bind (bind (o9 r lc es ρ) newL) (M4 lc x ρ)
  | _=>bad
 ok e R TX h hf hi:=by
  split at hi
  ·rw [Bool.and_eq_true,Bool.and_eq_true] at hi
   exact a4t h hf hi.1.1 (a07 (k4 R h hi.2)) rfl
  ·cases hi
 runK q _ _ lc e ρ _ k:=match e with
  | .Assign [.Name x _] (.List es _) _=>r8 q lc es ρ λds=>bind (newL ds) λd=>y9 lc x ρ d k
  | _=>bad
 eq e ρ _ k h:=by
  split
  ·simp only [j6 h,bind_assoc,W0]
  ·first
   | rfl
   | (rename_i hn;split;exact (hn _ _ _ _ _ rfl).elim;rfl)
noncomputable def b2p:RuS where
 is Γ lc e:=match e with
  | .Assign [.Name x _] (.Call (.Name y _) [a] [] _) _=>W2 lc x&&decide (x∈lc.mu)&&decide (y = "list")&&(Γ.gl.lookup ("list" : Str)).isNone&&glB lc.sc "list" && noStar a
  | _=>false
 run r _ _ lc e ρ:=match e with
  | .Assign [.Name x _] (.Call (.Name _ _) [a] [] _) _=>bind (bind (r.e lc a ρ) listP) (M4 lc x ρ)
  | _=>bad
 ok {T k r Γ C lc X} e R TX h hf hi:=by
  split at hi
  ·rename_i x p y p2 a pos2 pos
   simp only [Bool.and_eq_true,decide_eq_true_eq,Option.isNone_iff_eq_none] at hi
   obtain ⟨⟨⟨⟨⟨h1,h2⟩,rfl⟩,c1⟩,c2⟩,c3⟩:=hi
   refine a4t h hf h1 ?_ rfl
   exact PE.imp (U2 a5g (h.gl c2) (TX.none h (by decide) c1) (by rfl) (A4 (R.ex h a) K8 c3) (by decide) (by decide) (by simp [c3])) λσ H Q ⟨μ,S,ρ,eo,rp,p⟩=>⟨μ,S,ρ,eo,rp,by
    have e:(bind (bind (r.e lc a ρ) λd=>bind (ret []) λds=>ret (d :: ds)) (one listP))=bind (r.e lc a ρ) listP:=by rw [bind_assoc];rfl
    show Post X.K T.cl (xOf X) μ H ((bind (bind (r.e lc a ρ) λd=>bind (ret []) λds=>ret (d :: ds)) (one listP)) S) _
    rw [e];exact p⟩
  ·cases hi
 runK q _ _ lc e ρ _ k:=match e with
  | .Assign [.Name x _] (.Call (.Name _ _) [a] [] _) _=>q.e lc a ρ λz=>bind (listP z) λd=>y9 lc x ρ d k
  | _=>bad
 eq e ρ _ k h:=by
  split
  ·simp only [h.e,bind_assoc,W0]
  ·first
   | rfl
   | (rename_i hn;split;exact (hn _ _ _ _ _ _ _ rfl).elim;rfl)
noncomputable def swB (lc:Lc) (value:Expr) (scope:Scope) (t:Str) (pos:Pos):Bool:=lc.sc.names.lookup t==some .local&&pos.line==value.pos.line&&!(scope.names.any λ(n,k)=>n==t&&(k==.local||k==.cell))
theorem b6w {T:Tx} {k:Nat} {lc:Lc} {X:Cx} (h:CxOk T k lc X) (elt:Expr) (gens:List Comprehension) (scope:Scope) (x:Str) (pos' pos pos2:Pos):swapsWith (.ListComp elt gens scope pos2) (some (.Name x pos')) pos.line X.env=pure (swB lc (.ListComp elt gens scope pos2) scope x pos'):=by
 show pure (X.env.blockKind==.function&&X.env.kindOf x==some .local&&pos'.line==(Expr.ListComp elt gens scope pos2).pos.line&&!(scope.names.any λ(n,k)=>n==x&&(k==.local||k==.cell)))=_
 have hb:X.env.blockKind=.function:=by unfold PySem.Env.blockKind;rw [h.sc,h.kd];rfl
 have hk:X.env.kindOf x=lc.sc.names.lookup x:=by unfold PySem.Env.kindOf;rw [h.sc]
 rw [hb,hk]
 rfl
theorem a2v {T:Tx} {k i:Nat} {lc:Lc} {X:Cx} {x:Str} {p pos:Pos} {e:Expr} {fs:Env->M (List D)} {xe:Addr->Hp->Prop} (hi:d3 lc.N x=some i) (h:PS X (.Assign [.Name x p] e pos) (b2m (a94 X.K T.cl x0 fs) (U3 i))):PS X (.Assign [.Name x p] e pos) (sD X.K T.cl xe λρ=>bind (bind (nx (fs ρ)) λds=>ret (.lst ds)) (M4 lc x ρ)):=PS.imp h λD σ H ⟨μ,S,ρ,eo,rp,p⟩=>
 ⟨μ,S,ρ,eo,rp,p.bind.bind.nx.imp λds S1 μ1 H1 l1 r1 p1 acc ys hl rds=>by
  have p2:=p1.ret μ1 H1 (Lat.refl _ _) r1
  simp only [M4,hi] at p2
  exact p2.ret μ1 H1 (Lat.refl _ _) r1 _ ((eo.later l1).set (.lst hl rds) i)⟩
noncomputable def b1c:RuS where
 is _ lc e:=match e with
  | .Assign [.Name x _] (.ListComp _ [⟨.Name y _,iter,_,0⟩] scope _) _=>W2 lc x&&y0 lc scope [y]&&t0 iter
  | _=>false
 run r _ _ lc e ρ:=match e with
  | .Assign [.Name x _] (.ListComp elt [⟨.Name y py,iter,ifs,0⟩] scope _) _=>bind (bind (E8 r lc elt y py iter ifs scope ρ) λds=>ret (.lst ds)) (M4 lc x ρ)
  | _=>bad
 ok {T k r Γ C lc X} e R TX h hf hi:=by
  split at hi
  ·rename_i x p elt y py iter ifs scope pos2 pos
   rw [Bool.and_eq_true,Bool.and_eq_true] at hi
   obtain ⟨⟨h1,hc⟩,hn⟩:=hi
   have h1':=h1
   rw [W2,Bool.and_eq_true,Option.isSome_iff_exists] at h1'
   obtain ⟨⟨i,hi⟩,hl⟩:=h1'
   have hi':X.N[i]?=some x:=by rw [h.N];exact k7 hi
   have hl':L2.Loc X.env.scope x:=by rw [h.sc];exact w6 hl
   have hff:X.fn x=true\/X.env.scope.names.lookup x=some .local:=.inl (h.fn1 hf)
   have sw:=b6w h elt [⟨.Name y py,iter,ifs,0⟩] scope x p pos pos2
   show PS X _ (sD X.K T.cl (xOf X) λρ=>bind (bind (E8 r lc elt y py iter ifs scope ρ) λds=>ret (.lst ds)) (M4 lc x ρ))
   unfold E8
   cases hm:f8 (d3 lc.N) (k5 scope) with
   | none=>exact PS.imp a2b λD σ H ⟨μ,S,ρ,eo,rp,p⟩=>p.bind.elim
   | some caps=>
    obtain ⟨t1,t2,t3,t4,t5⟩:=G7 h hc hm
    have e1:=λpins C fp s H=>PTL.x0 (tests_ok (ifs:=ifs) R (w5 h t4 t5 t2 pins C fp s H))
    have e2:=λpins C fp s H=>PE.x0 (R.ex (w5 h t4 t5 t2 pins C fp s H) elt)
    refine a2v (k:=k) hi ?_
    cases hb:swB lc (.ListComp elt [⟨.Name y py,iter,ifs,0⟩] scope pos2) scope x p with
    | false=>
     rw [hb] at sw
     exact a3p h.nd' hi' hl' (a2o t1 (h.calm t4) t2 rfl (t3 y (by simp)) (PI.x0 (R.ix h _ _)) e1 e2 hn) sw hff
    | true=>
     rw [hb] at sw
     exact PS.imp (a49 sw h.nd' hi' hl' hff t1 (h.calm t4) t2 rfl (t3 y (by simp)) (PI.x0 (R.ix h _ _)) e1 e2 (A6 hn)) λD σ H ⟨μ,S,ρ,eo,rp,p⟩=>W5 eo rp p
  ·cases hi
 runK q _ _ lc e ρ _ k:=match e with
  | .Assign [.Name x _] (.ListComp elt [⟨.Name y py,iter,ifs,0⟩] scope _) _=>a04 q lc elt y py iter ifs scope ρ λds=>y9 lc x ρ (.lst ds) k
  | _=>bad
 eq e ρ _ k h:=by
  split
  ·simp only [a24 h,bind_assoc,f6,W0]
  ·first
   | rfl
   | (rename_i hn;split;exact (hn _ _ _ _ _ _ _ _ _ _ rfl).elim;rfl)
noncomputable def j7 (lc:Lc):List Expr->Option (List Nat)
 | []=>some []
 | .Name x _ :: ts=>if X4 lc.sc x=true then (match d3 lc.N x,j7 lc ts with
   | some i,some is=>some (i :: is)
   | _,_=>none) else none
 | _=>none
theorem M2 {T:Tx} {k:Nat} {lc:Lc} {X:Cx} (h:CxOk T k lc X) (hf:lc.fr=true):∀ {ts:List Expr} {is:List Nat},j7 lc ts=some is->G9 X ts is
 | [],is,e=>by cases e;exact True.intro
 | t :: ts,is,e=>by
  cases t with
  | Name x p=>
   simp only [j7] at e
   by_cases hl:X4 lc.sc x=true
   ·simp only [if_pos hl] at e
    cases e1:d3 lc.N x with
    | none=>rw [e1] at e;cases e
    | some i=>
     cases e2:j7 lc ts with
     | none=>rw [e1,e2] at e;cases e
     | some is'=>
      rw [e1,e2] at e;cases e
      exact ⟨by rw [h.N];exact k7 e1,by rw [h.sc];exact w6 hl,.inl (h.fn1 hf),M2 h hf e2⟩
   ·simp only [if_neg hl] at e;cases e
  | _=>simp only [j7] at e;cases e
noncomputable def c6e:RuS where
 is _ lc e:=match e with
  | .Assign [.Tuple ts _ _] e _=>(j7 lc ts).isSome&&k9 e&&a9p e&&!quiet lc
  | _=>false
 run r _ _ lc e ρ:=match e with
  | .Assign [.Tuple ts _ _] e _=>(match j7 lc ts with
   | some is=>bind (r.e lc e ρ) λd=>Q5 (C8 is) d ρ
   | none=>bad)
  | _=>bad
 ok {T k r Γ C lc X} e R TX h hf hi:=by
  split at hi
  ·rename_i ts n p e pos
   simp only [Bool.and_eq_true,Bool.not_eq_true'] at hi
   obtain ⟨⟨⟨h1,h2⟩,h3⟩,h4⟩:=hi
   show PS X _ (sD X.K T.cl (xOf X) λρ=>(match j7 lc ts with
    | some is=>bind (r.e lc e ρ) λd=>Q5 (C8 is) d ρ
    | none=>bad))
   cases e1:j7 lc ts with
   | none=>exact D3
   | some is=>exact b4n (h.calm h4) h.nd' (M2 h hf e1) (R.ex h _) h2 h3
  ·cases hi
 runK q _ _ lc e ρ _ k:=match e with
  | .Assign [.Tuple ts _ _] e _=>(match j7 lc ts with
   | some is=>q.e lc e ρ λd=>bind (Q5 (C8 is) d ρ) k
   | none=>bad)
  | _=>bad
 eq {r q Γ C lc} e ρ _ k h:=by
  split
  ·rename_i ts n p e pos
   cases j7 lc ts with
   | none=>rfl
   | some is=>simp only [h.e,bind_assoc]
  ·first
   | rfl
   | (rename_i hn;split;exact (hn _ _ _ _ _ rfl).elim;rfl)
noncomputable def c1i:RuS where
 is _ _ e:=match e with
  | .Assign [.Subscript _ b _] e _=>k9 e&&C3 b
  | _=>false
 run r _ _ lc e ρ:=match e with
  | .Assign [.Subscript a b _] e _=>bind (r.e lc e ρ) λv=>bind (r.e lc a ρ) λx=>bind (r.e lc b ρ) λy=>bind (v3 x y v) λ_=>ret (.nx ρ)
  | _=>bad
 ok e R TX h hf hi:=by
  split at hi
  ·rw [Bool.and_eq_true] at hi
   exact b0a h.u1 (R.ex h _) (R.ex h _) (R.ex h _) hi.1 hi.2
  ·cases hi
 runK q _ _ lc e ρ _ k:=match e with
  | .Assign [.Subscript a b _] e _=>q.e lc e ρ λv=>q.e lc a ρ λx=>q.e lc b ρ λy=>bind (v3 x y v) λ_=>k (.nx ρ)
  | _=>bad
 eq e ρ _ k h:=by
  split
  ·simp only [h.e,bind_assoc,f6]
  ·first
   | rfl
   | (rename_i hn;split;exact (hn _ _ _ _ _ rfl).elim;rfl)
noncomputable def tgE (lc:Lc) (tgt:Expr):Option (D->Env->Option Env):=match tgt with
 | .Name x _=>if X4 lc.sc x=true then (d3 lc.N x).map λi=>λd ρ=>some (ρ.set i (some d)) else none
 | .Tuple ts _ _=>(j7 lc ts).map C8
 | _=>none
theorem c28 {T:Tx} {k:Nat} {lc:Lc} {X:Cx} (h:CxOk T k lc X) (hf:lc.fr=true) (hq:quiet lc=false) {tgt:Expr} {tg:D->Env->Option Env} (e:tgE lc tgt=some tg):PG X tgt (b4x X.K T.cl tg):=by
 unfold tgE at e
 split at e
 ·rename_i x p
  by_cases hl:X4 lc.sc x=true
  ·simp only [if_pos hl] at e
   cases e1:d3 lc.N x with
   | none=>rw [e1] at e;cases e
   | some i=>rw [e1] at e;cases e;exact a9l h.nd' (by rw [h.N];exact k7 e1) (by rw [h.sc];exact w6 hl) (.inl (h.fn1 hf))
  ·simp only [if_neg hl] at e;cases e
 ·rename_i ts n p
  cases e1:j7 lc ts with
  | none=>rw [e1] at e;cases e
  | some is=>rw [e1] at e;cases e;exact a1a (h.calm hq) h.nd' (M2 h hf e1)
 ·cases e
noncomputable def c6t:RuS where
 is _ lc e:=match e with
  | .For _ iter _ [] _=>t0 iter&&!quiet lc
  | _=>false
 run r _ _ lc e ρ:=match e with
  | .For tgt iter body [] _=>(match tgE lc tgt with
   | some tg=>bind (r.i lc tgt iter ρ) λp=>y8 p.1 tg (O8 r lc body) p.2 0 ρ
   | none=>bad)
  | _=>bad
 ok {T k r Γ C lc X} e R TX h hf hi:=by
  split at hi
  ·rename_i tgt iter body pos
   simp only [Bool.and_eq_true,Bool.not_eq_true'] at hi
   show PS X _ (sD X.K T.cl (xOf X) λρ=>(match tgE lc tgt with
    | some tg=>bind (r.i lc tgt iter ρ) λp=>y8 p.1 tg (O8 r lc body) p.2 0 ρ
    | none=>bad))
   cases e:tgE lc tgt with
   | none=>exact D3
   | some tg=>exact b3a h.po (h.calm hi.2) (R.ix h _ _) (c28 h hf hi.2 e) (K0 R h hf) hi.1
  ·cases hi
 runK q _ _ lc e ρ _ k:=match e with
  | .For tgt iter body [] _=>(match tgE lc tgt with
   | some tg=>q.i lc tgt iter ρ λp=>bind (y8 p.1 tg (λρ'=>p7 q lc body ρ' ret) p.2 0 ρ) k
   | none=>bad)
  | _=>bad
 eq {r q Γ C lc} e ρ _ k h:=by
  split
  ·rename_i tgt iter body pos
   cases tgE lc tgt with
   | none=>rfl
   | some tg=>
    have:(λρ'=>p7 q lc body ρ' ret)=O8 r lc body:=funext λρ'=>by rw [W9 h,G5]
    simp only [h.i,bind_assoc,this]
  ·first
   | rfl
   | (rename_i hn;split;exact (hn _ _ _ _ rfl).elim;rfl)
def PB (X:Cx) (cl:Nat->Addr) (st:Stmt) (g:Env->M Fl):Prop:=∀ (pins:List (Addr×Obj)) (s:Shared) (σ:L2.St) (H:Hp) (D:Ends) (F:Addr->Hp->Prop),L2.Inv X pins σ H s->sD X.K cl F g D σ H ->
 wpAny (model X.prog X.w) X.A (exec st X.env) (SP X pins D) (b61 X pins σ F) s
noncomputable def a6o (ie:Option Nat) (fl:Fl):Fl:=match ie with
 | none=>fl
 | some i=>match fl with
  | .nx ρ=>.nx (ρ.set i none)
  | .bk ρ=>.bk (ρ.set i none)
  | .ct ρ=>.ct (ρ.set i none)
  | .rt d=>.rt d
noncomputable def a8t (ie:Option Nat) (n:Nat) (ρ:Env):Env:=match ie with
 | none=>ρ
 | some i=>ρ.set i (some (.ref n))
noncomputable def T6 (g:Env->M Fl) (sub:Nat->Bool) (ie:Option Nat) (h:Env->M Fl) (ρ:Env):M Fl:=λS=>match g ρ S with
 | .exn n S1=>(match S1[n]? with
  | some (.exc c _)=>if sub c=true then bind (nx (h (a8t ie n ρ))) (λfl=>ret (a6o ie fl)) S1 else .bad
  | _=>.bad)
 | r=>r
section
variable {X:Cx} {cl:Nat->Addr} {e:Expr} {f:Env->M D} {pos:Pos} {st:Stmt} {g:Env->M Fl}
theorem b5b (h:PX X cl e f) (hn:k9 e=true):PB X cl (.Expr e pos) λρ=>bind (f ρ) λ_=>ret (.nx ρ):=by
 intro pins s σ H D F I ⟨μ,S,ρ,eo,rp,p⟩
 exact wpAny_Expr_any (thn (h pins s σ H (λ_ H1=>D.nx σ H1) F I ⟨μ,S,ρ,eo,rp,p.bind.imp λd S1 μ1 H1 l1 r1 p1 v rv=>p1.ret μ1 H1 (Lat.refl _ _) r1 σ (eo.later l1)⟩) λv s1 ⟨x,H1,I1,r1,q1⟩=>⟨σ,H1,I1,q1⟩) I.quiet (u8 hn)
theorem c0i (h:PX X cl e f):PB X cl (.Return (some e) pos) λρ=>bind (f ρ) λd=>ret (.rt d):=by
 intro pins s σ H D F I ⟨μ,S,ρ,eo,rp,p⟩
 exact wpAny_Return_some (thn (h pins s σ H D.rt F I ⟨μ,S,ρ,eo,rp,p.bind.imp λd S1 μ1 H1 l1 r1 p1 v rv=>p1.ret μ1 H1 (Lat.refl _ _) r1 v rv⟩) λv s1 ⟨x,H1,I1,r1,q1⟩=>⟨x,σ,H1,I1,r1,q1⟩)
theorem b9n {i:Nat} {x:Str} {pos':Pos} (hN:X.N.Nodup) (hi:X.N[i]?=some x) (hx:Loc X.env.scope x) (h:PX X cl e f) (hn:k9 e=true) (hf:X.fn x=true\/X.env.scope.names.lookup x=some .local) :
  PB X cl (.Assign [.Name x pos'] e pos) λρ=>bind (f ρ) λd=>ret (.nx (ρ.set i (some d))):=by
 intro pins s σ H D F I ⟨μ,S,ρ,eo,rp,p⟩
 exact wpAny_Assign_Name (thn (h pins s σ H (λv H1=>D.nx (σ.set i (some v)) H1) F I ⟨μ,S,ρ,eo,rp,p.bind.imp λd S1 μ1 H1 l1 r1 p1 v rv=>p1.ret μ1 H1 (Lat.refl _ _) r1 _ ((eo.later l1).set rv i)⟩) λv s1 ⟨y,H1,I1,r1,q1⟩=>E4 I1 hN hi hx r1 (λs2 I2=>⟨_,H1,I2,q1⟩) hf) (u8 hn)
theorem EnvOk.setN {K:PySem.W.Frag} {μ:Mp} {H:Hp} {ρ:Env} {σ:L2.St} (h:EnvOk K μ H ρ σ) (i:Nat):EnvOk K μ H (ρ.set i none) (σ.set i none):=by
 refine ⟨by simp [h.1],λj d e=>?_⟩
 by_cases hij:i=j
 ·subst hij
  have hi:i<ρ.length:=by simpa using (List.getElem?_eq_some_iff.mp e).1
  rw [List.getElem?_set_self hi] at e;cases e
 ·rw [List.getElem?_set_ne hij] at e
  obtain ⟨v,q,r⟩:=h.2 j d e
  exact ⟨v,by rw [List.getElem?_set_ne hij];exact q,r⟩
noncomputable def a56 (ie:Option Nat) (D:Ends):Ends:=match ie with
 | none=>D
 | some i=>{ nx:=λσ H=>D.nx (σ.set i none) H,rt:=D.rt,bk:=λσ H=>D.bk (σ.set i none) H,ct:=λσ H=>D.ct (σ.set i none) H }
theorem FlOk.goes {K:PySem.W.Frag} {D:Ends} {ie:Option Nat} {fl:Fl} {μ:Mp} {H:Hp} (h:FlOk K D (a6o ie fl) μ H):FlOk K (a56 ie D) fl μ H:=by
 cases ie with
 | none=>exact h
 | some i=>
  cases fl with
  | nx ρ=>exact λσ eo=>h _ (eo.setN i)
  | bk ρ=>exact λσ eo=>h _ (eo.setN i)
  | ct ρ=>exact λσ eo=>h _ (eo.setN i)
  | rt d=>exact h
structure TryAt (X:Cx) (nm:Option Str) (ie:Option Nat):Prop where
 nd:X.N.Nodup
 ex:(nm=none/\ie=none)\/∃ x i,nm=some x/\ie=some i/\X.N[i]?=some x/\X.env.scope.names.lookup x=some .local
theorem b7z {nm:Option Str} {ie:Option Nat} {Tn:Str} {c0:Nat} {b0:Stmt} {suite:List Stmt} {hp tp:Pos} {sub:Nat->Bool} {h:Env->M Fl} (hst:X.stack=X.env :: X.outer) (hfr:X.env.frame=some X.env.locals) (hb:PB X cl st g)
  (hg:Gl X Tn) (hm:X.mg Tn=some (.ref (cl c0))) (hdb:(Tn==("__debug__" : Str))=false) (MT:XC X.K (cl c0)) (hk:∀ c,XC X.K (cl c)->PySem.W.kitOne X.K (.ref (cl c)) (.ref (cl c0))=some (sub c))
  (ta:TryAt X nm ie) (hs:∀ v,PSs (X5 X v) (b0 :: suite) (sD X.K cl x0 h)) :
  PS X (.Try [st] [.ExceptHandler (some (.Name Tn tp)) nm (b0 :: suite) hp] [] [] pos) (sD X.K cl (xOf X) (T6 g sub ie h)):=by
 intro pins s σ H D I ⟨μ,S,ρ,eo,rp,p⟩
 rw [arm_exec_Try]
 have hpost:sD X.K cl (λa H1=>∃ n S1 μ1,g ρ S=.exn n S1/\Lat μ H μ1 H1/\Rep X.K cl μ1 S1 H1/\μ1.pl[n]?=some a) g D σ H:=⟨μ,S,ρ,eo,rp,by
  unfold T6 at p
  cases e:g ρ S with
  | ok fl S1=>rw [e] at p;exact p
  | exn n S1=>exact λμ' H' a l r q=>⟨n,S1,μ',rfl,l,r,q⟩
  | bad=>rw [e] at p;exact p⟩
 refine wpAny_bind (wpAny_standAt (wpAny_tryStmt_except (wpAny_execs_cons (wpAny_mono (hb pins s σ H D _ I hpost) (λf s1 q=>?_) λev s1 fl=>?_))))
 ·cases f with
  | next=>exact wpAny_execs_nil (wpAny_execs_nil q)
  | ret v=>exact q
  | brk=>exact q
  | cont=>exact q
 ·obtain ⟨a,H1,C,d,tb,he,I1,fx,n,S1,μ1,eg,l1,r1,e1⟩:=fl
  subst he
  refine a6f I1 I1.ok.frames hst hfr fx λH2 s2 T I2 fx2 m2=>F7 I2 fx2 λs3 I3=>?_
  obtain ⟨l2,r2⟩:=r1.mv I1.hok e1 fx.at_ m2
  unfold T6 at p
  rw [eg] at p
  simp only at p
  cases eo1:S1[n]? with
  | none=>rw [eo1] at p;exact p.elim
  | some o=>
   rw [eo1] at p
   cases o with
   | lst _=>exact p.elim
   | dct _=>exact p.elim
   | exc c fs=>
    simp only at p
    by_cases hsub:sub c=true
    case neg=>rw [if_neg hsub] at p;exact p.elim
    rw [if_pos hsub] at p
    have ec:=(a9q I1.hok (r1.ats n _ a eo1 e1) fx.at_ fx.tb_).1
    have hkc:=hk c (ec▸fx.xc)
    rw [<- ec,hsub] at hkc
    have J3:=I3.hushed (.ref a)
    have p':=(Post.later p (l1.trans l2)).bind.nx (xe':=x0)
    have post:∀ σ',EnvOk X.K μ1 H2 (a8t ie n ρ) σ'->sD X.K cl x0 h (a56 ie D) σ' H2:=λσ' eo'=>⟨μ1,S1,_,eo',r2,p'.imp λfl S2 μ2 H3 l3 r3 p3=>FlOk.goes (p3.ret μ2 H3 (Lat.refl _ _) r3)⟩
    refine wpAny_handleBy_cons (codeAny_handlers_test (C6 (X:=X5 X (.ref a)) J3 hg hm ?_ hdb)) (by intro z;cases z)
    refine a3t J3.kIn fx2.xc MT (fx2.isX (X:=X5 X (.ref a)) J3) hkc ?_
    rcases ta.ex with ⟨rfl,rfl⟩ | ⟨x,i,rfl,rfl,hi,hl⟩
    ·refine codeAny_handlers_suite (F7 (X:=X5 X (.ref a)) J3 fx2 λs4 J4=>?_)
     refine wpAny_mono (hs (.ref a) pins s4 σ H2 (a56 none D) J4 (post σ (eo.later (l1.trans l2)))) (λf s5 q=>?_) λ_ _ z=>False.elim z
     cases f with
     | next=>obtain ⟨σ',H',J,q⟩:=q;exact ⟨σ',H',J.unhush I.ok,q⟩
     | brk=>obtain ⟨σ',H',J,q⟩:=q;exact ⟨σ',H',J.unhush I.ok,q⟩
     | cont=>obtain ⟨σ',H',J,q⟩:=q;exact ⟨σ',H',J.unhush I.ok,q⟩
     | ret u=>obtain ⟨v,σ',H',J,r,q⟩:=q;exact ⟨v,σ',H',J.unhush I.ok,r,q⟩
    ·refine codeAny_handlers_suite_as (F7 (X:=X5 X (.ref a)) J3 fx2 λs4 J4=>?_)
     refine E4 (X:=X5 X (.ref a)) (v:=.ref a) J4 ta.nd hi (.inl hl) rfl (λs5 J5=>?_) (.inr hl)
     refine wpAny_mono (hs (.ref a) pins s5 _ H2 (a56 (some i) D) J5 (post _ ((eo.later (l1.trans l2)).set (.ref e1) i))) (λf s6 q=>?_) λ_ _ z=>False.elim z
     cases f with
     | next=>obtain ⟨σ',H',J,q⟩:=q;exact S8 (J.unhush I.ok) ta.nd hi hl λs7 I7=>⟨_,H',I7,q⟩
     | brk=>obtain ⟨σ',H',J,q⟩:=q;exact S8 (J.unhush I.ok) ta.nd hi hl λs7 I7=>⟨_,H',I7,q⟩
     | cont=>obtain ⟨σ',H',J,q⟩:=q;exact S8 (J.unhush I.ok) ta.nd hi hl λs7 I7=>⟨_,H',I7,q⟩
     | ret u=>obtain ⟨v,σ',H',J,r,q⟩:=q;exact S8 (J.unhush I.ok) ta.nd hi hl λs7 I7=>⟨v,_,H',I7,r,q⟩
end
noncomputable def b75:RuS where
 is Γ lc e:=match e with
  | .Raise (some (.Call (.Name x _) (a :: es) [] _)) none _=>p9 x&&glB lc.sc x&&(a :: es).all noStar&&!quiet lc
  | _=>false
 run r Γ _ lc e ρ:=match e with
  | .Raise (some (.Call (.Name x _) (a :: es) [] _)) none _=>bind (a79 r Γ lc x (a :: es) ρ) K3
  | _=>bad
 ok {T k r Γ C lc X} e R TX h hf hi:=by
  split at hi
  ·simp only [Bool.and_eq_true,Bool.not_eq_true'] at hi
   exact a9i (h.calm hi.2) (a5v R TX h hi.1.1.1 hi.1.1.2 hi.1.2 hi.2)
  ·cases hi
 runK q Γ _ lc e ρ _ k:=match e with
  | .Raise (some (.Call (.Name x _) (a :: es) [] _)) none _=>b6h q Γ lc x (a :: es) ρ λd=>bind (K3 d) k
  | _=>bad
 eq {r q Γ C lc} e ρ _ k h:=by
  split
  ·simp only [a84 h,bind_assoc]
  ·first
   | rfl
   | (rename_i hn;split;exact (hn _ _ _ _ _ _ rfl).elim;rfl)
noncomputable def isR (Γ:Gm):Expr->Bool
 | .Call (.Name x _) (_ :: _) [] _=>b5k Γ x λi _=>decide (i∉Γ.qs)
 | _=>false
noncomputable def b12 (r:Ev) (Γ:Gm) (C:Cf) (lc:Lc) (x:Str) (es:List Expr) (ρ:Env):M D:=if p9 x=true/\glB lc.sc x=true/\es.all noStar=true then (match Γ.gl.lookup x with
 | some (.fn i n)=>bind (nx (o9 r lc es ρ)) λds=>if ds.length=n then C i ds else bad
 | _=>bad) else bad
noncomputable def eB (r:Ev) (Γ:Gm) (C:Cf) (lc:Lc) (e:Expr) (ρ:Env):M D:=if isR Γ e=true then (match e with
 | .Call (.Name x _) es [] _=>b12 r Γ C lc x es ρ
 | _=>bad) else nx (r.e lc e ρ)
noncomputable def a9b (q:EvK) (Γ:Gm) (C:Cf) (lc:Lc) (x:Str) (es:List Expr) (ρ:Env):M D:=if p9 x=true/\glB lc.sc x=true/\es.all noStar=true then (match Γ.gl.lookup x with
 | some (.fn i n)=>bind (nx (r8 q lc es ρ ret)) λds=>if ds.length=n then C i ds else bad
 | _=>bad) else bad
noncomputable def eBK (q:EvK) (Γ:Gm) (C:Cf) (lc:Lc) (e:Expr) (ρ:Env):M D:=if isR Γ e=true then (match e with
 | .Call (.Name x _) es [] _=>a9b q Γ C lc x es ρ
 | _=>bad) else nx (q.e lc e ρ ret)
theorem c1o {r:Ev} {q:EvK} {Γ:Gm} {C:Cf} {lc:Lc} (h:EqK r q) (e:Expr) (ρ:Env):eBK q Γ C lc e ρ=eB r Γ C lc e ρ:=by
 unfold eBK eB a9b b12
 simp only [j6 h,h.e,G5]
theorem c19 {T:Tx} {k:Nat} {r:Ev} {Γ:Gm} {C:Cf} {lc:Lc} {X:Cx} (R:EvOk T k r) (TX:TxOk T Γ k C) (h:CxOk T k lc X) (hq:quiet lc=false) (e:Expr):PX X T.cl e (eB r Γ C lc e):=by
 have pbad:PX X T.cl e λ_=>bad:=λ_ _ _ _ _ _ _ ⟨_,_,_,_,_,z⟩=>z.elim
 unfold eB
 by_cases hr:isR Γ e=true
 ·simp only [if_pos hr]
  unfold isR at hr
  split at hr
  ·rename_i x p e0 es pos
   obtain ⟨i,n,e1,hi⟩:=a6m hr
   simp only
   unfold b12
   by_cases hc:p9 x=true/\glB lc.sc x=true/\(e0 :: es).all noStar=true
   ·simp only [if_pos hc,e1]
    obtain ⟨c1,c2,c3⟩:=hc
    obtain ⟨n1,n2,n3⟩:=u7 c1
    obtain ⟨a,fd,ps,f1,f2,f3,f4,f5⟩:=(TX.fn x i n e1 (of_decide_eq_true hi)).ex
    exact b6e f1 (by rw [h.prog,h.w,h.K,h.mg,h.base];exact f2) (h.room0 hq) (h.gl c2) (by rw [h.mg];exact f3) (by rw [h.K];exact f4) (by rw [h.K];exact f5) (PA.x0 (k4 R h.nox c3)) n1 c3
   ·simp only [if_neg hc];exact pbad
  ·cases hr
 ·simp only [if_neg hr]
  exact PX.of (PE.x0 (R.ex h.nox e))
noncomputable def bX (g:Expr->Env->M D) (lc:Lc) (st:Stmt) (ρ:Env):M Fl:=match st with
 | .Expr e _=>if k9 e=true then bind (g e ρ) λ_=>ret (.nx ρ) else bad
 | .Return (some e) _=>bind (g e ρ) λd=>ret (.rt d)
 | .Assign [.Name x _] e _=>(match d3 lc.N x with
  | some i=>if X4 lc.sc x=true/\k9 e=true then bind (g e ρ) λd=>ret (.nx (ρ.set i (some d))) else bad
  | none=>bad)
 | _=>bad
theorem c2t {T:Tx} {k:Nat} {lc:Lc} {X:Cx} {g:Expr->Env->M D} (h:CxOk T k lc X) (hf:lc.fr=true) (hg:∀ e,PX X T.cl e (g e)) (st:Stmt):PB X T.cl st (bX g lc st):=by
 have pbad:PB X T.cl st λ_=>bad:=λ_ _ _ _ _ _ _ ⟨_,_,_,_,_,z⟩=>z.elim
 unfold bX
 split
 ·rename_i e p
  by_cases hn:k9 e=true
  ·simp only [if_pos hn];exact b5b (hg e) hn
  ·simp only [if_neg hn];exact pbad
 ·exact c0i (hg _)
 ·rename_i x p' e p
  cases hi:d3 lc.N x with
  | none=>exact pbad
  | some i=>
   by_cases hl:X4 lc.sc x=true/\k9 e=true
   ·simp only [if_pos hl]
    exact b9n h.nd' (by rw [h.N];exact k7 hi) (by rw [h.sc];exact w6 hl.1) (hg e) hl.2 (.inl (h.fn1 hf))
   ·simp only [if_neg hl];exact pbad
 ·exact pbad
noncomputable def nmI (lc:Lc) (nm:Option Str):Option (Option Nat):=match nm with
 | none=>some none
 | some x=>match d3 lc.N x with
  | some i=>if lc.sc.names.lookup x=some .local then some (some i) else none
  | none=>none
noncomputable def J6 (lc:Lc):Lc:=⟨lc.N,lc.sc,lc.fr,"~" :: lc.mu⟩
theorem CxOk.hushed {T:Tx} {k:Nat} {lc:Lc} {X:Cx} (h:CxOk T k lc X) (v:Value):CxOk T k (J6 lc) (X5 X v):=by
 have hq:quiet (J6 lc)=true:=by simp [quiet,J6]
 exact ⟨h.prog,h.w,h.K,h.mg,h.base,h.N,h.nd,h.sc,λz=>(by rw [hq] at z;exact absurd z (by decide)),⟨λz=>(by rw [hq] at z;exact absurd z (by decide)),h.room.dp,h.room.un,h.room.gd⟩,PassesOwn.never,h.fn,h.kd,λ_ z=>(by rw [hq] at z;exact absurd z (by decide))⟩
noncomputable def b7b (Γ:Gm) (lc:Lc) (e:Stmt):Bool:=match e with
 | .Try [_] [.ExceptHandler (some (.Name Tn _)) nm (_ :: _) _] [] [] _=>p9 Tn&&glB lc.sc Tn&&!quiet lc&&b73 Γ Tn&&(nmI lc nm).isSome
 | _=>false
noncomputable def c3t (g:Ev->Gm->Cf->Lc->Expr->Env->M D) (r:Ev) (Γ:Gm) (C:Cf) (lc:Lc) (e:Stmt) (ρ:Env):M Fl:=match e with
 | .Try [st] [.ExceptHandler (some (.Name Tn _)) nm (b0 :: suite) _] [] [] _=>(match Γ.gl.lookup Tn,nmI lc nm with
  | some (.err c0 _),some ie=>T6 (bX (g r Γ C lc) lc st) (λc=>Γ.sub c c0) ie (O8 r (J6 lc) (b0 :: suite)) ρ
  | _,_=>bad)
 | _=>bad
noncomputable def c4t (g:EvK->Gm->Cf->Lc->Expr->Env->M D) (q:EvK) (Γ:Gm) (C:Cf) (lc:Lc) (e:Stmt) (ρ:Env) {α:Type} (k:Fl->M α):M α:=match e with
 | .Try [st] [.ExceptHandler (some (.Name Tn _)) nm (b0 :: suite) _] [] [] _=>(match Γ.gl.lookup Tn,nmI lc nm with
  | some (.err c0 _),some ie=>bind (T6 (bX (g q Γ C lc) lc st) (λc=>Γ.sub c c0) ie (λρ'=>p7 q (J6 lc) (b0 :: suite) ρ' ret) ρ) k
  | _,_=>bad)
 | _=>bad
noncomputable def c18 (g:Ev->Gm->Cf->Lc->Expr->Env->M D) (gK:EvK->Gm->Cf->Lc->Expr->Env->M D) (hg:∀ {T:Tx} {k:Nat} {r:Ev} {Γ:Gm} {C:Cf} {lc:Lc} {X:Cx},EvOk T k r->TxOk T Γ k C->CxOk T k lc X->quiet lc=false->∀ e,PX X T.cl e (g r Γ C lc e))
  (hk:∀ {r:Ev} {q:EvK} {Γ:Gm} {C:Cf} {lc:Lc},EqK r q->∀ e ρ,gK q Γ C lc e ρ=g r Γ C lc e ρ):RuS where
 is:=b7b
 run r Γ C lc e ρ:=c3t g r Γ C lc e ρ
 ok {T k r Γ C lc X} e R TX h hf hi:=by
  unfold b7b at hi
  split at hi
  ·rename_i st Tn tp nm b0 suite hp pos
   simp only [Bool.and_eq_true,Bool.not_eq_true'] at hi
   obtain ⟨⟨⟨⟨c1,c2⟩,c3⟩,c4⟩,c5⟩:=hi
   obtain ⟨n1,n2,n3⟩:=u7 c1
   obtain ⟨hst,hfr⟩:=h.own hf c3
   show PS X _ (sD X.K T.cl (xOf X) λρ=>(match Γ.gl.lookup Tn,nmI lc nm with
    | some (.err c0 _),some ie=>T6 (bX (g r Γ C lc) lc st) (λc=>Γ.sub c c0) ie (O8 r (J6 lc) (b0 :: suite)) ρ
    | _,_=>bad))
   unfold b73 at c4
   split at c4
   ·rename_i c0 fs e
    rw [e]
    obtain ⟨ea,na⟩:=TX.err Tn c0 fs e
    cases hi:nmI lc nm with
    | none=>exact D3
    | some ie=>
     have ta:TryAt X nm ie:=by
      refine ⟨h.nd',?_⟩
      unfold nmI at hi
      split at hi
      ·cases hi;exact .inl ⟨rfl,rfl⟩
      ·rename_i x
       split at hi
       ·rename_i i e1
        split at hi
        ·rename_i hl
         cases hi
         exact .inr ⟨x,i,rfl,rfl,by rw [h.N];exact k7 e1,by rw [h.sc];exact hl⟩
        ·cases hi
       ·cases hi
     exact b7z (c0:=c0) hst hfr (c2t h hf (hg R TX h c3) st) (h.gl c2) (by rw [h.mg];exact ea.mg_) n1 (by rw [h.K];exact ea.xc) (λc xc=>by rw [h.K] at xc ⊢;exact TX.sub Tn c c0 fs e xc) ta λv=>PSs.x0 (K0 (X:=X5 X v) R (h.hushed v) hf)
   ·cases c4
  ·cases hi
 runK q Γ C lc e ρ _ k:=c4t gK q Γ C lc e ρ k
 eq {r q Γ C lc} e ρ _ k h:=by
  unfold c4t c3t
  split
  ·rename_i st Tn tp nm b0 suite hp pos
   have e1:(λρ'=>p7 q (J6 lc) (b0 :: suite) ρ' ret)=O8 r (J6 lc) (b0 :: suite):=funext λρ'=>by rw [W9 h,G5]
   have e2:gK q Γ C lc=g r Γ C lc:=funext λe=>funext λρ=>hk h e ρ
   rw [e1,e2]
   cases Γ.gl.lookup Tn with
   | none=>rfl
   | some z=>
    cases z with
    | err c fs=>cases nmI lc nm <;> rfl
    | _=>rfl
  ·first
   | rfl
   | (rename_i hn;split;exact (hn _ _ _ _ _ _ _ _ rfl).elim;rfl)
noncomputable def c5p:RuS:=c18 (λr Γ C lc e ρ=>eB r Γ C lc e ρ) (λq Γ C lc e ρ=>eBK q Γ C lc e ρ) (λR TX h hq e=>c19 R TX h hq e) (λh e ρ=>c1o h e ρ)
structure Fd where
 ps:List Str
 N:List Str
 sc:Scope
 body:List Stmt
 mu:List Str
noncomputable def N4 (N:List Str) (ds:List D):Env:=ds.map some++List.replicate (N.length-ds.length) none
noncomputable def endD (fl:Fl):M D:=match fl with
 | .rt d=>ret d
 | .nx _=>ret .non
 | _=>bad
noncomputable abbrev B8 (fd:Fd):Lc:=⟨fd.N,fd.sc,true,fd.mu⟩
noncomputable def J2 (Rs:Rules) (Γ:Gm) (Tb:List Fd):Nat->Nat->List D->M D
 | 0,_,_=>bad
 | k+1,i,ds=>match Tb[i]? with
  | none=>bad
  | some fd=>if ds.length=fd.ps.length then bind (O8 (ev Rs Γ (J2 Rs Γ Tb k) 40) (B8 fd) fd.body (N4 fd.N ds)) endD else bad
structure FnTx (T:Tx) (x:Str) (fd:Fd):Prop where
 ex:∃ (f:Addr) (da:FuncData) (qual:Str) (st:Stmt),Fun T.K x qual st f da/\j5 st=fd.body/\b7 st=fd.sc/\FnScope fd.N fd.ps fd.sc/\Binds T.K da fd.ps []/\T.mg x=some (.ref f)
theorem a2d {K:PySem.W.Frag} {μ:Mp} {H:Hp} {N:List Str} {ds:List D} {vs:List V} (r:RDs K μ H ds vs):EnvOk K μ H (N4 N ds) (L2.start N vs):=by
 unfold N4 L2.start
 refine ⟨by simp [r.length],λi d e=>?_⟩
 by_cases hi:i<ds.length
 ·rw [List.getElem?_append_left (by simpa using hi),List.getElem?_map] at e
  cases q:ds[i]? with
  | none=>rw [q] at e;cases e
  | some d'=>
   rw [q] at e;cases e
   obtain ⟨v,e1,r1⟩:=r.get q
   refine ⟨v,?_,r1⟩
   rw [List.getElem?_append_left (by rw [List.length_map,<- r.length];exact hi),List.getElem?_map,e1];rfl
 ·rw [List.getElem?_append_right (by simpa using Nat.le_of_not_lt hi),List.getElem?_replicate] at e
  split at e <;> cases e
section
variable {P:Program} {w:World} {K:PySem.W.Frag} {mg:Str->Option Value} {base:Heap}
theorem a8q {CX:CXT} {x qual:Str} {st:Stmt} {f:Addr} {fd:FuncData} {N ps:List Str} {k:Nat} {sp:Sp} (F:Fun K x qual st f fd) (S:FnScope N ps (b7 st)) (len:∀ vs H Q E,sp vs H Q E->vs.length=ps.length)
  (hbody:∀ (cdv:Value) (A:Around) (outer:List PySem.Env) (s:Shared) (H:Hp) (vs:List V) (Q:VK) (E:XK),Room CX.q k (A.deeper (envOfC qual (b7 st) s.heap.objs.size f cdv))->sp vs H Q E ->
   ∃ t,PSs (T3 CX P w K mg base N qual (b7 st) f cdv A outer s H E) (j5 st) t/\t { nx:=λ_ H'=>Q .non H',rt:=Q } (start N vs) H):FnOk P w K mg base CX (k+1) f fd ps sp:=by
 obtain ⟨oc,od,kV,doc,pm,an,cdv,ct,osl,rfl,lk,hcd⟩:=F.ex
 exact b6t lk hcd S len λA outer s H vs Q E hr hsp=>hbody cdv A outer s H vs Q E hr hsp
theorem Post.fly {α:Type} {cl:Nat->Addr} {N:List Str} {qual:Str} {scope:Scope} {f:Addr} {cd:Value} {A:Around} {outer:List PySem.Env} {s:Shared} {H0 H:Hp} {E:XK} {μ:Mp} {r:R α} {G:α->Sto->Mp->Hp->Prop} (p:Post K cl (b0j E) μ H r G) :
  Post K cl (xOf (T3 (CXd P w K) P w K mg base N qual scope f cd A outer s H0 E)) μ H r G:=by
 cases r with
 | ok a S=>exact p
 | bad=>exact p
 | exn n S=>
  intro μ' H' a l rp e pins σ s' C d tb I fx
  refine a3u (X:=T3 (CXd P w K) P w K mg base N qual scope f cd A outer s H0 E) I I.ok.frames rfl rfl fx λH2 s2 T I2 fx2 m2=>?_
  obtain ⟨l2,r2⟩:=rp.mv I.hok e fx.at_ m2
  exact ⟨a,C,d,some T,H2,rfl,I2.os,I2.bare,I2.base,I2.hok,fx2,p μ' H2 a (l.trans l2) r2 e⟩
end
theorem FnOk.unX {P:Program} {w:World} {K:PySem.W.Frag} {mg:Str->Option Value} {base:Heap} {k n:Nat} {f:Addr} {fd:FuncData} {ps:List Str} {cl:Nat->Addr} {run:List D->M D} (F:FnOk P w K mg base (CXd P w K) k f fd ps (spX K cl n run)):FnOk P w K mg base (CXq false) k f fd ps (spD K cl n run):=
 ⟨λvs H Q E h=>F.len vs H Q E0 h,λA outer s H args us vs Q E hr e0 hb r h=>codeAny_mono (F.run A outer s H args us vs Q E0 hr e0 hb r h) λres s' hq=>by
  cases res with
  | ok fl=>cases fl <;> exact hq
  | error e=>obtain ⟨_,_,_,_,_,_,_,_,_,_,_,z⟩:=hq;exact z⟩
section
variable {Rs:Rules} {T:Tx} {Γ:Gm} {Tb:List Fd} {k i:Nat} {x qual:Str} {st:Stmt} {f:Addr} {da:FuncData} {fd:Fd}
theorem a26 (TX:TxOk T Γ (k+3) (J2 Rs Γ Tb k)) (hi:Tb[i]?=some fd) (F:Fun T.K x qual st f da) (h1:j5 st=fd.body) (h2:b7 st=fd.sc) (S:FnScope fd.N fd.ps fd.sc) (hq:quiet (B8 fd)=false) :
  FnOk T.P T.w T.K T.mg T.base (CXd T.P T.w T.K) (k+4) f da fd.ps (spX T.K T.cl fd.ps.length (J2 Rs Γ Tb (k+1) i)):=by
 have S':FnScope fd.N fd.ps (b7 st):=by rw [h2];exact S
 refine a8q (k:=k+3) F S' (λvs H Q E h=>h.1) λcdv A outer s H vs Q E hr hsp=>?_
 obtain ⟨hl,μ,S0,ds,rds,rp,p⟩:=hsp
 have cx:CxOk T (k+3) (B8 fd) (T3 (CXd T.P T.w T.K) T.P T.w T.K T.mg T.base fd.N qual (b7 st) f cdv A outer s H E):=⟨rfl,rfl,rfl,rfl,rfl,rfl,S.nd,h2,λ_=>rfl,by rw [hq];exact hr,λe s' z=>wpAny_leaving_again (SameStack.refl _) z,rfl,S.kind,λ_ _=>⟨rfl,rfl⟩⟩
 have R:=b08 (Rs:=Rs) TX 40
 refine ⟨_,by rw [h1];exact K0 R cx rfl,?_⟩
 refine ⟨μ,S0,N4 fd.N ds,a2d rds,rp,?_⟩
 have hd:ds.length=fd.ps.length:=by rw [rds.length];exact hl
 simp only [J2,hi,if_pos hd] at p
 refine Post.fly (p.bind.imp λfl S1 μ1 H1 l1 r1 p1=>?_)
 cases fl with
 | nx ρ=>exact λσ _=>p1 μ1 H1 (Lat.refl _ _) r1 _ .non
 | rt d=>exact λv rv=>p1 μ1 H1 (Lat.refl _ _) r1 v rv
 | bk ρ=>exact False.elim p1
 | ct ρ=>exact False.elim p1
theorem b1o (TX:TxOk T Γ (k+3) (J2 Rs Γ Tb k)) (hi:Tb[i]?=some fd) (F:Fun T.K x qual st f da) (h1:j5 st=fd.body) (h2:b7 st=fd.sc) (S:FnScope fd.N fd.ps fd.sc) (hq:quiet (B8 fd)=true) :
  FnOk T.P T.w T.K T.mg T.base (CXq true) (k+4) f da fd.ps (spD T.K T.cl fd.ps.length (J2 Rs Γ Tb (k+1) i)):=by
 have S':FnScope fd.N fd.ps (b7 st):=by rw [h2];exact S
 refine a8q (k:=k+3) F S' (λvs H Q E h=>h.1) λcdv A outer s H vs Q E hr hsp=>?_
 obtain ⟨hl,μ,S0,ds,rds,rp,p⟩:=hsp
 have cx:CxOk T (k+3) (B8 fd) (T3 (CXq true) T.P T.w T.K T.mg T.base fd.N qual (b7 st) f cdv A outer s H E).nox:=⟨rfl,rfl,rfl,rfl,rfl,rfl,S.nd,h2,λz=>(by rw [hq] at z;exact absurd z (by decide)),by rw [hq];exact hr,PassesOwn.never,rfl,S.kind,λ_ z=>(by rw [hq] at z;exact absurd z (by decide))⟩
 have R:=b08 (Rs:=Rs) TX 40
 refine ⟨_,by rw [h1];exact PSs.nox (PSs.x0 (K0 R cx rfl)),?_⟩
 refine ⟨μ,S0,N4 fd.N ds,a2d rds,rp,?_⟩
 have hd:ds.length=fd.ps.length:=by rw [rds.length];exact hl
 simp only [J2,hi,if_pos hd] at p
 refine p.bind.imp λfl S1 μ1 H1 l1 r1 p1=>?_
 cases fl with
 | nx ρ=>exact λσ _=>p1 μ1 H1 (Lat.refl _ _) r1 _ .non
 | rt d=>exact λv rv=>p1 μ1 H1 (Lat.refl _ _) r1 v rv
 | bk ρ=>exact False.elim p1
 | ct ρ=>exact False.elim p1
theorem b3h (TX:TxOk T Γ (k+3) (J2 Rs Γ Tb k)) (hi:Tb[i]?=some fd) (F:Fun T.K x qual st f da) (h1:j5 st=fd.body) (h2:b7 st=fd.sc) (S:FnScope fd.N fd.ps fd.sc) (hq:quiet (B8 fd)=false:=by rfl) :
  FnOk T.P T.w T.K T.mg T.base (CXq false) (k+4) f da fd.ps (spD T.K T.cl fd.ps.length (J2 Rs Γ Tb (k+1) i)):=FnOk.unX (a26 TX hi F h1 h2 S hq)
noncomputable def c0d (Γ:Gm) (Tb:List Fd):Bool:=(List.range Tb.length).all λi=>match Tb[i]? with
 | some fd=>quiet (B8 fd)==Γ.qs.contains i
 | none=>false
theorem a52 (h:c0d Γ Tb=true) (hi:Tb[i]?=some fd):quiet (B8 fd)=Γ.qs.contains i:=by
 unfold c0d at h
 have:=(List.all_eq_true.mp h) i (List.mem_range.mpr (List.getElem?_eq_some_iff.mp hi).1)
 rw [hi] at this
 simpa using this
end
structure TxSt (T:Tx) (Γ:Gm):Prop where
 blt:∀ x∈bnames,Γ.gl.lookup x=none->T.mg x=none
 val:∀ x d,Γ.gl.lookup x=some (.val d)->∃ u v,T.mg x=some u/\RelV v u/\∀ μ H,RD T.K μ H d v
 err:∀ x c fs,Γ.gl.lookup x=some (.err c fs)->ErrAt T x c fs/\(∀ g∈fs,t7 T.K (T.cl c) g)
 sub:∀ x c c0 fs,Γ.gl.lookup x=some (.err c0 fs)->XC T.K (T.cl c)->PySem.W.kitOne T.K (.ref (T.cl c)) (.ref (T.cl c0))=some (Γ.sub c c0)
 subV:∀ c,XC T.K (T.cl c)->PySem.W.kitOne T.K (.ref (T.cl c)) (.type "ValueError")=some true
 subT:∀ c,XC T.K (T.cl c)->∀ t∈tys,PySem.W.kitOne T.K (.ref (T.cl c)) (.type t)=some false
 fld:∀ g∈Γ.flds,∀ c,XC T.K (T.cl c)->t7 T.K (T.cl c) g
 dct:∀ x kvs,Γ.gl.lookup x=some (.dct kvs)->b2d T x kvs
def b0i (T:Tx) (Γ:Gm) (Tb:List Fd):Prop:=∀ x i n,Γ.gl.lookup x=some (.fn i n)->∃ fd,Tb[i]?=some fd/\fd.ps.length=n/\FnTx T x fd
theorem TxSt.ok {T:Tx} {Γ:Gm} (h:TxSt T Γ) {k:Nat} {C:Cf} (f:∀ x i n,Γ.gl.lookup x=some (.fn i n)->i∉Γ.qs->FnX T (k+3) i n x (C i)) (fq:∀ x i n,Γ.gl.lookup x=some (.fn i n)->i∈Γ.qs->FnAt T (k+3) i n x (C i)):TxOk T Γ (k+3) C:=⟨h.blt,h.val,f,fq,h.err,h.sub,h.subV,h.subT,h.fld,h.dct,by omega⟩
theorem b57 {Rs:Rules} {T:Tx} {Γ:Gm} {Tb:List Fd} (h:TxSt T Γ) (fs:b0i T Γ Tb) (k:Nat) (hq:c0d Γ Tb=true:=by rfl):TxOk T Γ (k+3) (J2 Rs Γ Tb k):=by
 induction k with
 | zero=>
  have bad:∀ x i n,Γ.gl.lookup x=some (.fn i n)->∃ (a:Addr) (fd:FuncData) (ps:List Str),ps.length=n/\(∀ CX,FnOk T.P T.w T.K T.mg T.base CX 3 a fd ps (spX T.K T.cl n (J2 Rs Γ Tb 0 i)))/\T.mg x=some (.ref a)/\PySem.W.keepIn T.K (.ref a)=true/\Binds T.K fd ps []:=λx i n e=>by
   obtain ⟨fd,h1,h2,h3⟩:=fs x i n e
   obtain ⟨f,da,qual,st,F,_,_,_,b,m⟩:=h3.ex
   refine ⟨f,da,fd.ps,h2,λCX=>⟨λvs H Q E h=>by rw [h2];exact h.1,λA outer s H args us vs Q E _ _ _ _ hsp=>?_⟩,m,F.kp,b⟩
   obtain ⟨_,μ,S,ds,_,_,p⟩:=hsp
   exact p.elim
  refine h.ok (λx i n e _=>?_) λx i n e _=>?_
  ·obtain ⟨a,fd,ps,h1,h2,h3⟩:=bad x i n e
   exact ⟨a,fd,ps,h1,h2 _,h3⟩
  ·obtain ⟨a,fd,ps,h1,h2,h3⟩:=bad x i n e
   exact ⟨a,fd,ps,h1,FnOk.imp (h2 _) (sp':=spD T.K T.cl n (J2 Rs Γ Tb 0 i)) λvs H Q E ⟨_,μ,S,ds,_,_,p⟩=>p.elim,h3⟩
 | succ k TX=>
  refine h.ok (k:=k+1) (λx i n e hn=>?_) λx i n e m=>?_
  ·obtain ⟨fd,h1,h2,h3⟩:=fs x i n e
   subst h2
   obtain ⟨f,da,qual,st,F,g1,g2,S,b,m2⟩:=h3.ex
   exact ⟨f,da,fd.ps,rfl,a26 TX h1 F g1 g2 S (by rw [a52 hq h1];simpa using hn),m2,F.kp,b⟩
  ·obtain ⟨fd,h1,h2,h3⟩:=fs x i n e
   subst h2
   obtain ⟨f,da,qual,st,F,g1,g2,S,b,m2⟩:=h3.ex
   exact ⟨f,da,fd.ps,rfl,b1o TX h1 F g1 g2 S (by rw [a52 hq h1];simpa using m),m2,F.kp,b⟩
noncomputable def runK (Rs:Rules) (Γ:Gm) (C:Cf) (fd:Fd) (ds:List D):M D:=if ds.length=fd.ps.length then p7 (evK Rs Γ C 40) ⟨fd.N,fd.sc,true,fd.mu⟩ fd.body (N4 fd.N ds) endD else bad
theorem c7 {Rs:Rules} {Γ:Gm} {Tb:List Fd} {k i:Nat} {fd:Fd} (h:Tb[i]?=some fd) (ds:List D):J2 Rs Γ Tb (k+1) i ds=runK Rs Γ (J2 Rs Γ Tb k) fd ds:=by
 simp only [J2,h,runK]
 split
 ·rw [W9 (b6v 40)]
 ·rfl
noncomputable def a9v (a:Arguments):List Str:=a.args.map (·.arg)
noncomputable def b5l (ps:List Str) (sc:Scope):List Str:=ps++(sc.names.filter λy=>(y.2==.local||y.2==.cell)&&!ps.contains y.1).map (·.1)
noncomputable def i4 (st:Stmt) (mu:List Str):Fd:=⟨a9v (o7 st),b5l (a9v (o7 st)) (b7 st),b7 st,j5 st,mu⟩
noncomputable def a0z (fd:Fd):Bool:=decide (fd.sc.kind=.function)&&!fd.sc.isCoroutine&&!fd.sc.isGenerator&&decide fd.N.Nodup&&decide (fd.N.take fd.ps.length=fd.ps)&&fd.ps.all (λx=>X4 fd.sc x)&&fd.sc.names.all (λy=>decide (y.2≠.free))
theorem V1 {fd:Fd} (h:a0z fd=true):FnScope fd.N fd.ps fd.sc:=by
 simp only [a0z,Bool.and_eq_true,decide_eq_true_eq,List.all_eq_true,Bool.not_eq_true'] at h
 obtain ⟨⟨⟨⟨⟨⟨h1,h2⟩,h3⟩,h4⟩,h5⟩,h6⟩,h7⟩:=h
 exact ⟨h1,h2,h3,h4,h5,λx hx=>w6 (h6 x hx),h7⟩
noncomputable def c6d:RuE:=rBf "sum" "sum" true (one b28) (by decide) rfl λ_ hc=>c4d (hc rfl)
noncomputable def Q3 (i:Nat) (ρ:Env):M D:=match ρ[i]? with
 | some (some d)=>ret d
 | _=>bad
noncomputable def b8z (lc:Lc) (x:Str) (ρ:Env) {α:Type} (k:Nat->D->M α):M α:=match d3 lc.N x with
 | some i=>(match ρ[i]? with
  | some (some d)=>k i d
  | _=>bad)
 | none=>bad
theorem _root_.L2.Inv.dr {X:Cx} {pins:List (Addr×Obj)} {σ:List (Option V)} {H:Hp} {s:Shared} (I:Inv X pins σ H s) (d:Drawn):Inv X pins σ H { s with drawn:=d }:=
 ⟨I.ok,I.os,I.bare,I.base,I.loc,I.cell,I.free,I.freeC,I.pin,I.hok,I.len⟩
noncomputable def D2 (ns:List Int):List Int:=HT.metKHt (λi=>ns.getD i 0) ns.length
theorem b4o (ns:List Int):(D2 ns).Nodup:=HT.metK_nd _ _
theorem a9m {ns:List Int} {k:Int}:k∈D2 ns↔k∈ns:=by
 unfold D2
 rw [HT.metK_mem]
 constructor
 ·rintro ⟨j,h,e⟩
  rw [<- e]
  have:ns.getD j 0=ns[j]:=by simp [List.getD,h]
  rw [this];exact List.getElem_mem h
 ·intro h
  obtain ⟨j,hj,e⟩:=List.mem_iff_getElem.mp h
  exact ⟨j,hj,by simp [List.getD,hj,e]⟩
theorem a5m (ns:List Int):(D2 ns).length<=ns.length:=HT.metK_le _ _
section
variable {X:Cx} {e:Expr} {te:TE} {p p2 pos pos2:Pos} {cl:Nat->Addr} {xe:Addr->Hp->Prop}
def b5o (K:PySem.W.Frag) (te:TE):TE:=λσ H Q=>te σ H λx H1=>∃ a ns,x=.ref a/\(SqL K H1 a (ns.map V.int)\/SqT K H1 a (ns.map V.int))/\(ns.length<4000/\(D2 ns).length<64)/\∀ p,H1 p=none->Q (.ref p) (upd H1 p (.lst ((srt (D2 ns)).map V.int)))
theorem a7t (hc:X.calm=true) (hl:Gl X "sorted") (ml:X.mg "sorted" = none) (hs:Gl X "set") (ms:X.mg "set" = none) (he:PE X e te) (hn:noStar e=true):PE X (.Call (.Name "sorted" p) [.Call (.Name "set" p2) [e] [] pos2] [] pos) (b5o X.K te):=by
 intro pins s σ H Q I h
 have hh:X.A.handled=none:=I.ok.hd hc
 refine wpAny_Call_Name_kw (u3 I hl ml (by rfl) ?_ (by decide) (by decide))
 refine PyProof.Rows.callWith_builtin1 ?_ rfl rfl
 show wpAny _ _ (spliced ((false,eval (.Call (.Name "set" p2) [e] [] pos2) X.env) :: backTo pos (starEach [] X.env))) _ _ s
 refine Calls.spliced_cons ?_
 refine wpAny_Call_Name_kw (u3 I hs ms (by rfl) ?_ (by decide) (by decide))
 refine PyProof.Rows.callWith_type1 ?_ (d8 hn) rfl
 rw [d8 hn]
 show wpAny _ _ (spliced ((false,eval e X.env) :: backTo pos2 (starEach [] X.env))) _ _ s
 refine Calls.spliced_cons (thn (he pins s σ H _ I h) λu s1 ⟨x,H1,I1,r1,a,ns,e1,hq,hz,q⟩=>?_)
 subst e1
 cases r1
 refine Calls.spliced_nil ?_
 have fin:∀ (its:List Value),its.length=ns.length->PyProof.Rows.IntsAre its ns->(s1.heap.IsTuple a its.toArray\/s1.heap.IsList a its.toArray) ->
   wpAny (model X.prog X.w) X.A (call (.type "set") [.ref a]) (λv z=>wpAny (model X.prog X.w) X.A (spliced (backTo pos (starEach [] X.env))) (λvs s2=>wpAny (model X.prog X.w) X.A (call (.builtin "sorted") (v :: vs)) (EP X pins σ Q) X.xe s2) X.xe z) X.xe s1:=λits hlen hi hsq=>by
  refine HT.callLHt (knd:=intKind X.prog X.w) (λi=>ns.getD i 0) hh hsq (λi v hv=>?_) (by rw [List.size_toArray,hlen];show ns.length+1<4096;have:=hz.1;omega) λg tk ⟨hS,hk⟩=>?_
  ·obtain ⟨t,rfl⟩:=PyProof.Rows.IntsAre.int_at hi i v (by rw [<- List.getElem?_toArray];exact hv)
   exact ⟨intKind_is _ _ _ _,rfl⟩
  ·refine Calls.spliced_nil ?_
   have sz:its.toArray.size=ns.length:=by rw [List.size_toArray,hlen]
   rw [sz] at hS
   refine HT.sortLHt (s:={ s1 with heap:=g,toks:=tk }) hh hS (HT.metK_nd _ _) hz.2 λz pp out ms c kp rs le hp b1 b2 b3=>?_
   have em:ms=srt (D2 ns):=a30 (b2.trans (i7 (D2 ns)).symm) b3 (a0t _)
   subst em
   have old:∀ b u,s1.heap.get? b=some u->z.heap.get? b=some u:=λb u eb=>kp b u (hk b u (Heap.lt_size eb) eb)
   have fresh:s1.heap.objs.size<=pp:=by
    refine Nat.le_trans ?_ le
    obtain ⟨_,_,_,_,ho,_⟩:=hS
    exact Nat.le_of_lt (Heap.lt_size ho)
   have hf:H1 pp=none:=I1.hok.fresh fresh
   have I2:=(I1.laid (t':=z.toks) (h':=z.heap) (o:=.lst ((srt (D2 ns)).map V.int)) old fresh ⟨by rw [List.length_map,(i7 _).length_eq,sizeLine_eq];have:=hz.2;omega,out.toList,c,O5 b1,by rw [Array.toArray_toList];exact hp⟩).dr z.drawn
   refine ⟨.ref pp,upd H1 pp (.lst ((srt (D2 ns)).map V.int)),?_,rfl,q pp hf⟩
   rw [rs]
   exact I2
 rcases hq with hq | hq
 ·obtain ⟨its,r',pl,hsz⟩:=I1.list hq
  have hlen:its.length=ns.length:=by rw [<- r'.length,List.length_map]
  exact fin its hlen (L5 r') (.inr pl.isList)
 ·obtain ⟨its,r',⟨ob,o1,o2,n,o3⟩,hsz⟩:=I1.tuple hq
  have hlen:its.length=ns.length:=by rw [<- r'.length,List.length_map]
  exact fin its hlen (L5 r') (.inl ⟨ob,o1,o2,n,o3⟩)
noncomputable def G6 (d:D):M D:=bind (p8 d) λds=>match n9 ds with
 | some ns=>if ns.length<4000/\(D2 ns).length<64 then ret (.lst ((srt (D2 ns)).map D.int)) else bad
 | none=>bad
theorem a7z {f:Env->M D} (hc:X.calm=true) (hl:Gl X "sorted") (ml:X.mg "sorted" = none) (hs:Gl X "set") (ms:X.mg "set" = none) (he:PE X e (tD X.K cl xe f)) (hn:noStar e=true):PE X (.Call (.Name "sorted" p) [.Call (.Name "set" p2) [e] [] pos2] [] pos) (tD X.K cl xe λρ=>bind (f ρ) G6):=
 PE.imp (a7t hc hl ml hs ms he hn) λσ H Q ⟨μ,S,ρ,eo,rp,p⟩=>⟨μ,S,ρ,eo,rp,p.bind.imp λd S1 μ1 H1 l1 r1 p1 v rv=>by
  obtain ⟨a,xs,ds,rfl,h1,h2,e2⟩:=E5 rv r1 p1.bind
  have p1:=p1.ok_bind e2
  cases e3:n9 ds with
  | none=>rw [e3] at p1;exact p1.elim
  | some ns=>
   rw [e3] at p1
   obtain ⟨hz,p1⟩:=Post.guard p1
   have:=R8 e3 h2
   subst this
   refine ⟨a,ns,rfl,h1,hz,λz hz=>?_⟩
   obtain ⟨l,rp2,rd2⟩:=v9 r1 (RDs.ints (srt (D2 ns))) hz
   exact p1 μ1 _ l rp2 _ rd2⟩
end
noncomputable def b37:RuE where
 is Γ lc e:=match e with
  | .Call (.Name x _) [.Call (.Name y _) [a] [] _] [] _=>decide (x = "sorted")&&decide (y = "set")&&(Γ.gl.lookup ("sorted" : Str)).isNone&&(Γ.gl.lookup ("set" : Str)).isNone&&glB lc.sc "sorted" && glB lc.sc "set" && !quiet lc&&noStar a
  | _=>false
 run r _ _ lc e ρ:=match e with
  | .Call (.Name _ _) [.Call (.Name _ _) [a] [] _] [] _=>bind (r.e lc a ρ) G6
  | _=>bad
 ok {T k r Γ C lc X} e R TX h hi:=by
  split at hi
  ·simp only [Bool.and_eq_true,decide_eq_true_eq,Option.isNone_iff_eq_none,Bool.not_eq_true'] at hi
   obtain ⟨⟨⟨⟨⟨⟨⟨rfl,rfl⟩,h1⟩,h2⟩,h3⟩,h4⟩,h5⟩,h6⟩:=hi
   exact a7z (h.calm h5) (h.gl h3) (TX.none h (by decide) h1) (h.gl h4) (TX.none h (by decide) h2) (R.ex h _) h6
  ·cases hi
 runK q _ _ lc e ρ _ k:=match e with
  | .Call (.Name _ _) [.Call (.Name _ _) [a] [] _] [] _=>q.e lc a ρ λd=>bind (G6 d) k
  | _=>bad
 eq e ρ _ k h:=by
  split
  ·simp only [h.e,bind_assoc]
  ·first
   | rfl
   | (rename_i hn;split;exact (hn _ _ _ _ _ _ _ rfl).elim;rfl)
noncomputable def b8k (sc:Scope) (ts:List Expr):Bool:=match ts with
 | [.Name x _,.Name y _]=>!(sc.names.lookup x==some .local)||!(sc.names.lookup y==some .local)
 | _=>false
theorem b35 {env:PySem.Env} {ts es:List Expr} {k k2:Nat} {p p2:Pos} (h:b8k env.scope ts=true):swappedStores [.Tuple ts k p] (.Tuple es k2 p2) env=pure none:=by
 unfold b8k at h
 split at h
 ·rename_i x px y py
  have hx:∀ z,env.kindOf z=env.scope.names.lookup z:=λz=>rfl
  unfold swappedStores
  simp only
  repeat' (first | rfl | split)
  all_goals
   rename_i _ _ c _ _
   refine absurd ?_ c
   simp only [List.filterMap_cons,List.filterMap_nil,hx]
   cases h1:(env.scope.names.lookup x==some NameKind.local) <;> cases h2:(env.scope.names.lookup y==some NameKind.local) <;> rw [h1,h2] at h
   ·rfl
   ·simp only [Bool.false_and,Bool.true_and,Bool.false_eq_true,if_false]
    split <;> rfl
   ·simp only [Bool.false_and,Bool.true_and,Bool.false_eq_true,if_false]
    split <;> rfl
   ·cases h
 ·cases h
end L3
namespace L2
open PySem PySem.Spec PyProof.Rows
theorem a22 {X:Cx} {elt iter tg:Expr} {k:Nat} {tgp:TG} {y:Str} {py spos:Pos} {iy:Nat} {ifs:List Expr} {scope:Scope} {pos:Pos} {N':List Str} {caps:List Nat} {wi:TI} {tc:TT} {te:TE}
  (hsw:swapsWith (.ListComp elt [⟨tg,iter,ifs,0⟩] scope pos) (some (.Name y py)) spos.line X.env=pure true) (hNX:X.N.Nodup) (hiy:X.N[iy]?=some y) (hy:Loc X.env.scope y) (hf:X.fn y=true\/X.env.scope.names.lookup y=some .local)
  (T:CompText X.N X.env N' k caps scope) (hc:X.calm=true) (hg:∀ pins C fp s H,PG (a9 X pins N' scope C fp s H) tg tgp) (hi:PI X tg iter wi)
  (ht:∀ pins C fp s H,PTL (a9 X pins N' scope C fp s H) ifs tc) (he:∀ pins C fp s H,PE (a9 X pins N' scope C fp s H) elt te)
  (hs:∀ x,foldedSetIterable iter X.env x=pure x:=by intro _;rfl):PS X (.Assign [.Name y py] (.ListComp elt [⟨tg,iter,ifs,0⟩] scope pos) spos) (b2m (a4e k caps wi tgp tc te) (U3 iy)):=by
 intro pins s σ H D I h
 have fr:∀ x∈scope.names,x.2=NameKind.free->∃ c,X.env.cells.lookup x.1=some c:=λx hx hk=>I.ok.has x.1 (T.free x hx hk).2
 rw [exec_Assign_Name_used _ _ _ _ hsw]
 refine wpAny_bind (wpAny_standAt (wpAny_bind ?_))
 show wpAny _ X.A (do let _ <- comprehension (.ListComp elt [⟨tg,iter,ifs,0⟩] scope pos) scope X.env _ (newList []) false (eval iter X.env) (some (assign (.Name y py) X.env))) _ _ s
 refine wpAny_bind (wpAny_mono (wpAny_comprehension_free (use:=some (assign (.Name y py) X.env)) (Q:=λ_ s'=>SP X pins D .next s') rfl hs (q9 fr) T.kind T.loc ?_) (λ_ s' hq=>wpAny_pure (wpAny_pure hq)) λ_ _ e=>e)
 refine thn (hi pins s σ H _ I h) λv s1 h1=>thn h1 λitv s2 h2=>?_
 obtain ⟨it,fp,tn,J,H2,rfl,I2,Tn,st2,f2,h2⟩:=h2
 obtain ⟨W,⟨m0,w0⟩,turn⟩:=h2 s2.heap.objs.size (I2.hok.fresh (Nat.le_refl _))
 have hlt:∀ b∈fp,b<s2.heap.objs.size:=λb hb=>let ⟨o,e,_⟩:=Tn.obj _ _ st2 b hb;Heap.lt_size e
 refine wpAny_newObj_type (wpAny_newFunctionEnv T.cell (by intro y hy;simp at hy) (λh₁ hns₁ hsb₁=>?_) T.kind)
 dsimp only at hns₁ hsb₁ ⊢
 have hC:(s2.heap.push { cls:=.type "list",dict:=none,data:=.seq ([]:List Value).toArray }).objs.size=s2.heap.objs.size+1:=Heap.size_push ..
 rw [hC] at hns₁ hsb₁
 have old:∀ b o,s2.heap.get? b=some o->h₁.get? b=some o:=λb o e=>hsb₁.extBut b o (Nat.ne_of_lt (Nat.lt_succ_of_lt (Heap.lt_size e))) (Heap.get?_push_of_some _ (Heap.get?_push_of_some _ e))
 have hacc:h₁.get? s2.heap.objs.size=some { cls:=.type "list",data:=.seq #[] }:=hsb₁.extBut _ _ (Nat.ne_of_lt (Nat.lt_succ_self _)) (Heap.get?_push_of_some _ (Heap.get?_push_size _ rfl))
 have hst₁:tn 0 h₁:=Tn.keep _ _ _ st2 λb _ o e=>old b o e
 have I3:=B9 (t:=s2.toks+([]:List (Str×Value)).length) T I2 f2 hlt hns₁ old hacc
 have stat:∀ {H':Hp},(∀ b∈fp,H' b=none)->∀ b∈fp,D1 (a9 X pins N' scope (s2.heap.objs.size+1) fp s2 H2) [] H' b:=λhn b hb=>by
  refine ⟨hn b hb,(I3.ok.exf b hb).1,I3.ok.exfs b hb,.inl hb,(I3.ok.exf b hb).2,λp hp=>?_⟩
  have hp':p∈X.pn++pins:=by
   have:p∈(X.pn++pins)++[]:=hp
   rwa [List.append_nil] at this
  exact (f2 b hb).2.2.2.2.2 p hp'
 have loop:∀ s3:Shared,s3={ s2 with heap:=h₁,toks:=s2.toks+([]:List (Str×Value)).length } ->
   codeAny (model X.prog X.w) X.A (.compLoop (.ListComp elt [⟨tg,iter,ifs,0⟩] scope pos) 0 (.ref it) (.ref s2.heap.objs.size) (compEnvC scope (E3 X.env.cells scope.names) (s2.heap.objs.size+1) X.env))
    (compPost (model X.prog X.w) X.A X.xe (some (assign (.Name y py) X.env)) (λ_ s'=>SP X pins D .next s') (.ref s2.heap.objs.size) (s2.heap.objs.size+1)) s3:=by
  rintro s3 rfl
  refine L7 (λn s'=>∃ i ys H',Inv (a9 X pins N' scope (s2.heap.objs.size+1) fp s2 H2) [] (List.replicate k none++t6 caps σ) H' s'/\tn i s'.heap/\(∀ b∈fp,H' b=none)/\W i n ys H') ?_ m0
   ⟨0,[],_,I3,hst₁,λb hb=>by rw [a8 (Nat.ne_of_lt (hlt b hb))];exact (f2 b hb).1,w0⟩
  rintro n s4 ⟨i,ys,H4,I4,st4,fr4,w4⟩
  obtain ⟨hacc4,turn4⟩:=turn i n ys H4 w4
  refine b9 ?_
  rcases turn4 with ⟨stop,q⟩ | ⟨go,step⟩
  ·refine thn (Tn.done (a9 X pins N' scope (s2.heap.objs.size+1) fp s2 H2) rfl rfl rfl hc i [] s4 _ H4 (λ_ _=>False) I4 (stat fr4) st4 stop) λr s5 ⟨hr,I5⟩=>?_
   subst hr
   obtain ⟨m5,hn5,_⟩:=id I5.loc
   have IX:Inv X pins σ H4 s5:=I2.call' (ch:=fp) I5.os I5.base I5.hok I5.bare λb hb=>by
    have:=f2 b hb
    exact ⟨this.2.2.2.1,this.2.1,this.2.2.2.2.1,this.2.2.2.2.2⟩
   have C0:s2.heap.objs.size<=s2.heap.objs.size+1:=Nat.le_succ _
   have cC:∀ z c,X.env.cells.lookup z=some c->c≠s2.heap.objs.size+1:=λz c e=>by
    obtain ⟨v,oc,ho,_⟩:=I2.cell z c e
    exact Nat.ne_of_lt (Nat.lt_succ_of_lt (Heap.lt_size ho))
   have lC:X.env.locals≠s2.heap.objs.size+1:=Nat.ne_of_lt (Nat.lt_succ_of_lt I2.lt)
   show wpAny _ X.A (assign (.Name y py) X.env (.ref s2.heap.objs.size)) (λ_ s''=>∃ m,s''.heap.Ns (s2.heap.objs.size+1) m/\∀ h',Heap.SameBut (s2.heap.objs.size+1) s''.heap h'->SP X pins D .next { s'' with heap:=h' }) X.xe s5
   refine wpAny_assign_Name (O4 (v:=.ref s2.heap.objs.size) IX hNX hiy hy rfl (λs6 I6 ⟨a,sb,ha⟩=>?_) hf)
   have aC:s2.heap.objs.size+1≠a:=λz=>by
    rcases ha with ha | ha
    ·exact lC (by rw [<- ha,<- z])
    ·exact cC _ _ ha z.symm
   refine ⟨m5,hn5.sameBut sb aC,λh' hs'=>?_⟩
   refine ⟨_,H4,I6.turned (t':=s6.toks) (it:=s2.heap.objs.size+1) (λb o hb e=>hs'.extBut b o hb e) I5.free lC.symm (.inr (Nat.le_trans I2.sz C0)) cC (λp hp=>?_),q⟩
   exact Nat.ne_of_lt (Nat.lt_succ_of_lt (Heap.lt_size (I2.pin p hp).1))
  ·refine thn (Tn.item (a9 X pins N' scope (s2.heap.objs.size+1) fp s2 H2) rfl rfl rfl hc i [] s4 _ H4 (λ_ _=>False) I4 (stat fr4) st4 go) λr s5 ⟨u,hr,h5⟩=>?_
   subst hr
   dsimp only
   refine b9 (thn h5 λ_ s6 ⟨xv,H6,I6,r6,y6,st6,fr6⟩=>?_)
   have I6':=I6.pinned (stat fr6) (Tn.obj _ _ st6)
   refine b9 (thn (hg pins _ fp s2 H2 _ s6 _ H6 xv u _ I6' r6 (step xv _ y6)) λ_ s7 ⟨σ7,H7,I7,vals,hv,e7,q7⟩=>?_)
   subst e7
   have back:∀ {σ8:St} {H8:Hp} {s8:Shared},Inv (a9 X pins N' scope (s2.heap.objs.size+1) fp s2 H2) ([]++t8 fp s6.heap) σ8 H8 s8->tn (i+1) s8.heap/\∀ b∈fp,H8 b=none:=λ{σ8 H8 s8} I8=>by
    refine ⟨Tn.keep _ _ _ st6 λb hb o e=>(I8.pin (b,o) (List.mem_append_right _ (List.mem_append_right _ (j3 hb e)))).1,λb hb=>?_⟩
    obtain ⟨o,e,d⟩:=Tn.obj _ _ st6 b hb
    exact (I8.pin (b,o) (List.mem_append_right _ (List.mem_append_right _ (j3 hb e)))).2.1
   refine b9 (thn (ht pins _ fp s2 H2 _ s7 _ _ _ I7 q7) λb s8 ⟨H8,I8,q8⟩=>?_)
   have wk:∀ {H9:Hp} {s9:Shared},Inv (a9 X pins N' scope (s2.heap.objs.size+1) fp s2 H2) ([]++t8 fp s6.heap) (vals++t6 caps σ) H9 s9->Inv (a9 X pins N' scope (s2.heap.objs.size+1) fp s2 H2) [] (List.replicate k none++t6 caps σ) H9 s9:=λ{H9 s9} I9=>
    I9.unpinned.weak (by simp [hv]) λj v e=>by
     by_cases hj:j<k
     ·rw [List.getElem?_append_left (by simpa using hj),List.getElem?_replicate,if_pos hj] at e
      cases e
     ·rw [List.getElem?_append_right (by simpa using hj)] at e
      rw [List.getElem?_append_right (by omega),hv]
      simpa using e
   cases b with
   | false=>
    obtain ⟨m',hm,w'⟩:=q8
    exact ⟨m',hm,i+1,ys,H8,wk I8,(back I8).1,(back I8).2,w'⟩
   | true=>
    refine b9 (thn (he pins _ fp s2 H2 _ s8 _ H8 _ I8 q8) λz s9 ⟨y,H9,I9,r9,hacc9,hl9,m',hm,w'⟩=>?_)
    refine b9 (thn (A8 (X:=a9 X pins N' scope (s2.heap.objs.size+1) fp s2 H2) _ s9 _ H9 (.ref s2.heap.objs.size) [y] (.ref s2.heap.objs.size) [z] (λ_ H'=>H'=upd H9 s2.heap.objs.size (.lst (ys++[y]))) I9 rfl (.cons r9 .nil) ⟨_,ys,y,rfl,rfl,hacc9,hl9,rfl⟩) λ_ s10 ⟨_,H10,I10,_,e10⟩=>?_)
    subst e10
    exact ⟨m',hm,i+1,ys++[y],_,wk I10,(back I10).1,(back I10).2,w'⟩
 have fin:=codeAny_compStart_list (loop _ rfl) (Tn.self _ 0 _ _ _ hst₁ (loop _ rfl))
 rw [<- hC] at fin
 exact fin
end L2
namespace L3
open PySem PySem.Spec PyProof.Rows L2
noncomputable def a7a:RuS where
 is _ lc e:=match e with
  | .Assign [.Name x _] (.ListComp _ [⟨.Tuple [.Name y _,.Name z _] _ _,iter,_,0⟩] scope _) _=>W2 lc x&&y0 lc scope [y,z]&&t0 iter
  | _=>false
 run r _ _ lc e ρ:=match e with
  | .Assign [.Name x _] (.ListComp elt [⟨.Tuple [.Name y py,.Name z pz] kk tp,iter,ifs,0⟩] scope _) _=>bind (bind (E7 r lc elt y z py pz tp kk iter ifs scope ρ) λds=>ret (.lst ds)) (M4 lc x ρ)
  | _=>bad
 ok {T k r Γ C lc X} e R TX h hf hi:=by
  split at hi
  ·rename_i x p elt y py z pz kk tp iter ifs scope pos2 pos
   rw [Bool.and_eq_true,Bool.and_eq_true] at hi
   obtain ⟨⟨h1,hc⟩,hn⟩:=hi
   have h1':=h1
   rw [W2,Bool.and_eq_true,Option.isSome_iff_exists] at h1'
   obtain ⟨⟨i,hi⟩,hl⟩:=h1'
   have hi':X.N[i]?=some x:=by rw [h.N];exact k7 hi
   have hl':L2.Loc X.env.scope x:=by rw [h.sc];exact w6 hl
   have hff:X.fn x=true\/X.env.scope.names.lookup x=some .local:=.inl (h.fn1 hf)
   have sw:=b6w h elt [⟨.Tuple [.Name y py,.Name z pz] kk tp,iter,ifs,0⟩] scope x p pos pos2
   show PS X _ (sD X.K T.cl (xOf X) λρ=>bind (bind (E7 r lc elt y z py pz tp kk iter ifs scope ρ) λds=>ret (.lst ds)) (M4 lc x ρ))
   unfold E7
   cases hm:f8 (d3 lc.N) (k5 scope) with
   | none=>exact PS.imp a2b λD σ H ⟨μ,S,ρ,eo,rp,p⟩=>p.bind.elim
   | some caps=>
    obtain ⟨t1,t2,t3,t4,t5⟩:=G7 h hc hm
    have e1:=λpins C fp s H=>PTL.x0 (tests_ok (ifs:=ifs) R (w5 h t4 t5 t2 pins C fp s H))
    have e2:=λpins C fp s H=>PE.x0 (R.ex (w5 h t4 t5 t2 pins C fp s H) elt)
    refine a2v (k:=k) hi ?_
    cases hb:swB lc (.ListComp elt [⟨.Tuple [.Name y py,.Name z pz] kk tp,iter,ifs,0⟩] scope pos2) scope x p with
    | false=>
     rw [hb] at sw
     exact a3p h.nd' hi' hl' (Y6 t1 (h.calm t4) t2 rfl rfl (t3 y (by simp)) (t3 z (by simp)) (PI.x0 (R.ix h _ _)) e1 e2 hn) sw hff
    | true=>
     rw [hb] at sw
     exact PS.imp (a22 sw h.nd' hi' hl' hff t1 (h.calm t4) (λpins C fp s H=>a3w (X:=a9 X pins _ scope C fp s H) (n:=2) (h.calm t4) (E6 (v7 (i:=0) t2 rfl (.inl (lookup_relabel_local (t3 y (by simp)))) (.inr (lookup_relabel_local (t3 y (by simp))))) (E6 (v7 (i:=1) t2 rfl (.inl (lookup_relabel_local (t3 z (by simp)))) (.inr (lookup_relabel_local (t3 z (by simp))))) a08))) (PI.x0 (R.ix h _ _)) e1 e2 (A6 hn)) λD σ H ⟨μ,S,ρ,eo,rp,p⟩=>P3 eo rp p
  ·cases hi
 runK q _ _ lc e ρ _ k:=match e with
  | .Assign [.Name x _] (.ListComp elt [⟨.Tuple [.Name y py,.Name z pz] kk tp,iter,ifs,0⟩] scope _) _=>a1g q lc elt y z py pz tp kk iter ifs scope ρ λds=>y9 lc x ρ (.lst ds) k
  | _=>bad
 eq e ρ _ k h:=by
  split
  ·simp only [a3h h,bind_assoc,f6,W0]
  ·first
   | rfl
   | (rename_i hn;split;exact (hn _ _ _ _ _ _ _ _ _ _ _ _ _ rfl).elim;rfl)
theorem a89 {T:Tx} {k:Nat} {r:Ev} {Γ:Gm} {C:Cf} {lc:Lc} {X:Cx} (R:EvOk T k r) (h:CxOk T k lc X) {a:Expr} {p2 pos:Pos} (f:PE X (.Call (.Name "list" p2) [a] [] pos) (tD X.K T.cl (xOf X) λρ=>bind (bind (r.e lc a ρ) λd=>bind (ret []) λds=>ret (d :: ds)) (one listP))):PE X (.Call (.Name "list" p2) [a] [] pos) (tD X.K T.cl (xOf X) λρ=>bind (r.e lc a ρ) listP):=
 PE.imp f λσ H Q ⟨μ,S,ρ,eo,rp,p⟩=>⟨μ,S,ρ,eo,rp,by
  have e:(bind (bind (r.e lc a ρ) λd=>bind (ret []) λds=>ret (d :: ds)) (one listP))=bind (r.e lc a ρ) listP:=by rw [bind_assoc];rfl
  show Post X.K T.cl (xOf X) μ H ((bind (bind (r.e lc a ρ) λd=>bind (ret []) λds=>ret (d :: ds)) (one listP)) S) _
  rw [e];exact p⟩
noncomputable def b80:RuS where
 is Γ lc e:=match e with
  | .Assign [.Tuple ts _ _] (.Tuple [.Call (.Name y1 _) [a] [] _,.Call (.Name y2 _) [b] [] _] _ _) _=>(j7 lc ts).isSome&&b8k lc.sc ts&&!quiet lc&&decide (("()" : Str)∈lc.mu)&&decide (y1 = "list")&&decide (y2 = "list")&&(Γ.gl.lookup ("list" : Str)).isNone&&glB lc.sc "list" && noStar a&&noStar b
  | _=>false
 run r _ _ lc e ρ:=match e with
  | .Assign [.Tuple ts _ _] (.Tuple [.Call _ [a] _ _,.Call _ [b] _ _] _ _) _=>(match j7 lc ts with
   | some is=>bind (bind (bind (bind (r.e lc a ρ) listP) λd=>bind (bind (bind (r.e lc b ρ) listP) λd=>bind (ret []) λds=>ret (d :: ds)) λds=>ret (d :: ds)) a8k) λd=>Q5 (C8 is) d ρ
   | none=>bad)
  | _=>bad
 ok {T k r Γ C lc X} e R TX h hf hi:=by
  split at hi
  ·rename_i ts n p y1 p1 a q1 y2 p2 b q2 k2 p3 pos
   simp only [Bool.and_eq_true,Bool.not_eq_true',decide_eq_true_eq,Option.isNone_iff_eq_none] at hi
   obtain ⟨⟨⟨⟨⟨⟨⟨⟨⟨h1,h2⟩,h4⟩,_⟩,rfl⟩,rfl⟩,c1⟩,c2⟩,c3⟩,c4⟩:=hi
   rw [<- h.sc] at h2
   have L:∀ {a:Expr} {p2 pos:Pos},noStar a=true->PE X (.Call (.Name "list" p2) [a] [] pos) (tD X.K T.cl (xOf X) λρ=>bind (r.e lc a ρ) listP):=λ{a p2 pos} c=>a89 (Γ:=Γ) (C:=C) R h (U2 a5g (h.gl c2) (TX.none h (by decide) c1) (by rfl) (A4 (R.ex h a) K8 c) (by decide) (by decide) (by simp [c]))
   show PS X _ (sD X.K T.cl (xOf X) λρ=>(match j7 lc ts with
    | some is=>bind (bind (bind (bind (r.e lc a ρ) listP) λd=>bind (bind (bind (r.e lc b ρ) listP) λd=>bind (ret []) λds=>ret (d :: ds)) λds=>ret (d :: ds)) a8k) λd=>Q5 (C8 is) d ρ
    | none=>bad))
   cases e1:j7 lc ts with
   | none=>exact D3
   | some is=>
    exact PS.imp (a4q (b1a (A4 (L c3) (A4 (L c4) K8 (by rfl)) (by rfl))) (a1a (cl:=T.cl) (h.calm h4) h.nd' (M2 h hf e1)) (by unfold swapsWithSole;exact u8 rfl) (b35 h2) rfl) λD σ H ⟨μ,S,ρ,eo,rp,p⟩=>
     ⟨μ,S,ρ,eo,rp,p.bind.imp λd S1 μ1 H1 l1 r1 p1 v rv=>by
      cases e1:C8 is d ρ with
      | none=>simp only [Q5,e1] at p1;exact p1.elim
      | some ρ'=>simp only [Q5,e1] at p1;exact ⟨μ1,S1,ρ,d,ρ',eo.later l1,r1,rv,e1,p1.ret μ1 H1 (Lat.refl _ _) r1⟩⟩
  ·cases hi
 runK q _ _ lc e ρ _ k:=match e with
  | .Assign [.Tuple ts _ _] (.Tuple [.Call _ [a] _ _,.Call _ [b] _ _] _ _) _=>(match j7 lc ts with
   | some is=>q.e lc a ρ λz=>bind (listP z) λd1=>q.e lc b ρ λw=>bind (listP w) λd2=>bind (a8k [d1,d2]) λd=>bind (Q5 (C8 is) d ρ) k
   | none=>bad)
  | _=>bad
 eq {r q Γ C lc} e ρ _ k h:=by
  split
  ·rename_i ts _ _ _ a _ _ _ b _ _ _ _ _
   cases j7 lc ts with
   | none=>rfl
   | some is=>simp only [h.e,bind_assoc];rfl
  ·first
   | rfl
   | (rename_i hn;split;exact (hn _ _ _ _ _ _ _ _ _ _ _ _ _ _ rfl).elim;rfl)
section
variable {prog:Program} {w:World} {A:Around} {E:Value->Shared->Prop} {s:Shared}
theorem W3 {id:String} {B:Builtin} {a b:Value} {S:PySem.Spec} {Q:Value->Shared->Prop} (ha:s.TypeIs a "tuple") (hb:s.TypeIs b "tuple") (hs:seqSlot? (Value.type "tuple") (Str.ofString "__add__")=pure (some (Value.builtin id)))
  (sl:Slot "tuple" (Str.ofString "__add__") id) (he:entryFor table id=some B) (ok:argsOk id { pos:=[a,b] }) (m:Meets (B { pos:=[a,b] }) S) (q:S A (wants Q E) s):wpAny (model prog w) A (inplaceOp Operator.Add a b) Q E s:=by
 have f0:fillsInplaceSlot (Value.type "tuple") "add" true=pure false:=rfl
 have f1:seqSlot? (Value.type "tuple") (dunderI "add")=pure none:=rfl
 unfold inplaceOp
 refine wpAny_holding (wpAny_bind (wpAny_typeOf ha ?_))
 show wpAny _ _ ((fillsInplaceSlot (Value.type "tuple") "add" true) >>= _) _ _ _
 rw [f0]
 refine wpAny_bind (wpAny_pure ?_)
 rw [if_neg Bool.false_ne_true]
 refine wpAny_bind (wpAny_binaryOp1_none ha hb noFill_tuple_add ?_)
 show wpAny _ _ ((seqSlot? (Value.type "tuple") (dunderI "add")) >>= _) _ _ _
 rw [f1]
 refine wpAny_bind (wpAny_pure ?_)
 dsimp only
 rw [hs]
 refine wpAny_bind (wpAny_pure ?_)
 dsimp only
 exact wpAny_bind (wpAny_rule (call_meets sl ha he ok m q))
theorem b01 {t b:Addr} {vs ws:List Value} {Q:Value->Shared->Prop} (ht:IsTup s.heap t vs.toArray) (hb:IsTup s.heap b ws.toArray) (hv:vs≠[])
  (h1:ws=[]->Q (.ref t) s) (h2:ws≠[]->Q (.ref s.heap.objs.size) { s with heap:=s.heap.push { cls:=.type "tuple",data:=.seq (vs++ws).toArray } })
  (hsz:vs.length+ws.length<=sizeLine):wpAny (model prog w) A (inplaceOp .Add (.ref t) (.ref b)) Q E s:=by
 obtain ⟨⟨cls,dd,data,sl⟩,ho,hc,n,hd⟩:=id ht
 obtain ⟨⟨cls2,dd2,data2,sl2⟩,ho2,hc2,n2,hd2⟩:=id hb
 simp only at hc hd hc2 hd2
 subst hc hd hc2 hd2
 have e:vs.toArray++ws.toArray=(vs++ws).toArray:=by simp
 by_cases hw:ws=[]
 ·exact W3 ⟨_,ho,rfl⟩ ⟨_,ho2,rfl⟩ seq_tuple_add PySem.F.slot_tuple_add PySem.F.entry_tuple_add (PySem.F.args_tuple_add_2 _ _)
   (tuple_addW1 t b vs.toArray ws.toArray n n2 dd dd2 sl sl2 (by simpa using hv) (by simp [hw])) ⟨ho,ho2,h1 hw⟩
 ·refine W3 ⟨_,ho,rfl⟩ ⟨_,ho2,rfl⟩ seq_tuple_add PySem.F.slot_tuple_add PySem.F.entry_tuple_add (PySem.F.args_tuple_add_2 _ _)
   (tuple_addW2 t b vs.toArray ws.toArray n n2 dd dd2 sl sl2 (by simpa using hv) (by simpa using hw) (by rw [List.size_toArray,List.size_toArray];exact hsz)) ⟨ho,ho2,?_⟩
  rw [e]
  exact h2 hw
end
noncomputable def W8 (x y:D):M D:=match x,y with
 | .int i,.int j=>ret (.int (i+j))
 | .tup xs,.tup ys=>if xs.length+ys.length<=sizeLine then ret (.tup (xs++ys)) else bad
 | _,_=>bad
section
variable {X:Cx} {cl:Nat->Addr} {xe:Addr->Hp->Prop}
theorem b5s:PIp X .Add (rP2 X.K cl xe W8):=by
 intro pins s σ H x y v u Q I rx ry ⟨μ,S,d,e,rd,re,rp,p⟩
 cases d <;> cases e <;> try (exact False.elim p)
 case int.int i j=>cases rd;cases re;exact b7j pins s σ H _ _ v u Q I rx ry ⟨i,j,rfl,rfl,p μ H (Lat.refl _ _) rp _ (.int _)⟩
 case tup.tup ds es=>
  obtain ⟨hl,p⟩:=Post.guard p
  cases rd with
  | tup h1 r1=>
   cases re with
   | tup h2 r2=>
    rename_i a xs b ys
    cases rx
    cases ry
    obtain ⟨its,q1,p1,_⟩:=I.tuple h1.sq
    obtain ⟨its2,q2,p2,_⟩:=I.tuple h2.sq
    cases ds with
    | nil=>
     cases r1
     cases q1
     obtain ⟨⟨cls,dd,data,sl⟩,ho,hc,n,hd⟩:=id p1
     obtain ⟨⟨cls2,dd2,data2,sl2⟩,ho2,hc2,n2,hd2⟩:=id p2
     simp only at hc hd hc2 hd2
     subst hc hd hc2 hd2
     exact W3 ⟨_,ho,rfl⟩ ⟨_,ho2,rfl⟩ seq_tuple_add PySem.F.slot_tuple_add PySem.F.entry_tuple_add (PySem.F.args_tuple_add_2 _ _)
      (tuple_addW0 a b #[] its2.toArray n n2 dd dd2 sl sl2 rfl) ⟨ho,ho2,⟨.ref b,H,I,rfl,p μ H (Lat.refl _ _) rp _ (.tup h2 r2)⟩⟩
    | cons d ds=>
     have ln:=r1.length
     have ln2:=r2.length
     have hx:xs≠[]:=λz=>by rw [z] at ln;cases ln
     have hz:xs.length+ys.length<=sizeLine:=by rw [<- ln,<- ln2];exact hl
     refine b01 p1 p2 (λz=>hx (q1.nil_iff.mp z)) (λz=>?_) (λz=>?_) (by rw [<- q1.length,<- q2.length];exact hz)
     ·have:es=[]:=List.length_eq_zero_iff.mp (by rw [ln2,q2.nil_iff.mp z];rfl)
      subst this
      rw [List.append_nil] at p
      exact ⟨.ref a,H,I,rfl,p μ H (Lat.refl _ _) rp _ (.tup h1 r1)⟩
     ·have hw:=I.hok.fresh (Nat.le_refl _)
      obtain ⟨l,rp2,rd2⟩:=y3 rp (r1.append r2) hw
      refine ⟨.ref s.heap.objs.size,_,I.laid (t':=s.toks) (o:=.tup (xs++ys)) (λb ob q=>Heap.get?_push_of_some _ q) (Nat.le_refl _) ?_,rfl,p μ _ l rp2 _ rd2⟩
      exact ⟨by rw [List.length_append];exact hz,_,q1.append q2,TupN.new _ _⟩
theorem a98 {i:Nat} {x:Str} {pos pos':Pos} {e:Expr} {f:Env->M D} (hN:X.N.Nodup) (hi:X.N[i]?=some x) (hx:Loc X.env.scope x) (he:PE X e (tD X.K cl xe f)) (hf:X.fn x=true\/X.env.scope.names.lookup x=some .local) :
  PS X (.AugAssign (.Name x pos') .Add e pos) (sD X.K cl xe λρ=>bind (Q3 i ρ) λa=>bind (f ρ) λb=>bind (W8 a b) λd=>ret (.nx (ρ.set i (some d)))):=PS.imp (c0x hN hi hx he (b5s (cl:=cl) (xe:=xe)) hf) λD σ H ⟨μ,S,ρ,eo,rp,p⟩=>by
 have p:Post X.K cl xe μ H (bind (Q3 i ρ) (λa=>bind (f ρ) λb=>bind (W8 a b) λd=>ret (Fl.nx (ρ.set i (some d)))) S) _:=p
 cases q:ρ[i]? with
 | none=>
  have e0:Q3 i ρ=bad:=by unfold Q3;rw [q]
  rw [e0] at p
  exact p.elim
 | some o=>
  cases o with
  | none=>
   have e0:Q3 i ρ=bad:=by unfold Q3;rw [q]
   rw [e0] at p
   exact p.elim
  | some a=>
   have e0:Q3 i ρ=ret a:=by unfold Q3;rw [q]
   rw [e0] at p
   have p:Post X.K cl xe μ H (bind (f ρ) (λb=>bind (W8 a b) λd=>ret (Fl.nx (ρ.set i (some d)))) S) _:=p
   obtain ⟨v,e1,rv⟩:=eo.2 i a q
   exact ⟨v,e1,μ,S,ρ,eo,rp,p.bind.imp λb S1 μ1 H1 l1 r1 p1 w rw'=>⟨μ1,S1,a,b,rv.later l1,rw',r1,p1.bind.imp λd S2 μ2 H2 l2 r2 p2 v2 rv2=>p2 μ2 H2 (Lat.refl _ _) r2 _ (((eo.later l1).later l2).set rv2 i)⟩⟩
end
noncomputable def a5a (lc:Lc) (x:Str) (ρ:Env) (m:M D):M Fl:=match d3 lc.N x with
 | some i=>bind (Q3 i ρ) λa=>bind m λb=>bind (W8 a b) λd=>ret (.nx (ρ.set i (some d)))
 | none=>bad
theorem b43 (lc:Lc) (x:Str) (ρ:Env) (m:M D) {α:Type} (k:Fl->M α):bind (a5a lc x ρ m) k=b8z lc x ρ λi a=>bind m λb=>bind (W8 a b) λd=>k (.nx (ρ.set i (some d))):=by
 unfold a5a b8z
 cases d3 lc.N x with
 | none=>rfl
 | some i=>
  cases q:ρ[i]? with
  | none=>simp only [Q3,q];rfl
  | some o=>
   cases o with
   | none=>simp only [Q3,q];rfl
   | some a=>simp only [Q3,q,bind_assoc,f6]
noncomputable def c26:RuS where
 is _ lc e:=match e with
  | .AugAssign (.Name x _) .Add _ _=>W2 lc x&&decide (("plus" : Str)∈lc.mu)
  | _=>false
 run r _ _ lc e ρ:=match e with
  | .AugAssign (.Name x _) .Add e _=>a5a lc x ρ (r.e lc e ρ)
  | _=>bad
 ok e R TX h hf hi:=by
  split at hi
  ·rename_i x p e pos
   rw [Bool.and_eq_true] at hi
   have hi:=hi.1
   rw [W2,Bool.and_eq_true,Option.isSome_iff_exists] at hi
   obtain ⟨⟨i,hi⟩,hl⟩:=hi
   have:=a98 (pos:=pos) (pos':=p) h.nd' (by rw [h.N];exact k7 hi) (by rw [h.sc];exact w6 hl) (R.ex h e) (.inl (h.fn1 hf))
   simp only [a5a,hi]
   exact this
  ·cases hi
 runK q _ _ lc e ρ _ k:=match e with
  | .AugAssign (.Name x _) .Add e _=>b8z lc x ρ λi a=>q.e lc e ρ λb=>bind (W8 a b) λd=>k (.nx (ρ.set i (some d)))
  | _=>bad
 eq e ρ _ k h:=by
  split
  ·simp only [b43,h.e]
  ·first
   | rfl
   | (rename_i hn;split;exact (hn _ _ _ _ rfl).elim;rfl)
section
variable {prog:Program} {w:World} {A:Around} {E:Value->Shared->Prop} {s:Shared} {r:Addr} {a b c:Int} {t u v:Tok} {n:Nat}
theorem b3i {h:Heap} (hr:IsRange h r a b c t u v) (o:Obj):IsRange (h.push o) r a b c t u v:=by
 unfold IsRange at *
 exact Heap.get?_push_of_some _ hr
theorem a8h {Q:List Value->Shared->Prop} (hh:A.handled=none) (hr:IsRange s.heap r a b c t u v) (sm:Builtin.Range.small a b c=true) (rs:Builtin.Range.rangeSize a b c=(n:Int)) (hn:n<=2 ^ 24)
  (q:∀ (h':Heap) (tk:Nat) (acc:Array Value),(∀ b o,s.heap.get? b=some o->h'.get? b=some o)->ItemsOf (λi v=>∃ t,v=Value.int (a+(i:Int) * c) t) acc n->Q acc.toList { s with heap:=h',toks:=tk }):wpAny (model prog w) A (collect (.ref r)) Q E s:=by
 unfold collect
 refine wpAny_bind (wpAny_runValue (codeAny_builtin PySem.F.entry_proto_collect ?_))
 rw [Around.under_plainId PySem.F.plain_proto_collect _]
 refine wpAny_bind (m:=newList []) (wpAny_newObj_type (wpAny_pure ⟨plainId_quiet PySem.F.plain_list_iadd _,codeAny_builtin PySem.F.entry_list_iadd ?_⟩))
 rw [Around.under_plainId PySem.F.plain_list_iadd _]
 show wpAny _ A.in1 (Builtin.List.listExtendWith (.ref s.heap.objs.size) (.ref r) (.ref s.heap.objs.size)) _ _ _
 have hL:(s.heap.push { cls:=.type "list",data:=.seq ([]:List Value).toArray }).get? s.heap.objs.size=some { cls:=.type "list",data:=.seq ([]:List Value).toArray }:=Heap.get?_push_size _ rfl
 refine wpAny_extend_range (R:=wants (λv s'=>wpAny (model prog w) A (match v with
  | Value.ref a=>do
   let ob <- load a
   match ob.data with
   | Data.seq xs epoch=>pure xs.toList
   | x=>unsupported "internal:collect"
  | x=>unsupported "internal:collect") Q E s') E) (s:={ s with heap:=s.heap.push { cls:=.type "list",data:=.seq ([]:List Value).toArray } }) hh (b3i hr _) sm rs hn s.heap.objs.size _ 0 hL λh' tk acc c' k hS hacc=>?_
 show wpAny _ A (load s.heap.objs.size >>= _) _ _ _
 refine wpAny_bind (wpAny_load hS (wpAny_pure (q h' tk acc (λb o e=>k b o (Nat.ne_of_lt (Heap.lt_size e)) (Heap.get?_push_of_some _ e)) hacc)))
theorem b3y (r:Addr):Builtin.«tuple.__new__» { pos:=[Value.type "tuple",Value.ref r] }=(do
  let e <- Builtin.Tuple.tupleIsExact (.ref r)
  if e=true then do
   rule "tuple.new.same-object"
   PySem.ret (Value.ref r)
  else do
   let l <- collect (.ref r)
   let xs <- pure l.toArray
   let x <- Builtin.Tuple.tupleExact xs
   PySem.ret x):=by kernel_rfl
theorem a3e (sm:Builtin.Range.small a b c=true) (rs:Builtin.Range.rangeSize a b c=(n:Int)) (hn:n<=2 ^ 24):Meets (Builtin.«tuple.__new__» { pos:=[Value.type "tuple",Value.ref r] }) λA R s=>
  A.handled=none/\IsRange s.heap r a b c t u v/\∀ (h':Heap) (tk:Nat) (acc:Array Value),(∀ b o,s.heap.get? b=some o->h'.get? b=some o)->ItemsOf (λi v=>∃ t,v=Value.int (a+(i:Int) * c) t) acc n->R (Except.ok (Flow.ret (Value.ref h'.objs.size))) { s with heap:=h'.push { cls:=Value.type "tuple",data:=Data.seq acc },toks:=tk }:=by
 intro prog w A R s ⟨hh,hr,q⟩
 have ty:s.TypeIs (.ref r) "range":=⟨_,hr,rfl⟩
 rw [b3y]
 unfold Builtin.Tuple.tupleIsExact
 refine wpAny_bind (wpAny_bind (wpAny_typeOf ty (wpAny_pure ?_)))
 rw [if_neg (by decide)]
 refine wpAny_bind (a8h (A:=A.in1) hh hr sm rs hn λh' tk acc k hacc=>?_)
 refine wpAny_bind (wpAny_pure ?_)
 rw [Array.toArray_toList]
 have hz:acc.size<=sizeLine:=by rw [hacc.1,sizeLine_eq];omega
 exact wpAny_bind (wpAny_newObj_type (hd:=by first | seq_fits | exact hz) (wpAny_pure (q h' tk acc k hacc)))
end
section
variable {X:Cx} {e:Expr} {te:TE} {p p2 pos pos2:Pos} {cl:Nat->Addr} {xe:Addr->Hp->Prop} {f:Env->M D}
def c00 (te:TE):TE:=λσ H Q=>te σ H λx H1=>∃ n:Nat,x=.int (n:Int)/\n<100000/\∀ q,H1 q=none->Q (.ref q) (upd H1 q (.tup ((rgL n).map V.int)))
theorem a8u (hc:X.calm=true) (hl:Gl X "tuple") (ml:X.mg "tuple" = none) (hr:Gl X "range") (mr:X.mg "range" = none) (he:PE X e te) (hn:noStar e=true):PE X (.Call (.Name "tuple" p) [.Call (.Name "range" p2) [e] [] pos2] [] pos) (c00 te):=by
 intro pins s σ H Q I h
 have hh:X.A.handled=none:=I.ok.hd hc
 refine wpAny_Call_Name_kw (u3 I hl ml (by rfl) ?_ (by decide) (by decide))
 refine PyProof.Rows.callWith_type1 ?_ rfl rfl
 show wpAny _ _ (spliced ((false,eval (.Call (.Name "range" p2) [e] [] pos2) X.env) :: backTo pos (starEach [] X.env))) _ _ s
 refine Calls.spliced_cons ?_
 refine wpAny_Call_Name_kw (u3 I hr mr boot_range ?_ (by decide) (by decide))
 refine PyProof.Rows.callWith_type1 ?_ (d8 hn) rfl
 rw [d8 hn]
 show wpAny _ _ (spliced ((false,eval e X.env) :: backTo pos2 (starEach [] X.env))) _ _ s
 refine Calls.spliced_cons (thn (he pins s σ H _ I h) λu s1 ⟨x,H1,I1,r1,n,e1,hz,q⟩=>?_)
 subst e1
 obtain ⟨t,rfl⟩:=r1
 refine Calls.spliced_nil (call_range_1 (Calls.spliced_nil ?_))
 have rs:Builtin.Range.rangeSize 0 (n:Int) 1=(n:Int):=by rw [rangeSize_one];split <;> omega
 refine callType_new PySem.F.called_tuple (by decide) (PySem.F.typeCall_tuple_1 _) (by kernel_rfl) (λobj=>by first | rfl | exact PySem.F.args_object_init_2 _ _) PySem.F.entry_tuple_new (a3e (small_one (by omega) (by omega) (by omega) (by omega)) rs (by omega)) ⟨hh,IsRange.new ..,λh' tk acc hk hacc=>?_⟩
 have I2:=I1.kept (t':=s1.toks+1+1) (h':=s1.heap.push { cls:=.type "range",data:=.fields #[.int 0 s1.toks,.int (n:Int) t,.int 1 (s1.toks+1)] }) λb ob q=>Heap.get?_push_of_some _ q
 have I3:=I2.kept (t':=tk) (h':=h') hk
 have J:=Inv.laid (t':=tk) (o:=.tup ((rgL n).map V.int)) (h':=h'.push { cls:=Value.type "tuple",data:=Data.seq acc }) I3 (λb ob q=>Heap.get?_push_of_some _ q) (Nat.le_refl _) ?_
 ·exact ⟨⟨_,Heap.get?_push_size _ rfl,rfl⟩,.ref _,_,J,rfl,q _ (I3.hok.fresh (Nat.le_refl _))⟩
 refine ⟨by rw [List.length_map];show (rgL n).length<=_;unfold rgL;rw [List.length_map,List.length_range,sizeLine_eq];omega,acc.toList,a6v (by rw [Array.length_toList];exact hacc.1) (λi v hv=>?_),?_⟩
 ·obtain ⟨t',e⟩:=hacc.2 i v (by rw [<- Array.getElem?_toList];exact hv)
  exact ⟨t',by rw [e];simp⟩
 ·rw [Array.toArray_toList];exact TupN.new _ _
noncomputable def T0 (d:D):M D:=match d with
 | .int i=>if 0<=i/\i<100000 then ret (.tup ((rgL i.toNat).map D.int)) else bad
 | _=>bad
theorem b0g (hc:X.calm=true) (hl:Gl X "tuple") (ml:X.mg "tuple" = none) (hr:Gl X "range") (mr:X.mg "range" = none) (he:PE X e (tD X.K cl xe f)) (hn:noStar e=true):PE X (.Call (.Name "tuple" p) [.Call (.Name "range" p2) [e] [] pos2] [] pos) (tD X.K cl xe λρ=>bind (f ρ) T0):=
 PE.imp (a8u hc hl ml hr mr he hn) λσ H Q ⟨μ,S,ρ,eo,rp,p⟩=>⟨μ,S,ρ,eo,rp,p.bind.imp λd S1 μ1 H1 l1 r1 p1 v rv=>by
  cases rv with
  | int i=>
   obtain ⟨hi,p1⟩:=Post.guard p1
   refine ⟨i.toNat,by rw [Int.toNat_of_nonneg hi.1],by omega,λz hz=>?_⟩
   obtain ⟨l,rp2,rd2⟩:=y3 r1 (RDs.ints (rgL i.toNat)) hz
   exact p1 μ1 _ l rp2 _ rd2
  | _=>exact False.elim p1⟩
end
noncomputable def c0u:RuE where
 is Γ lc e:=match e with
  | .Call (.Name x _) [.Call (.Name y _) [a] [] _] [] _=>decide (x = "tuple")&&decide (y = "range")&&(Γ.gl.lookup ("tuple" : Str)).isNone&&(Γ.gl.lookup ("range" : Str)).isNone&&glB lc.sc "tuple" && glB lc.sc "range" && !quiet lc&&noStar a
  | _=>false
 run r _ _ lc e ρ:=match e with
  | .Call (.Name _ _) [.Call (.Name _ _) [a] [] _] [] _=>bind (r.e lc a ρ) T0
  | _=>bad
 ok {T k r Γ C lc X} e R TX h hi:=by
  split at hi
  ·simp only [Bool.and_eq_true,decide_eq_true_eq,Option.isNone_iff_eq_none,Bool.not_eq_true'] at hi
   obtain ⟨⟨⟨⟨⟨⟨⟨rfl,rfl⟩,h1⟩,h2⟩,h3⟩,h4⟩,h5⟩,h6⟩:=hi
   exact b0g (h.calm h5) (h.gl h3) (TX.none h (by decide) h1) (h.gl h4) (TX.none h (by decide) h2) (R.ex h _) h6
  ·cases hi
 runK q _ _ lc e ρ _ k:=match e with
  | .Call (.Name _ _) [.Call (.Name _ _) [a] [] _] [] _=>q.e lc a ρ λd=>bind (T0 d) k
  | _=>bad
 eq e ρ _ k h:=by
  split
  ·simp only [h.e,bind_assoc]
  ·first
   | rfl
   | (rename_i hn;split;exact (hn _ _ _ _ _ _ _ rfl).elim;rfl)
theorem a7 {α β:Type} {m:M α} {k:α->M β} {S S':Sto} {a:α} (e:m S=.ok a S'):bind m k S=k a S':=by unfold bind;rw [e]
theorem b0e {S:Sto} {p:Nat} {o o':O} (h:S[p]?=some o):(S.set p o')[p]?=some o':=List.getElem?_set_self (List.getElem?_eq_some_iff.mp h).1
theorem a61 (i j:Int) (S:Sto):E2 (.int i) (.int j) S=.ok (.int (i+j)) S:=rfl
theorem T1 {i j:Int} (h:0<j) (S:Sto):V4 (.int i) (.int j) S=.ok (.int (i % j)) S:=by simp only [V4,if_pos h,ret]
theorem a1h {i j:Int} (h:0<j) (h2:j<1073741824) (S:Sto):Q1 (.int i) (.int j) S=.ok (.int (i / j)) S:=by
 have hc:a8p i j:=⟨h,h2⟩
 simp only [Q1,if_pos hc,ret]
theorem a3b {i j:Int} (h:CMul i j) (S:Sto):C5 (.int i) (.int j) S=.ok (.int (i * j)) S:=by simp only [C5,if_pos h,ret]
theorem a23 (ns:List Int) (S:Sto):n8 (.lst (ns.map D.int)) S=.ok (.int ns.length) S:=by
 show R.ok (D.int ((ns.map D.int).length:Nat)) S=_
 rw [List.length_map]
theorem b5y {ns:List Int} {a:Int} (ha:0<=a) (hn:0<ns.length) (S:Sto):∃ z:Int,ixD (.lst (ns.map D.int)) (.int (a % (ns.length:Int))) S=.ok (.int z) S:=by
 have hb:(0:Int)<(ns.length:Int):=by omega
 have h0:=Int.emod_nonneg a (Int.ne_of_gt hb)
 have h1:=Int.emod_lt_of_pos a hb
 obtain ⟨j,hj⟩:=Int.eq_ofNat_of_zero_le h0
 have hj':j<ns.length:=by omega
 refine ⟨ns[j],?_⟩
 rw [hj]
 show V0 (atI (ns.map D.int) (j:Int)) S=_
 rw [R3 (v:=D.int ns[j]) (by rw [List.getElem?_map,List.getElem?_eq_getElem hj'];rfl)]
 rfl
theorem set_set {S:Sto} {p:Nat} {o o':O}:(S.set p o).set p o'=S.set p o':=List.set_set ..
theorem b71 {c:Nat} {fs:List Str} {ds:List D} {S:Sto} (h1:ds.length=fs.length) (h2:ds.all (K6 S)=true):Q7 c fs ds S=.ok (.ref S.length) (S++[.exc c (fs.zip ds)]):=by
 unfold Q7
 rw [if_pos ⟨h1,h2⟩]
theorem a1b (x:Str) (S:Sto):d5 .NotEq (.str x) (.str x) S=.ok (.bl false) S:=by
 show R.ok (D.bl (!decide (x=x))) S=_
 rw [decide_eq_true rfl];rfl
theorem b3s (x:Str) (S:Sto):d5 .Eq (.str x) (.str x) S=.ok (.bl true) S:=by
 show R.ok (D.bl (decide (x=x))) S=_
 rw [decide_eq_true rfl]
theorem c8 (b:Bool) (S:Sto):asB (.bl b) S=.ok b S:=rfl
noncomputable def Z5 (o:Option (Option Value)) (x:String):Bool:=match o with
 | some (some (.builtin y))=>decide (y=x)
 | _=>false
theorem M6 {o:Option (Option Value)} {x:String} (h:Z5 o x=true):o=some (some (.builtin x)):=by
 unfold Z5 at h
 split at h
 ·rw [of_decide_eq_true h]
 ·cases h
noncomputable def isNo (o:Option (Option Value)):Bool:=match o with
 | some none=>true
 | _=>false
theorem S7 {o:Option (Option Value)} (h:isNo o=true):o=some none:=by
 unfold isNo at h
 split at h
 ·rfl
 ·cases h
noncomputable def isB (o:Option Bool) (b:Bool):Bool:=match o with
 | some c=>c==b
 | none=>false
theorem N1 {o:Option Bool} {b:Bool} (h:isB o b=true):o=some b:=by
 unfold isB at h
 split at h
 ·rw [eq_of_beq h]
 ·cases h
noncomputable def xcB (K:PySem.W.Frag) (C:Addr):Bool:=
 Z5 (PySem.W.findIn K (.ref C) "__getattribute__") "BaseException.__getattribute__" && (isNo (PySem.W.findIn K (.ref C) "__getattr__")&&(isB (PySem.W.mroIn K C (.type "BaseException")) true&&(isB (PySem.W.mroIn K C (.type "object")) true &&
 (PySem.W.hasDictIn K C&&(Z5 (PySem.W.findIn K (.ref C) "__class__") "object.__class__" && (Z5 (PySem.W.specialIn K (.builtin "object.__class__") "__get__") "getset_descriptor.__get__" && (isB (PySem.W.takesIn K (.builtin "object.__class__")) true &&
 (Q2 K C&&((PySem.W.clsIn K C).any (λcd=>v5 cd.mro)&&(Z5 (PySem.W.findIn K (.ref C) "__setattr__") "object.__setattr__" && PySem.W.keepIn K (.ref C)))))))))))
theorem b1e {K:PySem.W.Frag} {C:Addr} (h:xcB K C=true):XC K C:=by
 simp only [xcB,Bool.and_eq_true] at h
 obtain ⟨h1,h2,h3,h4,h5,h6,h7,h8,h9,h10,h11,h12⟩:=h
 exact ⟨⟨M6 h1,S7 h2,N1 h3,N1 h4,h5,M6 h6,M6 h7,N1 h8⟩,h9,h10,M6 h11,h12⟩
noncomputable def T4 (cs:List Addr) (junk:Addr) (c:Nat):Addr:=cs.getD c junk
structure RowB (K:PySem.W.Frag) (Γ:Gm) (cs:List Addr) (junk:Addr):Prop where
 xc:cs.all (xcB K)=true
 jk:Q2 K junk=false
 sub:((List.range cs.length).all λc=>(List.range cs.length).all λc0=>isB (PySem.W.kitOne K (.ref (T4 cs junk c)) (.ref (T4 cs junk c0))) (Γ.sub c c0))=true
 sV:(cs.all λC=>isB (PySem.W.kitOne K (.ref C) (.type "ValueError")) true)=true
 sT:(cs.all λC=>tys.all λt=>isB (PySem.W.kitOne K (.ref C) (.type t)) false)=true
 fl:(Γ.flds.all λg=>cs.all λC=>isNo (PySem.W.findIn K (.ref C) g))=true
 bl:(bnames.all λx=>(Γ.gl.lookup x).isSome||isNo (PySem.W.nsIn K mainGlobals x))=true
theorem c1f {K:PySem.W.Frag} {cs:List Addr} {junk:Addr} (jk:Q2 K junk=false) {c:Nat} (h:XC K (T4 cs junk c)):c<cs.length/\T4 cs junk c∈cs:=by
 by_cases hc:c<cs.length
 ·refine ⟨hc,?_⟩
  unfold T4
  rw [List.getD_eq_getElem?_getD,List.getElem?_eq_getElem hc]
  exact List.getElem_mem hc
 ·have e:T4 cs junk c=junk:=by
   unfold T4
   rw [List.getD_eq_getElem?_getD,List.getElem?_eq_none (Nat.le_of_not_lt hc)];rfl
  rw [e] at h
  have:=h.ex
  rw [jk] at this
  cases this
theorem RowB.st {T:Tx} {Γ:Gm} {cs:List Addr} {junk:Addr} {h:Heap} (B:RowB T.K Γ cs junk) (X:T.K.In h) (G:h.Ns mainGlobals T.mg) (hc:T.cl=T4 cs junk) (hv:∀ x d,Γ.gl.lookup x=some (.val d)->∃ u v,T.mg x=some u/\RelV v u/\∀ μ H,RD T.K μ H d v)
  (he:∀ x c fs,Γ.gl.lookup x=some (.err c fs)->c<cs.length/\ErrAt T x c fs/\∀ g∈fs,g∈Γ.flds) (hd:∀ x kvs,Γ.gl.lookup x=some (.dct kvs)->b2d T x kvs):TxSt T Γ:=by
 have mem:∀ c,XC T.K (T.cl c)->c<cs.length/\T.cl c∈cs:=λc xc=>by rw [hc] at xc ⊢;exact c1f B.jk xc
 have nf:∀ g∈Γ.flds,∀ c,XC T.K (T.cl c)->t7 T.K (T.cl c) g:=λg hg c xc=>by
  have:=(List.all_eq_true.mp B.fl) g hg
  exact S7 ((List.all_eq_true.mp this) _ (mem c xc).2)
 refine ⟨λx hx hn=>?_,hv,λx c fs e=>?_,λx c c0 fs e xc=>?_,λc xc=>?_,λc xc t ht=>?_,nf,hd⟩
 ·have:=(List.all_eq_true.mp B.bl) x hx
  rw [hn] at this
  exact PySem.W.mg_none_of X G (S7 this)
 ·obtain ⟨h1,h2,h3⟩:=he x c fs e
  exact ⟨h2,λg hg=>nf g (h3 g hg) c h2.xc⟩
 ·obtain ⟨h1,h2,h3⟩:=he x c0 fs e
  have a:=(List.all_eq_true.mp B.sub) c (List.mem_range.mpr (mem c xc).1)
  have b:=(List.all_eq_true.mp a) c0 (List.mem_range.mpr h1)
  rw [hc]
  exact N1 b
 ·exact N1 ((List.all_eq_true.mp B.sV) _ (mem c xc).2)
 ·have a:=(List.all_eq_true.mp B.sT) _ (mem c xc).2
  exact N1 ((List.all_eq_true.mp a) t ht)
def a0r (K:PySem.W.Frag):Sp:=λvs H Q _=>∃ (a:Addr) (ns:List Int),vs=[.ref a]/\SqL K H a (ns.map V.int)/\∀ H',Q (.bl true) H'
theorem a8f {K:PySem.W.Frag} {cl:Nat->Addr} {run:List D->M D} (hr:∀ ns:List Int,∃ S',run [.scr (ns.map D.int)] []=.ok (.bl true) S'):∀ vs H Q E,a0r K vs H Q E->spD K cl 1 run vs H Q E:=by
 rintro vs H Q E ⟨a,ns,rfl,hS,q⟩
 obtain ⟨S',e⟩:=hr ns
 refine ⟨rfl,⟨[],[]⟩,[],[.scr (ns.map D.int)],.cons (.scr ?_ (RDs.ints ns)) .nil,⟨rfl,by simp,λn o a e=>by simp at e,λa m=>by simp at m⟩,?_⟩
 ·rcases hS with h | h
  ·exact .inl ⟨h,by simp,by simp⟩
  ·exact .inr h
 ·rw [e]
  intro μ' H' l r v rv
  cases rv;exact q H'
structure GF (K:PySem.W.Frag) (x:Str) (st:Stmt) (g:Addr):Prop where
 a:PySem.W.nsIn K mainGlobals x=some (some (.ref g))
 f:∃ fd,Fun K x x st g fd
theorem gf_mk {K:PySem.W.Frag} {x:Str} {st:Stmt} {g:Addr} {oc:Value} {od an:Option Addr} {osl:Array (Option Value)} {kV doc pm cdv ct:Value} (a:PySem.W.nsIn K mainGlobals x=some (some (.ref g))) (l:K.lookup g=some ⟨oc,od,.func (PySem.W.fnOf x x (o7 st) (j5 st) (b7 st) .none kV doc pm an cdv ct),osl⟩) (c:PySem.W.codeIn K cdv x=true) (k:PySem.W.keepIn K (.ref g)=true):GF K x st g:=⟨a,_,a0m l c k⟩
theorem fe {T:Tx} {h:Heap} (X:T.K.In h) (G:h.Ns mainGlobals T.mg) {x:Str} {st:Stmt} {g:Addr} {m:List Str} {Tb:List Fd} {i n:Nat} (d:GF T.K x st g) (sc:a0z (i4 st m)=true) (hb:∀ (kV doc pm:Value) (an:Option Addr) (cdv ct:Value) (us:List Value),us.length=(i4 st m).ps.length->bindArgs (PySem.W.fnOf x x (o7 st) (j5 st) (b7 st) .none kV doc pm an cdv ct) ⟨us,[]⟩=pure ((i4 st m).ps.zip us)) (hT:Tb[i]?=some (i4 st m)) (hn:(i4 st m).ps.length=n):∃ fd,Tb[i]?=some fd/\fd.ps.length=n/\FnTx T x fd:=by
 obtain ⟨fd,F⟩:=d.f
 exact ⟨_,hT,hn,⟨g,_,_,st,F,rfl,rfl,V1 sc,F.binds hb,PySem.W.mg_of X G d.a⟩⟩
def b9b (T:Tx) (Tb:List Fd):List (Str×G)->Prop
 | []=>True
 | (x,.fn i n) :: l=>(∃ fd,Tb[i]?=some fd/\fd.ps.length=n/\FnTx T x fd)/\b9b T Tb l
 | _ :: l=>b9b T Tb l
theorem c3x {T:Tx} {Γ:Gm} {Tb:List Fd} (h:b9b T Tb Γ.gl):b0i T Γ Tb:=λx i n e=>by
 have m:=L2.mem_of_lookup e
 generalize Γ.gl=l at h m
 induction l with
 | nil=>cases m
 | cons y l ih=>
  obtain ⟨z,g⟩:=y
  rcases List.mem_cons.mp m with q | q
  ·cases q;exact h.1
  ·refine ih ?_ q
   cases g with
   | fn j k=>exact h.2
   | _=>exact h
theorem V7 {src:Src} {t:D->M Bool} {f:D->M D} {n:Nat} (I:Nat->Sto->List D->Prop) (hend:∀ S es,I n S es->src n S=some none)
  (step:∀ i S es,i<n->I i S es->∃ d b S1,src i S=some (some d)/\t d S=.ok b S1/\(if b=true then ∃ y S2,f d S1=.ok y S2/\es.length<sizeLine/\I (i+1) S2 (es++[y]) else I (i+1) S1 es)) :
  ∀ (k i:Nat) (S:Sto) (es:List D),k+i=n->I i S es->∃ es' S',i5 src t f (k+1) i es S=.ok es' S'/\I n S' es'
 | 0,i,S,es,hk,h=>by
  have:i=n:=by omega
  subst this
  refine ⟨es,S,?_,h⟩
  simp only [i5,hend S es h]
 | k+1,i,S,es,hk,h=>by
  obtain ⟨d,b,S1,e1,e2,h2⟩:=step i S es (by omega) h
  have un:i5 src t f (k+1+1) i es S=bind (t d) (λb=>if b=true then bind (f d) (λy=>if es.length<sizeLine then i5 src t f (k+1) (i+1) (es++[y]) else bad) else i5 src t f (k+1) (i+1) es) S:=by
   conv=>lhs;unfold i5
   simp only [e1]
  rw [un,a7 e2]
  cases b with
  | true=>
   rw [if_pos rfl] at h2 ⊢
   obtain ⟨y,S2,e3,hl,h3⟩:=h2
   rw [a7 e3,if_pos hl]
   exact V7 I hend step k (i+1) S2 _ (by omega) h3
  | false=>
   rw [if_neg Bool.false_ne_true] at h2 ⊢
   exact V7 I hend step k (i+1) S1 _ (by omega) h2
def Ok {α:Type} (m:M α) (S:Sto) (Q:α->Sto->Prop):Prop:=∃ a S',m S=.ok a S'/\Q a S'
section
variable {α β:Type} {S S1:Sto} {m m':M α} {k:α->M β} {a:α} {Q Q':α->Sto->Prop} {P:β->Sto->Prop}
theorem Ok.ret (h:Q a S):Ok (ret a) S Q:=⟨a,S,rfl,h⟩
theorem Ok.of (e:m S=.ok a S1) (h:Q a S1):Ok m S Q:=⟨a,S1,e,h⟩
theorem Ok.bind (h:Ok m S λa S1=>Ok (k a) S1 P):Ok (L3.bind m k) S P:=by
 obtain ⟨a,S1,e,b,S2,e2,q⟩:=h
 exact ⟨b,S2,by rw [a7 e];exact e2,q⟩
theorem Ok.eq (e:m S=.ok a S1) (h:Ok (k a) S1 P):Ok (L3.bind m k) S P:=Ok.bind ⟨a,S1,e,h⟩
theorem Ok.mono (h:Ok m S Q) (i:∀ a S1,Q a S1->Q' a S1):Ok m S Q':=by
 obtain ⟨a,S1,e,q⟩:=h
 exact ⟨a,S1,e,i _ _ q⟩
theorem Ok.cg (e:m=m') (h:Ok m' S Q):Ok m S Q:=e▸h
theorem Ok.cgS (e:m S=m' S) (h:Ok m' S Q):Ok m S Q:=by
 obtain ⟨a,S1,e1,q⟩:=h
 exact ⟨a,S1,by rw [e];exact e1,q⟩
end
theorem Ok.comp {src:Src} {t:D->M Bool} {f:D->M D} {n:Nat} (I:Nat->Sto->List D->Prop) (hend:∀ S es,I n S es->src n S=some none)
  (step:∀ i S es,i<n->I i S es->∃ d,src i S=some (some d)/\Ok (t d) S λb S1=>if b=true then Ok (f d) S1 λy S2=>es.length<sizeLine/\I (i+1) S2 (es++[y]) else I (i+1) S1 es) {S:Sto} (h:I 0 S []) :
  Ok (i5 src t f (n+1) 0 []) S λes S'=>I n S' es:=by
 obtain ⟨es,S',e,q⟩:=V7 (src:=src) (t:=t) (f:=f) (n:=n) I hend (λi S es hi h=>by
  obtain ⟨d,e1,b,S1,e2,q⟩:=step i S es hi h
  refine ⟨d,b,S1,e1,e2,?_⟩
  cases b with
  | true=>
   rw [if_pos rfl] at q ⊢
   obtain ⟨y,S2,e3,q1,q2⟩:=q
   exact ⟨y,S2,e3,q1,q2⟩
  | false=>
   rw [if_neg Bool.false_ne_true] at q ⊢
   exact q) n 0 S [] (by omega) h
 exact ⟨es,S',e,q⟩
def FlI (I:L3.Env->Sto->Prop) (J:L3.Env->Sto->Prop) (R:D->Sto->Prop) (fl:Fl) (S:Sto):Prop:=match fl with
 | .nx ρ=>I ρ S
 | .ct ρ=>I ρ S
 | .bk ρ=>J ρ S
 | .rt d=>R d S
theorem Ok.for_ {src:Src} {tg:D->L3.Env->Option L3.Env} {body:L3.Env->M Fl} {n:Nat} (I:Nat->L3.Env->Sto->Prop) (J:L3.Env->Sto->Prop) (R:D->Sto->Prop) (hend:∀ ρ S,I n ρ S->src n S=some none)
  (step:∀ i ρ S,i<n->I i ρ S->∃ d ρ1,src i S=some (some d)/\tg d ρ=some ρ1/\Ok (body ρ1) S (FlI (I (i+1)) J R)) :
  ∀ (k i:Nat) (ρ:L3.Env) (S:Sto),k+i=n->I i ρ S->Ok (y8 src tg body (k+1) i ρ) S λfl S'=>match fl with
   | .nx ρ'=>I n ρ' S'\/J ρ' S'
   | .rt d=>R d S'
   | _=>False
 | 0,i,ρ,S,hk,h=>by
  have:i=n:=by omega
  subst this
  exact ⟨.nx ρ,S,by simp only [y8,hend ρ S h],.inl h⟩
 | k+1,i,ρ,S,hk,h=>by
  obtain ⟨d,ρ1,e1,e2,h2⟩:=step i ρ S (by omega) h
  have un:y8 src tg body (k+1+1) i ρ S=L3.bind (body ρ1) (λfl=>match fl with
    | .nx ρ2=>y8 src tg body (k+1) (i+1) ρ2
    | .ct ρ2=>y8 src tg body (k+1) (i+1) ρ2
    | .bk ρ2=>L3.ret (.nx ρ2)
    | .rt d=>L3.ret (.rt d)) S:=by
   conv=>lhs;unfold y8
   simp only [e1,e2]
   all_goals rfl
  refine Ok.cgS un (Ok.bind (h2.mono λfl S1 q=>?_))
  cases fl with
  | nx ρ2=>exact Ok.for_ I J R hend step k (i+1) ρ2 S1 (by omega) q
  | ct ρ2=>exact Ok.for_ I J R hend step k (i+1) ρ2 S1 (by omega) q
  | bk ρ2=>exact Ok.ret (.inr q)
  | rt d=>exact Ok.ret q
theorem m9 {α:Type} {l:List α} {h g:α->D} {p:α->Bool} {t:D->M Bool} {f:D->M D} {S:Sto} (hl:l.length<sizeLine) (ht:∀ a∈l,t (h a) S=.ok (p a) S) (hf:∀ a∈l,p a=true->f (h a) S=.ok (g a) S):i5 (L6 (l.map h)) t f (l.length+1) 0 [] S=.ok ((l.filter p).map g) S:=by
 obtain ⟨es,S',e,e1,e2⟩:=Ok.comp (src:=L6 (l.map h)) (t:=t) (f:=f) (n:=l.length) (λi S' es=>S'=S/\es=((l.take i).filter p).map g) (λS es _=>by show some (l.map h)[l.length]?=some none;rw [List.getElem?_eq_none (by simp)])
  (λi S' es hi ⟨h1,h2⟩=>by
   subst h1 h2
   refine ⟨h l[i],?_,p l[i],S',ht _ (List.getElem_mem hi),?_⟩
   ·show some (l.map h)[i]?=some (some (h l[i]))
    rw [List.getElem?_map,List.getElem?_eq_getElem hi];rfl
   ·have ta:l.take (i+1)=l.take i++[l[i]]:=List.take_succ_eq_append_getElem hi
    cases hp:p l[i] with
    | true=>
     dsimp only
     rw [if_pos rfl]
     refine ⟨g l[i],S',hf _ (List.getElem_mem hi) hp,?_,rfl,?_⟩
     ·rw [List.length_map]
      have:=List.length_filter_le p (l.take i)
      have:=List.length_take_le i l
      omega
     ·rw [ta,List.filter_append,List.map_append,List.filter_cons_of_pos hp];rfl
    | false=>
     dsimp only
     rw [if_neg Bool.false_ne_true]
     refine ⟨rfl,?_⟩
     rw [ta,List.filter_append,List.filter_cons_of_neg (by rw [hp];exact Bool.false_ne_true),List.filter_nil,List.append_nil]) (S:=S) ⟨rfl,rfl⟩
 rw [e]
 subst e1 e2
 rw [List.take_length]
def Asc (x:Str):Prop:=∀ c∈x.cps.toList,c<128
noncomputable def P2 (j:Nat):Nat:=1000000000000000000000000000000000000000+j
mutual
def Pln (j:Nat):D->Prop
 | .non=>True
 | .bl _=>True
 | .int i=>i.natAbs<=P2 j
 | .str x=>x.length<=45+j/\Asc x
 | .tup ds=>Plns j ds
 | .lst ds=>Plns j ds
 | .scr _=>False
 | .ref _=>False
def Plns (j:Nat):List D->Prop
 | []=>True
 | d :: ds=>Pln j d/\Plns j ds
end
mutual
noncomputable def py:D->PyData
 | .non=>.none
 | .bl b=>.bool b
 | .int i=>.int i
 | .str x=>.str x
 | .tup ds=>.tuple (pys ds)
 | .lst ds=>.list (pys ds)
 | .scr _=>.none
 | .ref _=>.none
noncomputable def pys:List D->List PyData
 | []=>[]
 | d :: ds=>py d :: pys ds
end
mutual
noncomputable def dp:D->Nat
 | .tup ds=>dps ds+1
 | .lst ds=>dps ds+1
 | _=>0
noncomputable def dps:List D->Nat
 | []=>0
 | d :: ds=>max (dp d) (dps ds)
end
mutual
noncomputable def sz:D->Nat
 | .int _=>60
 | .str x=>10 * x.length+2
 | .tup ds=>szs ds+3
 | .lst ds=>szs ds+3
 | _=>5
noncomputable def szs:List D->Nat
 | []=>0
 | d :: ds=>sz d+2+szs ds
end
theorem Plns.of {j:Nat}:∀ {ds:List D},(∀ d∈ds,Pln j d)->Plns j ds
 | [],_=>trivial
 | d :: ds,h=>⟨h d (List.mem_cons_self ..),Plns.of λe he=>h e (List.mem_cons_of_mem _ he)⟩
mutual
theorem Pln.up {j:Nat}:∀ (d:D),Pln j d->Pln (j+1) d
 | .non,_=>trivial
 | .bl _,_=>trivial
 | .int i,h=>by have h:i.natAbs<=P2 j:=h;show i.natAbs<=P2 (j+1);unfold P2 at *;omega
 | .str x,h=>⟨by have:=h.1;omega,h.2⟩
 | .tup ds,h=>Plns.up ds h
 | .lst ds,h=>Plns.up ds h
 | .scr _,h=>h.elim
 | .ref _,h=>h.elim
theorem Plns.up {j:Nat}:∀ (ds:List D),Plns j ds->Plns (j+1) ds
 | [],_=>trivial
 | d :: ds,h=>⟨Pln.up d h.1,Plns.up ds h.2⟩
end
theorem b1q {n:Nat}:∀ {ds:List D},(∀ d∈ds,dp d<=n)->dps ds<=n
 | [],_=>Nat.zero_le _
 | d :: ds,h=>by
  have:=h d (List.mem_cons_self ..)
  have:=b1q (ds:=ds) λe he=>h e (List.mem_cons_of_mem _ he)
  show max (dp d) (dps ds)<=n;omega
mutual
theorem a5f {j:Nat} (S:Sto):∀ (d:D) (n:Nat),Pln j d->dp d<n->i9 n S d=some (py d)
 | .non,n+1,_,_=>rfl
 | .bl _,n+1,_,_=>rfl
 | .int _,n+1,_,_=>rfl
 | .str _,n+1,_,_=>rfl
 | .tup ds,n+1,h,hn=>by
  show (f8 (i9 n S) ds).map PyData.tuple=_
  rw [V5 S ds n h (by have:dps ds+1<n+1:=hn;omega)];rfl
 | .lst ds,n+1,h,hn=>by
  show (f8 (i9 n S) ds).map PyData.list=_
  rw [V5 S ds n h (by have:dps ds+1<n+1:=hn;omega)];rfl
 | .scr _,_,h,_=>h.elim
 | .ref _,_,h,_=>h.elim
 | .non,0,_,h=>by omega
 | .bl _,0,_,h=>by omega
 | .int _,0,_,h=>by omega
 | .str _,0,_,h=>by omega
 | .tup _,0,_,h=>by omega
 | .lst _,0,_,h=>by omega
theorem V5 {j:Nat} (S:Sto):∀ (ds:List D) (n:Nat),Plns j ds->dps ds<n->f8 (i9 n S) ds=some (pys ds)
 | [],n,_,_=>rfl
 | d :: ds,n,h,hn=>by
  have hn:max (dp d) (dps ds)<n:=hn
  simp only [f8,a5f S d n h.1 (by omega),V5 S ds n h.2 (by omega)]
  rfl
end
mutual
theorem a2s:∀ d:D,(py d).depth<=dp d
 | .non=>by show PyData.depth .none<=_;simp [PyData.depth]
 | .bl b=>by show PyData.depth (.bool b)<=_;simp [PyData.depth]
 | .int i=>by show PyData.depth (.int i)<=_;simp [PyData.depth]
 | .str x=>by show PyData.depth (.str x)<=_;simp [PyData.depth]
 | .tup ds=>by show PyData.depth (.tuple (pys ds))<=dps ds+1;simp only [PyData.depth];have:=N9 ds;omega
 | .lst ds=>by show PyData.depth (.list (pys ds))<=dps ds+1;simp only [PyData.depth];have:=N9 ds;omega
 | .scr _=>by show PyData.depth .none<=_;simp [PyData.depth]
 | .ref _=>by show PyData.depth .none<=_;simp [PyData.depth]
theorem N9:∀ ds:List D,PyData.depthAll (pys ds)<=dps ds
 | []=>by show PyData.depthAll []<=0;simp [PyData.depthAll]
 | d :: ds=>by
  have:=a2s d
  have:=N9 ds
  show PyData.depthAll (py d :: pys ds)<=max (dp d) (dps ds)
  simp only [PyData.depthAll]
  omega
end
theorem b5v {j:Nat} {i:Int} (h:i.natAbs<=P2 j) (hj:j<=1000):decide (i.natAbs.log2<1920)=true:=by
 refine decide_eq_true ?_
 by_cases z:i.natAbs=0
 ·rw [z];decide
 ·have:i.natAbs<2 ^ 140:=by unfold P2 at h;omega
  have:=(Nat.log2_lt z).mpr this
  omega
mutual
theorem a5k {j:Nat} (hj:j<=1000):∀ d:D,Pln j d->(py d).showable=true/\(py d).hasDict=false/\(py d).shown.length<=sz d
 | .non,_=>⟨rfl,rfl,by show (PyData.shown .none).length<=5;decide⟩
 | .bl b,_=>⟨rfl,rfl,by show (PyData.shown (.bool b)).length<=5;cases b <;> decide⟩
 | .int i,h=>⟨b5v h hj,rfl,by
   have h:i.natAbs<=P2 j:=h
   have e:=int_text_length_le10 (k:=40) (a:=i) (by decide) (by unfold P2 at h;omega)
   show (Str.ofString (toString i)).length<=60
   rw [PySem.ofString_length];omega⟩
 | .str x,h=>⟨rfl,rfl,by
   show (PyData.shown (.str x)).length<=10 * x.length+2
   rw [PyData.shown_str]
   exact StrLaws.reprText_len x λc hc=>by have:=h.2 c hc;omega⟩
 | .tup ds,h=>by
  obtain ⟨a,b,c⟩:=W6 hj ds h
  refine ⟨by show PyData.showable (.tuple (pys ds))=true;simp only [PyData.showable];exact a,by show PyData.hasDict (.tuple (pys ds))=false;simp only [PyData.hasDict];exact b,?_⟩
  have h2:=tupleText_len_le (PyData.shownAll (pys ds))
  have h3:=PyData.shownAll_length (pys ds)
  show (PyData.shown (.tuple (pys ds))).length<=szs ds+3
  simp only [PyData.shown]
  omega
 | .lst ds,h=>by
  obtain ⟨a,b,c⟩:=W6 hj ds h
  refine ⟨by show PyData.showable (.list (pys ds))=true;simp only [PyData.showable];exact a,by show PyData.hasDict (.list (pys ds))=false;simp only [PyData.hasDict];exact b,?_⟩
  have h2:=listText_len_le (PyData.shownAll (pys ds))
  have h3:=PyData.shownAll_length (pys ds)
  show (PyData.shown (.list (pys ds))).length<=szs ds+3
  simp only [PyData.shown]
  omega
 | .scr _,h=>h.elim
 | .ref _,h=>h.elim
theorem W6 {j:Nat} (hj:j<=1000):∀ ds:List D,Plns j ds->PyData.showableAll (pys ds)=true/\PyData.hasDictAll (pys ds)=false/\((PyData.shownAll (pys ds)).map (·.length)).sum+2 * (pys ds).length<=szs ds
 | [],_=>⟨rfl,rfl,by show ((PyData.shownAll []).map (·.length)).sum+2 * 0<=0;simp [PyData.shownAll]⟩
 | d :: ds,h=>by
  obtain ⟨a,b,c⟩:=a5k hj d h.1
  obtain ⟨a2,b2,c2⟩:=W6 hj ds h.2
  refine ⟨by show PyData.showableAll (py d :: pys ds)=true;simp only [PyData.showableAll,a,a2,Bool.and_self],by show PyData.hasDictAll (py d :: pys ds)=false;simp only [PyData.hasDictAll,b,b2,Bool.or_self],?_⟩
  show ((PyData.shownAll (py d :: pys ds)).map (·.length)).sum+2 * (py d :: pys ds).length<=sz d+2+szs ds
  simp only [PyData.shownAll,List.map_cons,List.sum_cons,List.length_cons]
  omega
end
structure Any (j N:Nat) (d:D):Prop where
 pl:Pln j d
 dp:dp d<=3+j
 sz:sz d<=N
theorem b1h {j N:Nat} {d:D} (h:Any j N d) (hj:j<=40) (hN:N<=10000000) (S:Sto):B5 d S=.ok (.str (py d).shown) S:=by
 obtain ⟨a,b,c⟩:=a5k (by omega) d h.pl
 have e:=a5f S d 64 h.pl (by have:=h.dp;omega)
 have e2:B5 d S=(match i9 64 S d with
  | some p=>(if Shows p then ret (D.str p.shown) else bad) S
  | none=>.bad):=rfl
 rw [e2,e]
 show (if Shows (py d) then ret (D.str (py d).shown) else bad) S=_
 rw [if_pos ⟨a,b,by have:=a2s d;have:=h.dp;omega,by have:=h.sz;rw [sizeLine_eq];omega⟩];rfl
mutual
noncomputable def plB:D->Bool
 | .non=>true
 | .bl _=>true
 | .int i=>decide (i.natAbs<=P2 0)
 | .str x=>decide (x.length<=45)&&x.cps.toList.all (· < 128)
 | .tup ds=>a9h ds
 | .lst ds=>a9h ds
 | .scr _=>false
 | .ref _=>false
noncomputable def a9h:List D->Bool
 | []=>true
 | d :: ds=>plB d&&a9h ds
end
mutual
theorem b23:∀ d:D,plB d=true->Pln 0 d
 | .non,_=>trivial
 | .bl _,_=>trivial
 | .int i,h=>by
  have h:decide (i.natAbs<=P2 0)=true:=h
  exact (of_decide_eq_true h:i.natAbs<=P2 0)
 | .str x,h=>by
  have h:(decide (x.length<=45)&&x.cps.toList.all (· < 128))=true:=h
  rw [Bool.and_eq_true,decide_eq_true_eq,List.all_eq_true] at h
  exact ⟨h.1,λc hc=>of_decide_eq_true (h.2 c hc)⟩
 | .tup ds,h=>a01 ds h
 | .lst ds,h=>a01 ds h
 | .scr _,h=>Bool.noConfusion h
 | .ref _,h=>Bool.noConfusion h
theorem a01:∀ ds:List D,a9h ds=true->Plns 0 ds
 | [],_=>trivial
 | d :: ds,h=>by
  have h:(plB d&&a9h ds)=true:=h
  rw [Bool.and_eq_true] at h
  exact ⟨b23 d h.1,a01 ds h.2⟩
end
noncomputable def smB (n N:Nat) (d:D):Bool:=plB d&&decide (dp d<=n)&&decide (sz d<=N)
theorem a3q {n N:Nat} {d:D} (h:smB n N d=true):Pln 0 d/\dp d<=n/\sz d<=N:=by
 unfold smB at h
 rw [Bool.and_eq_true,Bool.and_eq_true,decide_eq_true_eq,decide_eq_true_eq] at h
 exact ⟨b23 d h.1.1,h.1.2,h.2⟩
theorem Pln.ups {j:Nat} {d:D} (h:Pln 0 d):Pln j d:=by
 induction j with
 | zero=>exact h
 | succ j ih=>exact ih.up
theorem R6 (n:Nat) (S:Sto):∀ ns:List Int,f8 (i9 (n+1) S) (ns.map D.int)=some (ns.map PyData.int)
 | []=>rfl
 | b :: bs=>by
  have e:i9 (n+1) S (.int b)=some (.int b):=rfl
  simp only [List.map_cons,f8,e,R6 n S bs]
theorem a0j:∀ ns:List Int,PyData.canLayAll0 (ns.map PyData.int)=true
 | []=>rfl
 | b :: bs=>by simp only [List.map_cons,PyData.canLayAll0,PyData.canLay0,a0j bs,Bool.and_self]
theorem cut_take {ds:List D} {i:Nat} (h:i<=ds.length):A7 ds none (some (i:Int))=ds.take i:=by
 have e:HT.sIx ds.length ds.length (some (i:Int))=i:=by
  show (if (i:Int)<0 then ((i:Int)+(ds.length:Int)).toNat else min (i:Int).toNat ds.length)=i
  rw [if_neg (by omega)]
  simp;omega
 unfold A7
 rw [e,HT.sIx_none]
 simp
theorem b2r {ds:List D} {i:Nat} (h:i<=ds.length):A7 ds (some (i:Int)) none=ds.drop i:=by
 have e:HT.sIx ds.length 0 (some (i:Int))=i:=by
  show (if (i:Int)<0 then ((i:Int)+(ds.length:Int)).toNat else min (i:Int).toNat ds.length)=i
  rw [if_neg (by omega)]
  simp;omega
 unfold A7
 rw [e,HT.sIx_none]
 rw [List.take_of_length_le (by simp)]
theorem cat_tup {xs ys:List D} {S:Sto} (h:xs.length+ys.length<=sizeLine):E2 (.tup xs) (.tup ys) S=.ok (.tup (xs++ys)) S:=by
 show (if xs.length+ys.length<=sizeLine then ret (D.tup (xs++ys)) else bad) S=_
 rw [if_pos h];rfl
theorem u5 (ds:List D) (S:Sto):n8 (.tup ds) S=.ok (.int ds.length) S:=rfl
theorem M3 (ds:List D) (S:Sto):t9 (.tup ds) S=.ok (L6 ds,ds.length+1) S:=rfl
theorem O1 {n:Nat} (h:n<1000) (S:Sto):F6 [.int (n:Int)] S=.ok (a0s 0 n,n+1) S:=by
 unfold F6
 have hn:(n:Int)<1000:=by omega
 have h0:(0:Int)<=n:=by omega
 have c:-(2 ^ 62)<=(n:Int)/\(n:Int)<2 ^ 62:=⟨Int.le_trans (by decide) h0,Int.lt_trans hn (by decide)⟩
 simp only [if_pos c,Int.toNat_natCast]
 rfl
theorem b9q {ds:List D} {i:Nat} {d:D} (S:Sto) (h:ds[i]?=some d):ixD (.tup ds) (.int (i:Int)) S=.ok d S:=by
 show V0 (atI ds (i:Int)) S=_
 rw [R3 h];rfl
theorem c6b {ds:List D} {i:Nat} {d:D} (S:Sto) (h:ds[i]?=some d):ixD (.lst ds) (.int (i:Int)) S=.ok d S:=by
 show V0 (atI ds (i:Int)) S=_
 rw [R3 h];rfl
theorem c4v {ds:List D} {i n:Nat} {d:D} {S:Sto} (e:S[n]?=some (.lst ds)) (h:ds[i]?=some d):ixD (.ref n) (.int (i:Int)) S=.ok d S:=by
 simp only [ixD,e,R3 h];rfl
theorem C4 {α:Type} {src:Src} {l:List α} {h g:α->D} {p:α->Bool} {t:D->M Bool} {f:D->M D} {S:Sto} (hs:∀ i,src i S=some (l.map h)[i]?) (hl:l.length<sizeLine) (ht:∀ a∈l,t (h a) S=.ok (p a) S) (hf:∀ a∈l,p a=true->f (h a) S=.ok (g a) S):i5 src t f (l.length+1) 0 [] S=.ok ((l.filter p).map g) S:=by
 obtain ⟨es,S',e,e1,e2⟩:=Ok.comp (src:=src) (t:=t) (f:=f) (n:=l.length) (λi S' es=>S'=S/\es=((l.take i).filter p).map g) (λS' es q=>by obtain ⟨q,_⟩:=q;subst q;rw [hs,List.getElem?_eq_none (by simp)])
  (λi S' es hi ⟨h1,h2⟩=>by
   subst h1 h2
   refine ⟨h l[i],?_,p l[i],S',ht _ (List.getElem_mem hi),?_⟩
   ·rw [hs,List.getElem?_map,List.getElem?_eq_getElem hi];rfl
   ·have ta:l.take (i+1)=l.take i++[l[i]]:=List.take_succ_eq_append_getElem hi
    cases hp:p l[i] with
    | true=>
     dsimp only
     rw [if_pos rfl]
     refine ⟨g l[i],S',hf _ (List.getElem_mem hi) hp,?_,rfl,?_⟩
     ·rw [List.length_map]
      have:=List.length_filter_le p (l.take i)
      have:=List.length_take_le i l
      omega
     ·rw [ta,List.filter_append,List.map_append,List.filter_cons_of_pos hp];rfl
    | false=>
     dsimp only
     rw [if_neg Bool.false_ne_true]
     refine ⟨rfl,?_⟩
     rw [ta,List.filter_append,List.filter_cons_of_neg (by rw [hp];exact Bool.false_ne_true),List.filter_nil,List.append_nil]) (S:=S) ⟨rfl,rfl⟩
 rw [e]
 subst e1 e2
 rw [List.take_length]
theorem a3n (n i:Nat) (S:Sto):a0s 0 n i S=some ((List.range n).map λ(k:Nat)=>D.int (k:Int))[i]?:=by
 show some (if i<n then some (D.int (0+i)) else none)=_
 by_cases h:i<n
 ·rw [if_pos h,List.getElem?_map,List.getElem?_range h,Int.zero_add];rfl
 ·rw [if_neg h,List.getElem?_eq_none (by simpa using h)]
theorem c1y {S:Sto} {n:Nat} {ds:List D} (e:S[n]?=some (.lst ds)) (i:Nat):a7r n i S=some ds[i]?:=by
 simp only [a7r,e]
theorem R1 (ns:List Int):n9 (ns.map D.int)=some ns:=by
 induction ns with
 | nil=>rfl
 | cons n ns ih=>simp only [List.map_cons,n9,ih,Option.map_some]
theorem f9 {α β:Type} {f:α->β} {l:List α} {i:Nat} {a:α} (h:l[i]?=some a):(l.map f)[i]?=some (f a):=by rw [List.getElem?_map,h];rfl
theorem b2n (x:Int):∀ ns:List Int,((ns.map PyData.int).any λy=>PyData.eqv y (.int x))=decide (x∈ns)
 | []=>by simp
 | y :: ns=>by
  simp only [List.map_cons,List.any_cons,b2n x ns,PyData.eqv]
  rw [Bool.eq_iff_iff,Bool.or_eq_true,decide_eq_true_eq,decide_eq_true_eq,List.mem_cons]
  constructor
  ·rintro (a | a)
   ·exact .inl (eq_of_beq a).symm
   ·exact .inr a
  ·rintro (a | a)
   ·exact .inl (by rw [a];exact beq_self_eq_true _)
   ·exact .inr a
theorem b55 (x:Int) (ns:List Int) (S:Sto):d5 .In (.int x) (.tup (ns.map D.int)) S=.ok (.bl (decide (x∈ns))) S:=by
 have e:i9 64 S (.tup (ns.map D.int))=some (.tuple (ns.map PyData.int)):=by
  show (f8 (i9 63 S) (ns.map D.int)).map PyData.tuple=_
  rw [R6 62 S ns];rfl
 show inD false (.int x) (.tup (ns.map D.int)) S=_
 unfold inD
 rw [e]
 show b4r false (.int x) (ns.map PyData.int) S=_
 unfold b4r
 have hd:PyData.depth (.int x)=0:=by simp [PyData.depth]
 rw [if_pos ⟨rfl,a0j ns,by rw [hd];omega⟩,b2n]
 rfl
theorem b4q {ds:List D} {d:D} (S:Sto) (h:ds.getLast?=some d):ixD (.tup ds) (.int (-1)) S=.ok d S:=by
 have hl:ds≠[]:=λz=>by subst z;cases h
 have hp:0<ds.length:=List.length_pos_iff.mpr hl
 show V0 (atI ds (-1)) S=_
 have:atI ds (-1)=some d:=by
  unfold atI ixN
  rw [if_neg (by omega),if_pos (by omega)]
  show ds[((-1:Int)+(ds.length:Int)).toNat]?=some d
  rw [show ((-1:Int)+(ds.length:Int)).toNat=ds.length-1 by omega,<- List.getLast?_eq_getElem?]
  exact h
 rw [this];rfl
def Ex (S S':Sto):Prop:=∃ T,S'=S++T
theorem Ex.refl (S:Sto):Ex S S:=⟨[],by simp⟩
theorem Ex.trans {a b c:Sto} (h:Ex a b) (k:Ex b c):Ex a c:=by
 obtain ⟨t,rfl⟩:=h
 obtain ⟨u,rfl⟩:=k
 exact ⟨t++u,by simp⟩
theorem Ex.at {S S':Sto} (h:Ex S S') {q:Nat} (hq:q<S.length):S'[q]?=S[q]?:=by
 obtain ⟨t,rfl⟩:=h
 rw [List.getElem?_append_left hq]
theorem a2k {S:Sto} {n:Nat} {ns:List Int} (e:S[n]?=some (.lst (ns.map D.int))) (hl:ns.length<64):G4 (.ref n) S=.ok (.lst ((srt ns).map D.int)) S:=by
 show bind (p8 (.ref n)) _ S=_
 rw [a7 (show p8 (.ref n) S=.ok (ns.map D.int) S by simp only [p8,lstOf,e]),R1]
 show (if ns.length<64 then ret (D.lst ((srt ns).map D.int)) else bad) S=_
 rw [if_pos hl];rfl
theorem c3i {S:Sto} {n:Nat} {es:List D} {ys:List D} (e:S[n]?=some (.lst es)) (hl:es.length+ys.length<=sizeLine):extD (.ref n) [.tup ys] S=.ok .non (S.set n (.lst (es++ys))):=by
 simp only [extD,e,if_pos hl]
theorem a5x {S:Sto} {n:Nat} {es:List D} (e:S[n]?=some (.lst es)):lstOf (.ref n) S=.ok es S:=by simp only [lstOf,e]
def Tk (p:Nat) (S S':Sto):Prop:=S.length<=S'.length/\∀ q,q<S.length->q≠p->S'[q]?=S[q]?
theorem a4l {T R S:Sto} {p:Nat} (hp:p<T.length) (hl:S.length=(T++R).length) (h:∀ q,q≠p->S[q]?=(T++R)[q]?):∃ T',S=T'++R/\T'.length=T.length/\(∀ q,q≠p->T'[q]?=T[q]?)/\T'[p]?=S[p]?:=by
 rw [List.length_append] at hl
 have hlen:(S.take T.length).length=T.length:=by rw [List.length_take];omega
 refine ⟨S.take T.length,?_,hlen,λq hq=>?_,?_⟩
 ·apply List.ext_getElem?
  intro i
  by_cases hi:i<T.length
  ·rw [List.getElem?_append_left (by rw [hlen];exact hi),List.getElem?_take_of_lt hi]
  ·rw [h i (by omega),List.getElem?_append_right (by omega),List.getElem?_append_right (by omega),hlen]
 ·by_cases hi:q<T.length
  ·rw [List.getElem?_take_of_lt hi,h q hq,List.getElem?_append_left hi]
  ·rw [List.getElem?_eq_none (by omega),List.getElem?_eq_none (by omega)]
 ·rw [List.getElem?_take_of_lt hp]
theorem b7c {S:Sto} {n j:Nat} {es:List D} {y:D} (e:S[n]?=some (.lst es)) (h:es[j]?=some y) (hs:j<1000):popD (.ref n) [.int (j:Int)] S=.ok y (S.set n (.lst (es.eraseIdx j))):=by
 have hj:=(List.getElem?_eq_some_iff.mp h).1
 have c:-(2 ^ 63)<=(j:Int)/\(j:Int)<2 ^ 63:=⟨Int.le_trans (by decide) (Int.natCast_nonneg j),Int.lt_trans (show (j:Int)<1000 by omega) (by decide)⟩
 have i:ixN es.length (j:Int)=some j:=by
  unfold ixN
  rw [if_pos (by omega)]
  simp only [Int.toNat_natCast]
  rw [if_pos (by omega)]
 simp only [popD,e,if_pos c,i,h]
theorem O9 {α β:Type} (f:α->β):∀ (l:List α) (i:Nat),(l.map f).eraseIdx i=(l.eraseIdx i).map f
 | [],_=>rfl
 | _ :: _,0=>rfl
 | a :: l,i+1=>by simp only [List.map_cons,List.eraseIdx_cons_succ,O9 f l i]
theorem b6n (ds:List D) (S:Sto):n8 (.lst ds) S=.ok (.int ds.length) S:=rfl
theorem b69 {S:Sto} {n:Nat} {es:List D} (e:S[n]?=some (.lst es)):n8 (.ref n) S=.ok (.int es.length) S:=by simp only [n8,e]
theorem b6x {S:Sto} {n:Nat} {es:List D} {y:D} (e:S[n]?=some (.lst es)) (hl:es.length<sizeLine):Q6 (.ref n) [y] S=.ok .non (S.set n (.lst (es++[y]))):=by simp only [Q6,e,if_pos hl]
def Xn {α:Type} (m:M α) (S:Sto) (Q:Nat->Sto->Prop):Prop:=∃ n S',m S=.exn n S'/\Q n S'
theorem Xn.bind {α β:Type} {m:M α} {k:α->M β} {S:Sto} {Q:Nat->Sto->Prop} (h:Xn m S Q):Xn (L3.bind m k) S Q:=by
 obtain ⟨n,S',e,q⟩:=h
 exact ⟨n,S',by unfold L3.bind;rw [e],q⟩
theorem Xn.ok {α β:Type} {m:M α} {k:α->M β} {S:Sto} {Q:Nat->Sto->Prop} (h:Ok m S λa S1=>Xn (k a) S1 Q):Xn (L3.bind m k) S Q:=by
 obtain ⟨a,S1,e,n,S',e2,q⟩:=h
 exact ⟨n,S',by unfold L3.bind;rw [e];exact e2,q⟩
theorem Xn.cg {α:Type} {m m':M α} {S:Sto} {Q:Nat->Sto->Prop} (e:m=m') (h:Xn m' S Q):Xn m S Q:=e▸h
theorem Ok.nx {α:Type} {m:M α} {S:Sto} {Q:α->Sto->Prop} (h:Ok m S Q):Ok (L3.nx m) S Q:=by
 obtain ⟨a,S1,e,q⟩:=h
 exact ⟨a,S1,by unfold L3.nx;rw [e],q⟩
theorem Ok.try_ {g h:L3.Env->M Fl} {sub:Nat->Bool} {ie:Option Nat} {ρ:L3.Env} {S:Sto} {Q:Fl->Sto->Prop} (k:Ok (g ρ) S Q):Ok (T6 g sub ie h ρ) S Q:=by
 obtain ⟨a,S1,e,q⟩:=k
 exact ⟨a,S1,by unfold T6;rw [e],q⟩
theorem Ok.caught {g h:L3.Env->M Fl} {sub:Nat->Bool} {ie:Option Nat} {ρ:L3.Env} {S:Sto} {Q:Fl->Sto->Prop} (k:Xn (g ρ) S λn S1=>∃ c fs,S1[n]?=some (.exc c fs)/\sub c=true/\Ok (h (a8t ie n ρ)) S1 λfl S2=>Q (a6o ie fl) S2):Ok (T6 g sub ie h ρ) S Q:=by
 obtain ⟨n,S1,e,c,fs,e1,hs,ok⟩:=k
 obtain ⟨fl,S2,e2,q⟩:=ok
 refine ⟨a6o ie fl,S2,?_,q⟩
 unfold T6
 rw [e]
 simp only [e1,hs,if_true]
 unfold L3.bind L3.nx
 rw [e2]
 rfl
theorem a8c {c:Nat} {fs:List Str} {ds:List D} {S:Sto} (h1:ds.length=fs.length) (h2:ds.all (K6 S)=true):Xn (L3.bind (Q7 c fs ds) K3) S λn S'=>n=S.length/\S'=S++[.exc c (fs.zip ds)]:=by
 refine Xn.ok ⟨_,_,b71 h1 h2,S.length,S++[.exc c (fs.zip ds)],?_,rfl,rfl⟩
 simp [K3]
noncomputable def nxt {α:Type} (q:EvK) (lc:Lc) (sts:List Stmt) (k:Fl->M α):Fl->M α:=λfl=>match fl with
 | .nx ρ'=>p7 q lc sts ρ' k
 | fl=>k fl
section
variable {α:Type} {q:EvK} {lc:Lc} {st:Stmt} {sts:List Stmt} {ρ:L3.Env} {k:Fl->M α} {S:Sto} {Q:α->Sto->Prop} {P:Nat->Sto->Prop}
theorem Ok.first (h:Ok (q.s lc st ρ (nxt q lc sts k)) S Q):Ok (p7 q lc (st :: sts) ρ k) S Q:=h
theorem Ok.nxt (h:Ok (q.s lc st ρ (L3.nxt q lc sts k)) S Q):Ok (L3.nxt q lc (st :: sts) k (.nx ρ)) S Q:=h
theorem Xn.first (h:Xn (q.s lc st ρ (nxt q lc sts k)) S P):Xn (p7 q lc (st :: sts) ρ k) S P:=h
theorem Xn.nxt (h:Xn (q.s lc st ρ (L3.nxt q lc sts k)) S P):Xn (L3.nxt q lc (st :: sts) k (.nx ρ)) S P:=h
theorem Ok.pos {c:Prop} [Decidable c] {a b:M α} (h:c) (k:Ok a S Q):Ok (if c then a else b) S Q:=by rw [if_pos h];exact k
theorem Ok.neg {c:Prop} [Decidable c] {a b:M α} (h:¬ c) (k:Ok b S Q):Ok (if c then a else b) S Q:=by rw [if_neg h];exact k
theorem Xn.pos {c:Prop} [Decidable c] {a b:M α} (h:c) (k:Xn a S P):Xn (if c then a else b) S P:=by rw [if_pos h];exact k
theorem Xn.neg {c:Prop} [Decidable c] {a b:M α} (h:¬ c) (k:Xn b S P):Xn (if c then a else b) S P:=by rw [if_neg h];exact k
end
noncomputable def fin {α:Type} (κ:Fl->M α):Fl->M α:=λfl=>match fl with
 | .nx ρ=>κ (.nx ρ)
 | fl=>κ fl
theorem Xn.eq {α β:Type} {m:M α} {k:α->M β} {S S1:Sto} {a:α} {Q:Nat->Sto->Prop} (e:m S=.ok a S1) (h:Xn (k a) S1 Q):Xn (L3.bind m k) S Q:=Xn.ok ⟨a,S1,e,h⟩
theorem Xn.mono {α:Type} {m:M α} {S:Sto} {Q Q':Nat->Sto->Prop} (h:Xn m S Q) (i:∀ n S1,Q n S1->Q' n S1):Xn m S Q':=by
 obtain ⟨n,S1,e,q⟩:=h
 exact ⟨n,S1,e,i _ _ q⟩
theorem b9s {r:Nat} (h:r<100):Pln 0 (.int (r:Int)):=by
 show ((r:Int)).natAbs<=P2 0
 have:P2 0≥100:=by decide +kernel
 omega
theorem a54 {n:Nat}:∀ {ds:List D},(∀ d∈ds,sz d<=n)->szs ds<=(n+2) * ds.length
 | [],_=>Nat.le_refl _
 | d :: ds,h=>by
  have h1:=h d (by simp)
  have h2:=a54 (ds:=ds) λx hx=>h x (by simp [hx])
  show sz d+2+szs ds<=(n+2) * (ds.length+1)
  rw [Nat.mul_add]
  omega
theorem a0g {S:Sto} {n i:Nat} {ds:List D} {v:D} (e:S[n]?=some (.lst ds)) (h:i<ds.length):v3 (.ref n) (.int (i:Int)) v S=.ok .non (S.set n (.lst (ds.set i v))):=by
 have ix:ixN ds.length (i:Int)=some i:=by
  unfold ixN
  rw [if_pos (by omega)]
  simp only [Int.toNat_natCast]
  rw [if_pos (by omega)]
 simp only [v3,e,ix]
theorem b65 {S:Sto} {n:Nat} {ds:List D} (e:S[n]?=some (.lst ds)):f7 (.ref n) S=.ok (.tup ds) S:=a7 (by simp only [p8,lstOf,e])
theorem b1r (ns:List Int):∃ ms:List Int,A7 (ns.map D.int) none (some 63)=ms.map D.int:=⟨(ns.drop (HT.sIx ns.length 0 none)).take (HT.sIx ns.length ns.length (some 63)-HT.sIx ns.length 0 none),by simp [A7,List.map_drop,List.map_take]⟩
theorem R4 (n:Nat) (S:Sto):a0s 0 n n S=some none:=by
 show some (if n<n then _ else none)=some none
 rw [if_neg (Nat.lt_irrefl _)]
theorem a1n {n i:Nat} (h:i<n) (S:Sto):a0s 0 n i S=some (some (.int (i:Int))):=by rw [a3n,f9 (List.getElem?_range h)]
structure Sml (n N:Nat) (d:D):Prop where
 pl:Pln 0 d
 dp:dp d<=n
 sz:sz d<=N
def Smls (n N:Nat) (ds:List D):Prop:=∀ d∈ds,Sml n N d
theorem Smls.nil {n N:Nat}:Smls n N []:=λd h=>by cases h
theorem Smls.cons {n N:Nat} {d:D} {ds:List D} (h:Sml n N d) (hs:Smls n N ds):Smls n N (d :: ds):=λx hx=>by
 rcases List.mem_cons.mp hx with z | z
 ·rw [z];exact h
 ·exact hs x z
theorem Smls.map {α:Type} {n N:Nat} {f:α->D} {l:List α} (h:∀ a∈l,Sml n N (f a)):Smls n N (l.map f):=λx hx=>by
 obtain ⟨a,ha,rfl⟩:=List.mem_map.mp hx
 exact h a ha
theorem Sml.mono {n N n' N':Nat} {d:D} (h:Sml n N d) (h1:n<=n') (h2:N<=N'):Sml n' N' d:=⟨h.pl,Nat.le_trans h.dp h1,Nat.le_trans h.sz h2⟩
theorem Sml.up {n N n' N':Nat} {d:D} (h:Sml n N d) (h1:n<=n':=by decide) (h2:N<=N':=by decide):Sml n' N' d:=h.mono h1 h2
theorem Sml.tup {n N m:Nat} {ds:List D} (h:Smls n N ds) (hl:ds.length<=m):Sml (n+1) ((N+2) * m+3) (.tup ds):=by
 have s:=a54 (n:=N) λd hd=>(h d hd).sz
 have d1:=b1q (n:=n) λd hd=>(h d hd).dp
 refine ⟨Plns.of λd hd=>(h d hd).pl,by show dps ds+1<=n+1;omega,?_⟩
 show szs ds+3<=_
 have:=Nat.mul_le_mul_left (N+2) hl
 omega
theorem Sml.nat {n N i:Nat} (h:i<100) (hN:60<=N:=by decide):Sml n N (.int (i:Int)):=⟨b9s h,Nat.zero_le _,hN⟩
theorem Sml.w {n N:Nat} {d:D} (h:smB n N d=true:=by decide +kernel):Sml n N d:=⟨(a3q h).1,(a3q h).2.1,(a3q h).2.2⟩
theorem Sml.any {n N:Nat} {d:D} (h:Sml n N d) (hn:n<=43):Any 40 N d:=⟨h.pl.ups,by have:=h.dp;omega,h.sz⟩
theorem Sml.repr {n N:Nat} {d:D} (h:Sml n N d) (hn:n<=43:=by decide) (hN:N<=10000000:=by decide) (S:Sto):B5 d S=.ok (.str (py d).shown) S:=b1h (h.any hn) (by omega) hN S
theorem b6k (a b:Int) (S:Sto):d5 .Eq (.int a) (.int b) S=.ok (.bl (decide (a=b))) S:=rfl
theorem b09 (a b:Int) (S:Sto):d5 .LtE (.int a) (.int b) S=.ok (.bl (decide (a<=b))) S:=rfl
theorem c2h (a b:Int) (S:Sto):d5 .Lt (.int a) (.int b) S=.ok (.bl (decide (a<b))) S:=rfl
theorem O7 (a b:Nat) (S:Sto):E2 (.int (a:Int)) (.int (b:Int)) S=.ok (.int ((a+b:Nat):Int)) S:=by
 show R.ok (D.int ((a:Int)+(b:Int))) S=_
 rw [show ((a:Int)+(b:Int))=((a+b:Nat):Int) by omega]
theorem a32 {a b:Nat} (h:b<=a) (S:Sto):a0u (.int (a:Int)) (.int (b:Int)) S=.ok (.int ((a-b:Nat):Int)) S:=by
 show R.ok (D.int ((a:Int)-(b:Int))) S=_
 rw [show ((a:Int)-(b:Int))=((a-b:Nat):Int) by omega]
theorem nx_bind {α β:Type} {m:M α} {k:α->M β} {S:Sto} {Q:β->Sto->Prop} (h:Ok m S λa S1=>Ok (k a) S1 Q):Ok (L3.bind (L3.nx m) k) S Q:=Ok.bind (Ok.nx h)
theorem o8 {α:Type} {m:M α} {S:Sto} {a:α} (h:Ok m S λd S'=>d=a/\S'=S):m S=.ok a S:=by
 obtain ⟨d,S',e,rfl,rfl⟩:=h
 exact e
theorem T7:∀ ns:List Int,n9 (ns.map D.int)=some ns
 | []=>rfl
 | n :: ns=>by
  have:=T7 ns
  simp only [List.map_cons,n9] at *
  simp [f8] at *
  first | exact this | simp [this]
theorem b0w {ns:List Int} (h1:ns.length<4000) (h2:(D2 ns).length<64) (S:Sto):G6 (.lst (ns.map D.int)) S=.ok (.lst ((srt (D2 ns)).map D.int)) S:=by
 unfold G6
 rw [a7 (show p8 (.lst (ns.map D.int)) S=.ok (ns.map D.int) S from rfl)]
 simp only [T7,if_pos (And.intro h1 h2)]
 rfl
noncomputable def a1e (p m cell:D):M D:=
 bind (V4 cell (.int 998244353)) λa1=>bind (ixD p (.int 3)) λt=>bind (C5 (.int 7919) t) λb1=>bind (E2 a1 b1) λc1=>bind (C5 c1 (.int 48271)) λc2=>bind (V4 c2 (.int 2147483647)) λmixed=>
 bind (Q1 mixed (.int 13)) λe1=>bind (ixD p (.int 3)) λt=>bind (C5 (.int 104729) t) λf1=>bind (ixD p (.int 3)) λt2=>bind (C5 f1 t2) λf2=>bind (E2 e1 f2) λe2=>bind (C5 e2 (.int 69621)) λe3=>bind (V4 e3 (.int 2147483629)) λmixed2=>bind (Q1 mixed2 (.int 64)) λg1=>bind (V4 g1 m) λg2=>ret g2
noncomputable def a0i (p m cell:D) (z:Bool):M D:=
 if z=true then bind (Q1 cell m) λv=>bind (v3 p (.int 2) v) λ_=>bind (V4 cell m) λd=>ret d
 else a1e p m cell
noncomputable def D9 (p m cell:D):M D:=
 bind (ixD p (.int 1)) λx=>bind (E2 x (.int 1)) λv=>bind (v3 p (.int 1) v) λ_=>
 bind (a45 (.int 10) (.int 18)) λy=>bind (d5 .GtE cell y) λd=>bind (asB d) λc=>if c=true then (bind (ixD p (.int 1)) λa=>bind (ixD p (.int 0)) λcs=>bind (n8 cs) λn=>bind (d5 .LtE a n) λd=>bind (asB d) λz=>a0i p m cell z) else a0i p m cell false
noncomputable def a6p (p m:D):M D:=
 bind (ixD p (.int 3)) λx=>bind (E2 x (.int 1)) λt=>bind (v3 p (.int 3) t) λ_=>
 bind (ixD p (.int 2)) λx=>bind (d5 .Gt x (.int 0)) λd=>bind (asB d) λz=>if z=true then
  bind (ixD p (.int 2)) λx=>bind (V4 x m) λf=>bind (ixD p (.int 2)) λx=>bind (Q1 x m) λv=>bind (v3 p (.int 2) v) λ_=>ret f
 else bind (ixD p (.int 0)) λc=>bind (d5 .NotEq c (.lst [])) λd=>bind (asB d) λz=>if z=true then
   bind (ixD p (.int 0)) λc=>bind (ixD p (.int 1)) λi=>bind (ixD p (.int 0)) λc2=>bind (n8 c2) λn=>bind (V4 i n) λj=>bind (ixD c j) λcell=>D9 p m cell
  else D9 p m (.int 3)
noncomputable def d9 (ns:List Int) (a l t:Int):O:=.lst [.lst (ns.map D.int),.int a,.int l,.int t]
section
variable {S:Sto} {p:Nat} {ns:List Int} {a l t:Int} (h:S[p]?=some (d9 ns a l t))
include h
theorem t_0:ixD (.ref p) (.int 0) S=.ok (.lst (ns.map D.int)) S:=by simp only [ixD,h,d9];rfl
theorem t_1:ixD (.ref p) (.int 1) S=.ok (.int a) S:=by simp only [ixD,h,d9];rfl
theorem t_2:ixD (.ref p) (.int 2) S=.ok (.int l) S:=by simp only [ixD,h,d9];rfl
theorem t_3:ixD (.ref p) (.int 3) S=.ok (.int t) S:=by simp only [ixD,h,d9];rfl
theorem c59 (v:Int):v3 (.ref p) (.int 1) (.int v) S=.ok .non (S.set p (d9 ns v l t)):=by simp only [v3,h,d9];rfl
theorem c35 (v:Int):v3 (.ref p) (.int 2) (.int v) S=.ok .non (S.set p (d9 ns a v t)):=by simp only [v3,h,d9];rfl
theorem c5z (v:Int):v3 (.ref p) (.int 3) (.int v) S=.ok .non (S.set p (d9 ns a l v)):=by simp only [v3,h,d9];rfl
end
theorem b3d (ns:List Int) (S:Sto):d5 .NotEq (.lst (ns.map D.int)) (.lst []) S=.ok (.bl (!ns.isEmpty)) S:=by
 show eqP true (.lst (ns.map D.int)) (.lst []) S=_
 have e:i9 64 S (.lst (ns.map D.int))=some (.list (ns.map PyData.int)):=by
  show (f8 (i9 63 S) (ns.map D.int)).map PyData.list=_
  rw [R6 62 S ns];rfl
 unfold eqP
 rw [e]
 show (if PyData.canLay0 (.list (ns.map PyData.int))=true/\PyData.canLay0 (.list [])=true/\min (PyData.depth (.list (ns.map PyData.int))) (PyData.depth (.list []))<=60 then ret (D.bl (!PyData.eqv (.list (ns.map PyData.int)) (.list []))) else bad) S=_
 have hd:PyData.depth (.list [])<=60:=by simp [PyData.depth,PyData.depthAll]
 rw [if_pos ⟨by simp only [PyData.canLay0];exact a0j ns,rfl,by omega⟩]
 cases ns with
 | nil=>rfl
 | cons n ns=>rfl
theorem a4h {S:Sto} {p:Nat} {ns:List Int} {a l t m c:Int} (h:S[p]?=some (d9 ns a l t)) (hm:0<m) (ht:0<=t) (htb:t<2000000):∃ r:Int,a1e (.ref p) (.int m) (.int c) S=.ok (.int r) S/\0<=r/\r<m:=by
 unfold a1e
 rw [a7 (T1 (by decide) S),a7 (t_3 h),a7 (a3b (.inl ⟨by decide,by decide⟩) S),a7 (a61 _ _ S),a7 (a3b (.inr ⟨by decide,by decide⟩) S),a7 (T1 (by decide) S),a7 (a1h (by decide) (by decide) S),
  a7 (t_3 h),a7 (a3b (.inl ⟨by decide,by decide⟩) S),a7 (t_3 h),a7 (a3b (.inr ⟨by omega,by omega⟩) S),a7 (a61 _ _ S),a7 (a3b (.inr ⟨by decide,by decide⟩) S),a7 (T1 (by decide) S),a7 (a1h (by decide) (by decide) S),a7 (T1 hm S)]
 exact ⟨_,rfl,Int.emod_nonneg _ (Int.ne_of_gt hm),Int.emod_lt_of_pos _ hm⟩
theorem a2y {S:Sto} {p:Nat} {ns:List Int} {a l t m c:Int} (h:S[p]?=some (d9 ns a l t)) (ha:0<=a) (hl:0<=l) (ht:0<=t) (htb:t<2000000) (hm:0<m) (hm2:m<1073741824) :
  ∃ r l',D9 (.ref p) (.int m) (.int c) S=.ok (.int r) (S.set p (d9 ns (a+1) l' t))/\0<=r/\r<m/\0<=l':=by
 unfold D9
 rw [a7 (t_1 h),a7 (a61 _ _ S),a7 (c59 h _)]
 have h1:=b0e (o':=d9 ns (a+1) l t) h
 have hp:a45 (.int 10) (.int 18) (S.set p (d9 ns (a+1) l t))=.ok (.int 1000000000000000000) (S.set p (d9 ns (a+1) l t)):=rfl
 rw [a7 hp]
 have hc:d5 .GtE (.int c) (.int 1000000000000000000) (S.set p (d9 ns (a+1) l t))=.ok (.bl (decide (1000000000000000000<=c))) (S.set p (d9 ns (a+1) l t)):=rfl
 rw [a7 hc,a7 (show asB _ _=_ from rfl)]
 have fin:∀ z:Bool,(z=true->1000000000000000000<=c)->∃ r l',a0i (.ref p) (.int m) (.int c) z (S.set p (d9 ns (a+1) l t))=.ok (.int r) (S.set p (d9 ns (a+1) l' t))/\0<=r/\r<m/\0<=l':=λz hz=>by
  unfold a0i
  cases z with
  | true=>
   rw [if_pos rfl,a7 (a1h hm hm2 _),a7 (c35 h1 _),a7 (T1 hm _),set_set]
   exact ⟨_,c / m,rfl,Int.emod_nonneg _ (Int.ne_of_gt hm),Int.emod_lt_of_pos _ hm,Int.ediv_nonneg (Int.le_trans (by decide) (hz rfl)) (Int.le_of_lt hm)⟩
  | false=>
   rw [if_neg Bool.false_ne_true]
   obtain ⟨r,e,r1,r2⟩:=a4h (c:=c) h1 hm ht htb
   exact ⟨r,l,e,r1,r2,hl⟩
 by_cases hz:(1000000000000000000:Int)<=c
 ·rw [decide_eq_true hz,if_pos rfl,a7 (t_1 h1),a7 (t_0 h1),a7 (a23 ns _)]
  have hc2:d5 .LtE (.int (a+1)) (.int (ns.length:Int)) (S.set p (d9 ns (a+1) l t))=.ok (.bl (decide (a+1<=(ns.length:Int)))) (S.set p (d9 ns (a+1) l t)):=rfl
  rw [a7 hc2,a7 (show asB _ _=_ from rfl)]
  exact fin _ λ_=>hz
 ·rw [decide_eq_false hz,if_neg Bool.false_ne_true]
  exact fin _ λz=>by cases z
theorem a8r {S:Sto} {p:Nat} {ns:List Int} {a l t m:Int} (h:S[p]?=some (d9 ns a l t)) (ha:0<=a) (hl:0<=l) (ht:0<=t) (htb:t<1000000) (hm:0<m) (hm2:m<1073741824) :
  ∃ r a' l',a6p (.ref p) (.int m) S=.ok (.int r) (S.set p (d9 ns a' l' (t+1)))/\0<=r/\r<m/\0<=a'/\0<=l':=by
 unfold a6p
 rw [a7 (t_3 h),a7 (a61 _ _ S),a7 (c5z h _)]
 have h1:=b0e (o':=d9 ns a l (t+1)) h
 have hc:d5 .Gt (.int l) (.int 0) (S.set p (d9 ns a l (t+1)))=.ok (.bl (decide (0<l))) (S.set p (d9 ns a l (t+1))):=rfl
 rw [a7 (t_2 h1),a7 hc,a7 (show asB _ _=_ from rfl)]
 by_cases hz:0<l
 ·rw [decide_eq_true hz,if_pos rfl,a7 (t_2 h1),a7 (T1 hm _),a7 (t_2 h1),a7 (a1h hm hm2 _),a7 (c35 h1 _),set_set]
  exact ⟨_,a,l / m,rfl,Int.emod_nonneg _ (Int.ne_of_gt hm),Int.emod_lt_of_pos _ hm,ha,Int.ediv_nonneg hl (Int.le_of_lt hm)⟩
 ·rw [decide_eq_false hz,if_neg Bool.false_ne_true,a7 (t_0 h1),a7 (b3d ns _),a7 (show asB _ _=_ from rfl)]
  have fin:∀ c:Int,∃ r a' l',D9 (.ref p) (.int m) (.int c) (S.set p (d9 ns a l (t+1)))=.ok (.int r) (S.set p (d9 ns a' l' (t+1)))/\0<=r/\r<m/\0<=a'/\0<=l':=λc=>by
   obtain ⟨r,l',e,q1,q2,q3⟩:=a2y (c:=c) h1 ha hl (by omega) (by omega) hm hm2
   rw [set_set] at e
   exact ⟨r,a+1,l',e,q1,q2,by omega,q3⟩
  cases ns with
  | nil=>
   rw [show (!([]:List Int).isEmpty)=false from rfl,if_neg Bool.false_ne_true]
   exact fin 3
  | cons n0 ns0=>
   rw [show (!(n0 :: ns0).isEmpty)=true from rfl,if_pos rfl,a7 (t_0 h1),a7 (t_1 h1),a7 (t_0 h1),a7 (a23 _ _)]
   have hn:0<((n0 :: ns0).length:Int):=by simp only [List.length_cons];omega
   rw [a7 (T1 hn _)]
   obtain ⟨z,e⟩:=b5y (ns:=n0 :: ns0) ha (by omega) (S.set p (d9 (n0 :: ns0) a l (t+1)))
   rw [a7 e]
   exact fin z
def Ft (ns:List Int) (p N:Nat) (S:Sto):Prop:=∃ a l t:Int,S[p]?=some (d9 ns a l t)/\0<=a/\0<=l/\0<=t/\t+N<1000000
theorem Ft.less {ns:List Int} {p N K:Nat} {S:Sto} (h:Ft ns p N S) (hm:K<=N):Ft ns p K S:=by
 obtain ⟨a,l,t,e,h1,h2,h3,h4⟩:=h
 exact ⟨a,l,t,e,h1,h2,h3,by omega⟩
theorem Ft.keep {ns:List Int} {p N:Nat} {S S':Sto} (h:Ft ns p N S) (e:S'[p]?=S[p]?):Ft ns p N S':=by
 obtain ⟨a,l,t,e1,h1⟩:=h
 exact ⟨a,l,t,by rw [e];exact e1,h1⟩
theorem b1d {ns:List Int} {p N m:Nat} {S:Sto} (h:Ft ns p (N+1) S) (hm:0<m) (hm2:m<1000000):Ok (a6p (.ref p) (.int (m:Int))) S λd S'=>∃ r:Nat,d=.int (r:Int)/\r<m/\Ft ns p N S'/\S'.length=S.length/\∀ q,q≠p->S'[q]?=S[q]?:=by
 obtain ⟨a,l,t,e,h1,h2,h3,h4⟩:=h
 obtain ⟨r,a',l',e1,r0,r1,ha,hl⟩:=a8r (m:=(m:Int)) e h1 h2 h3 (by omega) (by omega) (by omega)
 obtain ⟨r,rfl⟩:=Int.eq_ofNat_of_zero_le r0
 refine ⟨_,_,e1,r,rfl,by omega,⟨a',l',t+1,?_,ha,hl,by omega,by omega⟩,by simp,λq hq=>?_⟩
 ·rw [List.getElem?_set_self (List.getElem?_eq_some_iff.mp e).1]
 ·rw [List.getElem?_set_ne (Ne.symm hq)]
end L3
namespace L3.Rk
open PySem PySem.Spec PyProof.Rows L2
theorem a00 {l:List Int} (nd:l.Nodup):(srt l).Pairwise (· < ·):=by
 have u:=a0t l
 have n:(srt l).Pairwise (·≠·):=(i7 l).nodup_iff.mpr nd
 exact (u.and n).imp λ{a b} ⟨h1,h2⟩=>by omega
end L3.Rk
namespace L3.Lev
open PySem PySem.Spec PyProof.Rows L2
inductive Hd where
 | out | look (l:Nat) | put (l:Nat) | holds (v:List Nat)
noncomputable def nD (n:Nat):D:=.int (n:Int)
noncomputable def Hd.d:Hd->D
 | .out=>.tup [.str "out"]
 | .look l=>.tup [.str "look",.int (l:Int)]
 | .put l=>.tup [.str "put",.int (l:Int)]
 | .holds v=>.tup [.str "holds",.tup (v.map nD)]
noncomputable def bxD:Option Nat->D
 | none=>.non
 | some b=>.int (b:Int)
noncomputable def boxOf:Hd->Option Nat
 | .out=>none
 | .look l=>some l
 | .put l=>some (l+1)
 | .holds v=>some v.length
noncomputable def upB (bx:List (Option Nat)) (m i:Nat):Bool:=match bx[i]? with
 | some (some b)=>decide (b<=m)
 | _=>false
noncomputable def ups (bx:List (Option Nat)) (m:Nat):List Nat:=(List.range bx.length).filter (upB bx m)
noncomputable def hat (hs:List Hd) (i:Nat):Hd:=hs.getD i .out
noncomputable def bxB (l:Nat) (h:Hd):Bool:=match boxOf h with
 | some b=>decide (b<=l)
 | none=>false
noncomputable def efB (l:Nat):Hd->Bool
 | .out=>false
 | .look e=>decide (e<=l)
 | .put e=>decide (e<=l)
 | .holds v=>decide (v.length<=l)
noncomputable def nE (hs:List Hd) (l:Nat):Nat:=(List.range hs.length).countP λi=>efB l (hat hs i)
theorem b0u {hs:List Hd} {i:Nat} {h:Hd} (e:hs[i]?=some h):hat hs i=h:=by unfold hat;rw [List.getD_eq_getElem?_getD,e];rfl
theorem v8 {hs:List Hd} {i:Nat} (hi:i<hs.length):hs[i]?=some (hat hs i):=by
 have e:=List.getElem?_eq_getElem hi
 rw [b0u e,e]
theorem K7 {hs:List Hd} {i:Nat} (hi:i<hs.length) (h:Hd) (j:Nat):hat (hs.set i h) j=if j=i then h else hat hs j:=by
 unfold hat
 rw [List.getD_eq_getElem?_getD,List.getD_eq_getElem?_getD,List.getElem?_set]
 by_cases q:j=i
 ·rw [if_pos q.symm,if_pos q,if_pos hi];rfl
 ·rw [if_neg (λz=>q z.symm),if_neg q]
theorem X2 (hs:List Hd) (l i:Nat):upB (hs.map boxOf) l i=bxB l (hat hs i):=by
 unfold upB hat bxB
 rw [List.getElem?_map,List.getD_eq_getElem?_getD]
 cases hs[i]? with
 | none=>rfl
 | some h=>cases h <;> rfl
theorem b66 {l:Nat} {h:Hd} (q:bxB l h=true):efB l h=true:=by
 cases h with
 | out=>cases q
 | look e=>exact q
 | put e=>
  have q:decide (e+1<=l)=true:=q
  exact decide_eq_true (by have:=of_decide_eq_true q;omega)
 | holds v=>exact q
theorem c3f {l:Nat} {h:Hd} (q:efB l h=true):bxB (l+1) h=true:=by
 cases h with
 | out=>cases q
 | look e=>exact decide_eq_true (by have:=of_decide_eq_true q;omega)
 | put e=>exact decide_eq_true (by have:=of_decide_eq_true q;omega)
 | holds v=>exact decide_eq_true (by have:=of_decide_eq_true q;omega)
theorem a33 {α:Type} {p q:α->Bool} {x:α}:∀ {v:List α},(∀ a∈v,p a=true->q a=true)->x∈v->p x=false->q x=true->v.countP p<v.countP q
 | [],_,h,_,_=>by cases h
 | a :: v,h,hx,hp,hq=>by
  have mo:=List.countP_mono_left (l:=v) (p:=p) (q:=q) λb hb=>h b (List.mem_cons_of_mem _ hb)
  rw [List.countP_cons,List.countP_cons]
  rcases List.mem_cons.mp hx with z | z
  ·subst z
   rw [hp,hq]
   simp
   omega
  ·have:=a33 (λb hb=>h b (List.mem_cons_of_mem _ hb)) z hp hq
   have ha:=h a (List.mem_cons_self ..)
   cases e:p a with
   | true=>rw [ha e];simp;omega
   | false=>rw [if_neg Bool.false_ne_true];split <;> omega
theorem S9 (hs:List Hd) (l:Nat):(ups (hs.map boxOf) l).length=(List.range hs.length).countP λi=>bxB l (hat hs i):=by
 unfold ups
 rw [<- List.countP_eq_length_filter,List.length_map]
 exact List.countP_congr λi _=>by rw [X2]
theorem a7o {bx bx':List (Option Nat)} {l:Nat} (hl:bx.length=bx'.length) (h:∀ i,i<bx.length->upB bx l i=upB bx' l i):ups bx l=ups bx' l:=by
 unfold ups
 rw [<- hl]
 exact List.filter_congr λi hi=>h i (List.mem_range.mp hi)
theorem b45 {hs:List Hd} {l i:Nat} (hi:i<hs.length) (h:bxB l (hat hs i)=true):i∈ups (hs.map boxOf) l:=List.mem_filter.mpr ⟨by rw [List.mem_range,List.length_map];exact hi,by rw [X2];exact h⟩
structure Good (hs:List Hd):Prop where
 cnt:∀ l,nE hs l<=l
 view:∀ i v,i<hs.length->hat hs i=.holds v->v=ups (hs.map boxOf) v.length
 top:∀ i b,i<hs.length->boxOf (hat hs i)=some b->b<=hs.length
noncomputable def C7 (bx:List (Option Nat)) (l:Nat):Hd:=if l<=(ups bx l).length then .holds (ups bx l) else .put (l-1)
noncomputable def d7 (hs:List Hd) (i:Nat):Hd:=match hat hs i with
 | .out=>.look hs.length
 | .put l=>.look l
 | .look l=>C7 (hs.map boxOf) l
 | .holds v=>.holds v
section
variable {hs:List Hd} (G:Good hs) {i:Nat} (hi:i<hs.length)
include G hi
theorem Good.put {h:Hd} (c:∀ l,nE (hs.set i h) l<=l) (o:∀ j v,j<hs.length->j≠i->hat hs j=.holds v->bxB v.length (hat hs i)=bxB v.length h) (w:∀ v,h=.holds v->v=ups ((hs.set i h).map boxOf) v.length) (t:∀ b,boxOf h=some b->b<=hs.length):Good (hs.set i h):=by
 refine ⟨c,λj v hj e=>?_,λj b hj e=>?_⟩
 ·rw [List.length_set] at hj
  rw [K7 hi] at e
  by_cases q:j=i
  ·rw [if_pos q] at e
   exact w v e
  ·rw [if_neg q] at e
   refine (G.view j v hj e).trans (a7o (by simp) λx hx=>?_)
   rw [X2,X2,K7 hi]
   by_cases z:x=i
   ·rw [if_pos z,z];exact o j v hj q e
   ·rw [if_neg z]
 ·rw [List.length_set] at hj ⊢
  rw [K7 hi] at e
  by_cases q:j=i
  ·rw [if_pos q] at e;exact t b e
  ·rw [if_neg q] at e;exact G.top j b hj e
omit G in
theorem a5j {h:Hd} {l:Nat} (e:efB l h=true->efB l (hat hs i)=true):nE (hs.set i h) l<=nE hs l:=by
 unfold nE
 rw [List.length_set]
 refine List.countP_mono_left λj _ q=>?_
 rw [K7 hi] at q
 by_cases z:j=i
 ·rw [if_pos z] at q;rw [z];exact e q
 ·rw [if_neg z] at q;exact q
theorem Good.look {l:Nat} (e:hat hs i=.look l):((ups (hs.map boxOf) l).length=l/\C7 (hs.map boxOf) l=.holds (ups (hs.map boxOf) l))\/((ups (hs.map boxOf) l).length<l/\2<=l/\C7 (hs.map boxOf) l=.put (l-1)):=by
 have me:i∈ups (hs.map boxOf) l:=b45 hi (by rw [e];exact decide_eq_true (Nat.le_refl _))
 have p0:=List.length_pos_of_mem me
 have le:(ups (hs.map boxOf) l).length<=l:=by
  rw [S9]
  refine Nat.le_trans (List.countP_mono_left λj _ q=>?_) (G.cnt l)
  exact b66 q
 unfold C7
 by_cases q:l<=(ups (hs.map boxOf) l).length
 ·exact .inl ⟨by omega,by rw [if_pos q]⟩
 ·exact .inr ⟨by omega,by omega,by rw [if_neg q]⟩
theorem Good.box (n:∀ v,hat hs i≠.holds v):(hs.set i (d7 hs i)).map boxOf=(match hat hs i with
  | .out=>(hs.map boxOf).set i (some hs.length)
  | .put l=>(hs.map boxOf).set i (some l)
  | _=>hs.map boxOf):=by
 unfold d7
 rw [List.map_set]
 cases e:hat hs i with
 | out=>rfl
 | put l=>rfl
 | look l=>
  have e1:(hs.map boxOf)[i]?=some (some l):=by rw [List.getElem?_map,v8 hi,e];rfl
  have fin:(hs.map boxOf).set i (some l)=hs.map boxOf:=by
   obtain ⟨h1,h2⟩:=List.getElem?_eq_some_iff.mp e1
   rw [<- h2];exact List.set_getElem_self h1
  simp only
  rcases G.look hi e with ⟨a,b⟩ | ⟨a,a2,b⟩
  ·rw [b]
   show (hs.map boxOf).set i (some (ups (hs.map boxOf) l).length)=_
   rw [a];exact fin
  ·rw [b]
   show (hs.map boxOf).set i (some (l-1+1))=_
   rw [show l-1+1=l by omega];exact fin
 | holds v=>exact absurd e (n v)
theorem Good.step:Good (hs.set i (d7 hs i)):=by
 unfold d7
 cases e:hat hs i with
 | out=>
  simp only
  refine G.put hi (λl=>?_) (λj v hj q ej=>?_) (λv z=>by cases z) (λb z=>by cases z;exact Nat.le_refl _)
  ·by_cases q:hs.length<=l
   ·refine Nat.le_trans ?_ q
    unfold nE
    rw [List.length_set]
    exact Nat.le_trans List.countP_le_length (by rw [List.length_range];exact Nat.le_refl _)
   ·exact Nat.le_trans (a5j hi λz=>absurd (of_decide_eq_true z) q) (G.cnt l)
  ·rw [e]
   symm
   refine decide_eq_false λz=>?_
   have vw:=congrArg List.length (G.view j v hj ej)
   rw [S9] at vw
   have:(List.range hs.length).countP (λx=>bxB v.length (hat hs x))<(List.range hs.length).countP (λ_=>true):=a33 (x:=i) (λ_ _ _=>rfl) (List.mem_range.mpr hi) (by rw [e];rfl) rfl
   rw [List.countP_true,List.length_range] at this
   omega
 | put l=>
  simp only
  refine G.put hi (λl'=>Nat.le_trans (a5j hi λz=>by rw [e];exact z) (G.cnt l')) (λj v hj q ej=>?_) (λv z=>by cases z) (λb z=>by
   cases z
   have:=G.top i (l+1) hi (by rw [e];rfl)
   omega)
  rw [e]
  show decide (l+1<=v.length)=decide (l<=v.length)
  by_cases z:l=v.length
  ·exfalso
   have vw:=congrArg List.length (G.view j v hj ej)
   rw [S9,<- z] at vw
   have lt:(List.range hs.length).countP (λx=>bxB l (hat hs x))<nE hs l:=a33 (x:=i) (λ_ _=>b66) (List.mem_range.mpr hi) (by rw [e];exact decide_eq_false (by omega)) (by rw [e];exact decide_eq_true (Nat.le_refl _))
   have:=G.cnt l
   omega
  ·by_cases y:l<=v.length
   ·rw [decide_eq_true y,decide_eq_true (by omega)]
   ·rw [decide_eq_false y,decide_eq_false (by omega)]
 | look l=>
  simp only
  have bq:∀ h:Hd,boxOf h=some l->(hs.set i h).map boxOf=hs.map boxOf:=λh eh=>by
   have e1:(hs.map boxOf)[i]?=some (some l):=by rw [List.getElem?_map,v8 hi,e];rfl
   rw [List.map_set,eh]
   obtain ⟨h1,h2⟩:=List.getElem?_eq_some_iff.mp e1
   rw [<- h2];exact List.set_getElem_self h1
  have tp:=G.top i l hi (by rw [e];rfl)
  rcases G.look hi e with ⟨a,b⟩ | ⟨a,a2,b⟩
  ·rw [b]
   have eb:boxOf (.holds (ups (hs.map boxOf) l))=some l:=by show some _=_;rw [a]
   refine G.put hi (λl'=>Nat.le_trans (a5j hi λz=>?_) (G.cnt l')) (λj v hj q ej=>?_) (λv z=>?_) (λb z=>?_)
   ·rw [e]
    have z:decide ((ups (hs.map boxOf) l).length<=l')=true:=z
    rw [a] at z;exact z
   ·rw [e]
    show decide (l<=v.length)=decide ((ups (hs.map boxOf) l).length<=v.length)
    rw [a]
   ·cases z
    rw [bq _ eb,a]
   ·rw [eb] at z;cases z;exact tp
  ·rw [b]
   have eb:boxOf (.put (l-1))=some l:=by show some _=_;rw [show l-1+1=l by omega]
   refine G.put hi (λl'=>?_) (λj v hj q ej=>?_) (λv z=>by cases z) (λb z=>?_)
   ·by_cases z:l'=l-1
    ·have:nE (hs.set i (.put (l-1))) l'<=(ups (hs.map boxOf) l).length:=by
      rw [S9]
      unfold nE
      rw [List.length_set]
      refine List.countP_mono_left λj _ y=>?_
      rw [K7 hi] at y
      by_cases w:j=i
      ·rw [w,e];exact decide_eq_true (Nat.le_refl _)
      ·rw [if_neg w,z] at y
       have:=c3f y
       rw [show l-1+1=l by omega] at this
       exact this
     omega
    ·refine Nat.le_trans (a5j hi λy=>?_) (G.cnt l')
     rw [e]
     have y:l-1<=l':=of_decide_eq_true y
     exact decide_eq_true (by omega)
   ·rw [e]
    show decide (l<=v.length)=decide (l-1+1<=v.length)
    rw [show l-1+1=l by omega]
   ·rw [eb] at z;cases z;exact tp
 | holds v=>
  simp only
  rw [show hs.set i (.holds v)=hs by
   obtain ⟨h1,h2⟩:=List.getElem?_eq_some_iff.mp (v8 hi)
   rw [<- e,<- h2];exact List.set_getElem_self h1]
  exact G
end
theorem Good.pos {hs:List Hd} (G:Good hs) {i:Nat} (hi:i<hs.length):(∀ l,hat hs i=.look l->1<=l)/\∀ l,hat hs i=.put l->1<=l:=by
 have z:nE hs 0=0:=by have:=G.cnt 0;omega
 have nz:efB 0 (hat hs i)≠true:=λq=>(List.countP_eq_zero.mp z) i (List.mem_range.mpr hi) q
 refine ⟨λl e=>?_,λl e=>?_⟩
 ·rw [e] at nz
  have:¬ l<=0:=λq=>nz (decide_eq_true q)
  omega
 ·rw [e] at nz
  have:¬ l<=0:=λq=>nz (decide_eq_true q)
  omega
noncomputable def a7e:Hd->Bool
 | .holds _=>true
 | _=>false
end L3.Lev
namespace L3.Wv
open PySem PySem.Spec PyProof.Rows L2 L3.Lev
noncomputable def mk (m:Nat) (f:Nat->Hd):List Hd:=(List.range m).map f
theorem b1m (m:Nat) (f:Nat->Hd):(mk m f).length=m:=by unfold mk;rw [List.length_map,List.length_range]
theorem b2v {m:Nat} (f:Nat->Hd) {h:Nat} (hh:h<m):hat (mk m f) h=f h:=b0u (f9 (List.getElem?_range hh))
theorem B3 {m:Nat} {f g:Nat->Hd} (h:∀ x,x<m->f x=g x):mk m f=mk m g:=List.map_congr_left λx hx=>h x (List.mem_range.mp hx)
theorem b7p (m:Nat) (f:Nat->Hd) (h:Nat) (x:Hd):(mk m f).set h x=mk m λy=>if y=h then x else f y:=by
 refine List.ext_getElem? λi=>?_
 unfold mk
 rw [List.getElem?_set,List.getElem?_map,List.getElem?_map,List.length_map,List.length_range]
 by_cases hi:i<m
 ·rw [List.getElem?_range hi]
  by_cases e:h=i
  ·subst e;rw [if_pos rfl,if_pos hi];simp
  ·rw [if_neg e];simp [Ne.symm e]
 ·rw [List.getElem?_eq_none (by simpa using hi)]
  by_cases e:h=i
  ·subst e;rw [if_pos rfl,if_neg hi];rfl
  ·rw [if_neg e];rfl
noncomputable def run (hs:List Hd) (ws:List Nat):List Hd:=ws.foldl (λhs h=>hs.set h (d7 hs h)) hs
theorem M7 (hs:List Hd) (a b:List Nat):run hs (a++b)=run (run hs a) b:=List.foldl_append ..
theorem c10 {m:Nat} {f:Nat->Hd} {B:Hd}:∀ (b dn:List Nat),(dn++b).Nodup->(∀ h∈b,h<m)->(∀ (pre:List Nat) (h:Nat),(∀ x∈pre,x∈dn++b)->h∈dn++b->h∉pre->d7 (mk m λx=>if x∈pre then B else f x) h=B)->run (mk m λx=>if x∈dn then B else f x) b=mk m λx=>if x∈dn++b then B else f x
 | [],dn,_,_,_=>by rw [List.append_nil];rfl
 | h :: b,dn,nd,lt,st=>by
  have e:dn++h :: b=(dn++[h])++b:=by simp
  have no:h∉dn:=λz=>by
   rw [List.nodup_append] at nd
   exact nd.2.2 h z h (List.mem_cons_self ..) rfl
  have s1:=st dn h (λx hx=>List.mem_append.mpr (.inl hx)) (List.mem_append.mpr (.inr (List.mem_cons_self ..))) no
  show run ((mk m λx=>if x∈dn then B else f x).set h (d7 (mk m λx=>if x∈dn then B else f x) h)) b=_
  rw [s1,b7p]
  have e2:(mk m λy=>if y=h then B else if y∈dn then B else f y)=mk m λx=>if x∈dn++[h] then B else f x:=B3 λx _=>by
   by_cases q:x=h
   ·subst q;simp
   ·by_cases w:x∈dn <;> simp [q,w]
  rw [e2,e,c10 b (dn++[h]) (by rw [<- e];exact nd) (λx hx=>lt x (List.mem_cons_of_mem _ hx)) λpre x h1 h2 h3=>st pre x (λy hy=>by rw [e];exact h1 y hy) (by rw [e];exact h2) h3]
section
variable {m:Nat} {E b:List Nat} {vv:Nat->List Nat} (nd:(E++b).Nodup) (lt:∀ h∈E++b,h<m) (hv:∀ h∈E,(vv h).length<=(E++b).length)
noncomputable def F (E b:List Nat) (vv:Nat->List Nat) (X:Hd) (h:Nat):Hd:=if h∈E then .holds (vv h) else if h∈b then X else .out
noncomputable def VV (m:Nat) (E b:List Nat):List Nat:=(List.range m).filter λh=>decide (h∈E++b)
include nd lt
theorem a3y:(VV m E b).length=(E++b).length:=by
 have p:(VV m E b).Perm (E++b):=(List.perm_ext_iff_of_nodup (List.nodup_range.filter _) nd).mpr λx=>by
  show x∈(List.range m).filter (λh=>decide (h∈E++b))↔_
  rw [List.mem_filter,List.mem_range,decide_eq_true_eq]
  exact ⟨λh=>h.2,λh=>⟨lt x h,h⟩⟩
 exact p.length_eq
theorem a9k {h:Nat} (hb:h∈b):h∉E:=λz=>by
 rw [List.nodup_append] at nd
 exact nd.2.2 h z h hb rfl
theorem bnd:b.Nodup:=(List.nodup_append.mp nd).2.1
theorem b5n {A B:Hd} (st:∀ (pre:List Nat) (h:Nat),(∀ x∈pre,x∈b)->h∈b->h∉pre->d7 (mk m λx=>if x∈pre then B else F E b vv A x) h=B):run (mk m (F E b vv A)) b=mk m (F E b vv B):=by
 have:=c10 (m:=m) (f:=F E b vv A) (B:=B) b [] (by rw [List.nil_append];exact bnd nd lt) (λh hh=>lt h (List.mem_append.mpr (.inr hh))) (λpre h h1 h2 h3=>st pre h (by simpa using h1) (by simpa using h2) h3)
 rw [show (mk m λx=>if x∈([]:List Nat) then B else F E b vv A x)=mk m (F E b vv A) from B3 λx _=>by simp] at this
 rw [this]
 refine B3 λx _=>?_
 rw [List.nil_append]
 by_cases q:x∈b
 ·rw [if_pos q];unfold F;rw [if_neg (a9k nd lt q),if_pos q]
 ·rw [if_neg q];unfold F;rw [if_neg q,if_neg q]
theorem Q9 {A B:Hd} {pre:List Nat} {h:Nat} (hb:h∈b) (hp:h∉pre):hat (mk m λx=>if x∈pre then B else F E b vv A x) h=A:=by
 rw [b2v _ (lt h (List.mem_append.mpr (.inr hb))),if_neg hp]
 unfold F
 rw [if_neg (a9k nd lt hb),if_pos hb]
theorem b22:run (mk m (F E b vv .out)) b=mk m (F E b vv (.look m)):=b5n nd lt λpre h _ hb hp=>by
 unfold d7
 rw [Q9 nd lt hb hp,b1m]
theorem b0v (l:Nat):run (mk m (F E b vv (.put l))) b=mk m (F E b vv (.look l)):=b5n nd lt λpre h _ hb hp=>by
 unfold d7
 rw [Q9 nd lt hb hp]
include hv
theorem a6h {l:Nat} (hl:(E++b).length<=l) (l1:1<=l) {B:Hd} (hB:bxB l B=true) {pre:List Nat} (hpre:∀ x∈pre,x∈b):ups ((mk m λx=>if x∈pre then B else F E b vv (.look l) x).map boxOf) l=VV m E b:=by
 unfold ups VV
 rw [List.length_map,b1m]
 refine List.filter_congr λx hx=>?_
 have hx:=List.mem_range.mp hx
 rw [X2,b2v _ hx]
 by_cases p:x∈pre
 ·rw [if_pos p,hB,decide_eq_true (List.mem_append.mpr (.inr (hpre x p)))]
 ·rw [if_neg p]
  unfold F
  by_cases q:x∈E
  ·rw [if_pos q,decide_eq_true (List.mem_append.mpr (.inl q))]
   exact decide_eq_true (Nat.le_trans (hv x q) hl)
  ·rw [if_neg q]
   by_cases w:x∈b
   ·rw [if_pos w,decide_eq_true (List.mem_append.mpr (.inr w))]
    exact decide_eq_true (Nat.le_refl l)
   ·rw [if_neg w,decide_eq_false λz=>(List.mem_append.mp z).elim q w];rfl
theorem a91 {l:Nat} (hl:(E++b).length<l):run (mk m (F E b vv (.look l))) b=mk m (F E b vv (.put (l-1))):=b5n nd lt λpre h hpre hb hp=>by
 have u:=a6h nd lt hv (l:=l) (B:=.put (l-1)) (by omega) (by omega) (decide_eq_true (by omega)) hpre
 unfold d7
 rw [Q9 nd lt hb hp]
 show C7 _ l=_
 unfold C7
 rw [u,a3y nd lt,if_neg (by omega)]
theorem a8n (h1:1<=(E++b).length):run (mk m (F E b vv (.look (E++b).length))) b=mk m (F E b vv (.holds (VV m E b))):=b5n nd lt λpre h hpre hb hp=>by
 have u:=a6h nd lt hv (l:=(E++b).length) (B:=.holds (VV m E b)) (Nat.le_refl _) h1 (decide_eq_true (by rw [a3y nd lt];exact Nat.le_refl _)) hpre
 unfold d7
 rw [Q9 nd lt hb hp]
 show C7 _ _=_
 unfold C7
 rw [u,a3y nd lt,if_pos (Nat.le_refl _)]
theorem c4a (h1:1<=(E++b).length):∀ k:Nat,run (mk m (F E b vv (.look ((E++b).length+k)))) (List.replicate (2 * k+1) b).flatten=mk m (F E b vv (.holds (VV m E b)))
 | 0=>by
  show run _ (b++[])=_
  rw [List.append_nil];exact a8n nd lt hv h1
 | k+1=>by
  show run _ (b++(b++(List.replicate (2 * k+1) b).flatten))=_
  rw [M7,a91 nd lt hv (by omega),M7,b0v nd lt,show (E++b).length+(k+1)-1=(E++b).length+k by omega]
  exact c4a h1 k
theorem c12 (h1:1<=(E++b).length) (hm:(E++b).length<=m):run (mk m (F E b vv .out)) (List.replicate (2 * (m-(E++b).length+1)) b).flatten=mk m (F E b vv (.holds (VV m E b))):=by
 obtain ⟨k,hk⟩:∃ k,m=(E++b).length+k:=⟨m-(E++b).length,by omega⟩
 have e:2 * (m-(E++b).length+1)=(2 * k+1)+1:=by omega
 rw [e]
 show run _ (b++(List.replicate (2 * k+1) b).flatten)=_
 rw [M7,b22 nd lt]
 have:=c4a nd lt hv h1 k
 rw [<- hk] at this
 exact this
end
end L3.Wv
namespace L3.K55
open PySem PySem.Spec PyProof.Rows L2
noncomputable def nth (l:List Stmt) (i:Nat):Stmt:=l.getD i (.Pass ⟨0,0,0,0⟩)
noncomputable def top (i:Nat):Stmt:=nth PySem.Challenge.pw_handnames_k55_weavings_of_rounds.main.body i
noncomputable def F8:Stmt->List Stmt
 | .For _ _ b _ _=>b
 | .While _ b _ _=>b
 | _=>[]
noncomputable def b42:Stmt->List Stmt
 | .Try b _ _ _ _=>b
 | _=>[]
noncomputable def b5j:Stmt->List Stmt
 | .Try _ [.ExceptHandler _ _ b _] _ _ _=>b
 | _=>[]
noncomputable abbrev Aj:Fd:=i4 (top 1) []
noncomputable abbrev Ah:Fd:=i4 (top 2) []
noncomputable abbrev Ac:Fd:=i4 (top 3) ["plus"]
noncomputable abbrev b2w:Fd:=i4 (top 8) []
noncomputable abbrev c1j:Fd:=i4 (top 9) []
noncomputable abbrev c6s:Fd:=i4 (top 12) []
noncomputable abbrev c5h:Fd:=i4 (top 13) []
noncomputable abbrev b8r:Fd:=i4 (top 15) []
noncomputable abbrev Ab:Fd:=i4 (top 16) []
noncomputable abbrev b9g:Fd:=i4 (top 17) []
noncomputable abbrev Ai:Fd:=i4 (top 18) []
noncomputable abbrev c34:Fd:=i4 (top 20) []
noncomputable abbrev c3q:Fd:=i4 (top 21) []
noncomputable abbrev c3g:Fd:=i4 (top 22) []
noncomputable abbrev c3m:Fd:=i4 (top 23) []
noncomputable abbrev c6w:Fd:=i4 (top 24) []
noncomputable abbrev c1e:Fd:=i4 (top 25) []
noncomputable abbrev c1a:Fd:=i4 (top 26) []
noncomputable abbrev c08:Fd:=i4 (top 28) []
noncomputable abbrev c4x:Fd:=i4 (top 29) []
noncomputable abbrev c4o:Fd:=i4 (top 30) []
noncomputable abbrev c6k:Fd:=i4 (top 31) []
noncomputable abbrev b1v:Fd:=i4 (top 33) []
noncomputable abbrev a9z:Fd:=i4 (top 34) []
noncomputable abbrev a6e:Fd:=i4 (top 35) []
noncomputable abbrev Ag:Fd:=i4 (top 36) []
noncomputable abbrev Af:Fd:=i4 (top 37) []
noncomputable abbrev a9x:Fd:=i4 (top 39) ["return"]
noncomputable abbrev a87:Fd:=i4 (top 40) []
noncomputable abbrev a8s:Fd:=i4 (top 41) ["_law_left"]
noncomputable abbrev b2s:Fd:=i4 (top 42) ["_law_some"]
noncomputable abbrev Ae:Fd:=i4 (top 43) ["_law_found"]
noncomputable abbrev b13:Fd:=i4 (top 44) []
noncomputable abbrev a92:Fd:=i4 (top 45) []
noncomputable abbrev b0x:Fd:=i4 (top 46) []
noncomputable abbrev Ad:Fd:=i4 (top 47) ["_law_groups","[]"]
noncomputable abbrev b1p:Fd:=i4 (top 48) ["_law_boxes","_law_hands_here","()"]
noncomputable abbrev b19:Fd:=i4 (top 49) []
noncomputable abbrev Aa:Fd:=i4 (top 50) []
noncomputable abbrev law_F:Fd:=i4 (top 51) []
noncomputable abbrev b7n:Nat:=0
noncomputable abbrev b9e:Nat:=1
noncomputable abbrev c1q:Nat:=2
noncomputable abbrev c0w:Nat:=3
noncomputable abbrev c1d:Nat:=7
noncomputable abbrev b64:Nat:=8
noncomputable abbrev c2e:Nat:=9
noncomputable abbrev c31:Nat:=10
noncomputable abbrev b83:Nat:=22
noncomputable abbrev c0n:Nat:=23
noncomputable abbrev a9g:Nat:=24
noncomputable abbrev c1c:Nat:=25
noncomputable abbrev b82:Nat:=26
noncomputable abbrev b90:Nat:=27
noncomputable abbrev b2b:Nat:=28
noncomputable abbrev b8w:Nat:=29
noncomputable abbrev b9j:Nat:=30
noncomputable abbrev b9h:Nat:=31
noncomputable abbrev b8j:Nat:=32
noncomputable abbrev b7w:Nat:=33
noncomputable abbrev b74:Nat:=34
noncomputable abbrev c0o:Nat:=35
noncomputable abbrev c0l:Nat:=36
noncomputable abbrev b87:Nat:=37
noncomputable abbrev c02:Nat:=38
noncomputable abbrev b21:Nat:=39
noncomputable def Tb:List Fd:=[Aj,Ah,Ac,b2w,c1j,c6s,c5h,b8r,Ab,b9g,Ai,c34,c3q,c3g,c3m,c6w,c1e,c1a,c08,c4x,c4o,c6k,b1v,a9z,a6e,Ag,Af,a9x,a87,a8s,b2s,Ae,b13,a92,b0x,Ad,b1p,b19,Aa,law_F]
noncomputable def Γ:Gm:=⟨("HandError",.err 0 []) :: ("NoStep",.err 1 ["hand"]) :: ("ENDED",.val (.tup [(.str "holds"),(.str "right"),(.str "down")])) :: ("round_of",.fn 0 1) :: ("hands_at",.fn 1 2) :: ("weaving_of",.fn 2 1) :: ("with_at",.fn 3 3) :: ("triangle",.fn 4 1) :: ("first_decider",.fn 5 1) :: ("step_decider",.fn 6 2) :: ("first_levels",.fn 7 1) :: ("step_levels",.fn 8 2) :: ("behind_look",.fn 9 2) :: ("hands_up_to",.fn 10 2) :: ("first_net",.fn 11 2) :: ("end_of",.fn 12 1) :: ("number_of",.fn 13 1) :: ("step_net",.fn 14 3) :: ("hand_behind",.fn 15 2) :: ("local_at",.fn 16 3) :: ("word_at",.fn 17 2) :: ("first_row",.fn 18 1) :: ("step_row",.fn 19 2) :: ("begun",.fn 20 2) :: ("working_in_row",.fn 21 1) :: ("hands_of",.fn 22 1) :: ("first",.fn 23 1) :: ("stepped",.fn 24 3) :: ("stepped_or_none",.fn 25 3) :: ("woven",.fn 26 3) :: ("_law_tape",.fn 27 1) :: ("_law_draw",.fn 28 2) :: ("_law_shuffled",.fn 29 2) :: ("_law_greats",.fn 30 2) :: ("_law_hands",.fn 31 1) :: ("_law_seen",.fn 32 2) :: ("_law_whole",.fn 33 3) :: ("_law_held",.fn 34 2) :: ("_law_all_round",.fn 35 2) :: ("_law_stepped",.fn 36 2) :: ("_law_begun",.fn 37 1) :: ("_law_right",.fn 38 2) :: ("law",.fn 39 1) :: [],λc c0=>c0==0||c==c0,["hand"],[]⟩
noncomputable def Rs:Rules:=⟨[b99,c2g,c5a,c5w,rIx,c50,c5e,rFn,c5k,c21,b37,c0u,b6c,c5v,b8y,c1z,c2a,b4c,c6d,c25,rIf,c49,c6u,rSl,b7r,b7k,b9t,b03,rAppend,b3z,c5n],[b85,c2v,c56,b8f],[b75,c5p,sIf,c6t,c2j,c5q,c1x,b2p,b1c,a7a,c26,c5b,c6e,b80,c1i,c3o],[b30,c39,c55]⟩
noncomputable abbrev rn (k i:Nat) (ds:List D):M D:=J2 Rs Γ Tb k i ds
noncomputable def z20_L:Lc:=B8 Aj
noncomputable def N8:Expr×List Expr×Scope:=match (nth Aj.body 0) with
 | .Assign _ (.ListComp elt [⟨_,_,ifs,_⟩] scope _) _=>(elt,ifs,scope)
 | _=>(.Name "" ⟨0,0,0,0⟩,[],default)
noncomputable def a0k (C:Cf) (ρ:L3.Env) (d:D):M Bool:=match f8 (d3 z20_L.N) (k5 N8.2.2) with
 | some caps=>a66 (testsK (evK Rs Γ C 39) (i8 z20_L N8.2.2 ["word","view"]) N8.2.1) (mk2 (B4 caps ρ) d)
 | none=>bad
section
variable (C:Cf) {α:Type} (κ:Fl->M α) {ua ub uc ud:D} {qa qb qc qd qe qf qg:Option D}
theorem a27:a0k C [qa,qb] (.tup [ua,ub])=ret true:=by kernel_rfl
noncomputable def a1c (C:Cf) (ρ:L3.Env) (d:D):M D:=match f8 (d3 z20_L.N) (k5 N8.2.2) with
 | some caps=>(evK Rs Γ C 39).e (i8 z20_L N8.2.2 ["word","view"]) N8.1 (mk2 (B4 caps ρ) d) ret
 | none=>bad
theorem a18:a1c C [qa,qb] (.tup [ua,ub])=bind (n8 ub) λx1=>ret x1:=by kernel_rfl
theorem b3x:runK Rs Γ C Aj [ua]=bind (nx (bind (ixD ua (.int 1)) λx1=>bind (t9 x1) λsm2=>i5 sm2.1 (a0k C [some ua,none]) (a1c C [some ua,none]) sm2.2 0 [])) λl3=>bind (nx (bind (G6 (.lst l3)) λx5=>bind (t9 x5) λsm6=>i5 sm6.1 (λd4=>ret true) (λd4=>bind (C 1 [(.lst l3),d4]) λx7=>ret x7) sm6.2 0 [])) λl8=>bind (f7 (.lst l8)) λx9=>ret x9:=by kernel_rfl
noncomputable def z17_L:Lc:=B8 Ah
noncomputable def N2:Expr×List Expr×Scope:=match (nth Ah.body 0) with
 | .Return (some (.Call _ [.ListComp elt [⟨_,_,ifs,_⟩] scope _] _ _)) _=>(elt,ifs,scope)
 | _=>(.Name "" ⟨0,0,0,0⟩,[],default)
noncomputable def a1t (C:Cf) (ρ:L3.Env) (d:D):M Bool:=match f8 (d3 z17_L.N) (k5 N2.2.2) with
 | some caps=>a66 (testsK (evK Rs Γ C 37) (i8 z17_L N2.2.2 ["hand","here"]) N2.2.1) (mk2 (B4 caps ρ) d)
 | none=>bad
theorem a2l:a1t C [qa,some ua] (.tup [ub,uc])=bind (d5 .Eq uc ua) λx1=>bind (asB x1) λz2=>ret z2:=by kernel_rfl
noncomputable def a1l (C:Cf) (ρ:L3.Env) (d:D):M D:=match f8 (d3 z17_L.N) (k5 N2.2.2) with
 | some caps=>(evK Rs Γ C 37).e (i8 z17_L N2.2.2 ["hand","here"]) N2.1 (mk2 (B4 caps ρ) d) ret
 | none=>bad
theorem a2t:a1l C [qa,qb] (.tup [ua,ub])=ret ua:=by kernel_rfl
theorem b5m:runK Rs Γ C Ah [ua,ub]=bind (nx (bind (U6 ua) λsm1=>i5 sm1.1 (a1t C [some ua,some ub]) (a1l C [some ua,some ub]) sm1.2 0 [])) λl2=>bind (f7 (.lst l2)) λx3=>ret x3:=by kernel_rfl
noncomputable def a0x:Lc:=B8 Ac
theorem b78:runK Rs Γ C Ac [ua]=p7 (evK Rs Γ C 40) a0x Ac.body [some ua,none,none,none,none] endD:=by kernel_rfl
theorem c04:Ac.body=[nth Ac.body 0,nth Ac.body 1,nth Ac.body 2,nth Ac.body 3,nth Ac.body 4]:=by kernel_rfl
theorem c5r:(evK Rs Γ C 40).s a0x (nth Ac.body 0) [some ua,qa,qb,qc,qd] κ=bind (nx (bind (t9 ua) λsm2=>i5 sm2.1 (λd1=>ret true) (λd1=>bind (n8 d1) λx3=>ret x3) sm2.2 0 [])) λl4=>bind (b28 (.lst l4)) λx5=>κ (.nx [some ua,qa,some x5,qc,qd]):=by kernel_rfl
theorem c5y:(evK Rs Γ C 40).s a0x (nth Ac.body 1) [qa,qb,qc,qd,qe] κ=κ (.nx [qa,qb,qc,some (.tup []),qe]):=by kernel_rfl
theorem c51:(evK Rs Γ C 40).s a0x (nth Ac.body 2) [qa,qb,qc,qd,qe] κ=κ (.nx [qa,qb,qc,qd,some (.int 0)]):=by kernel_rfl
noncomputable def O6:List Stmt:=F8 (nth Ac.body 3)
noncomputable def a5c (C:Cf):L3.Env->M Fl:=λρ'=>p7 (evK Rs Γ C 39) a0x O6 ρ' ret
theorem c6v:(evK Rs Γ C 40).s a0x (nth Ac.body 3) [some ua,qa,qb,qc,qd] κ=bind (t9 ua) λsm1=>bind (y8 sm1.1 (λd ρ=>some (ρ.set 1 (some d))) (a5c C) sm1.2 0 [some ua,qa,qb,qc,qd]) κ:=by kernel_rfl
theorem c5g:(evK Rs Γ C 40).s a0x (nth Ac.body 4) [qa,qb,qc,some ua,qd] κ=κ (.rt ua):=by kernel_rfl
theorem a4o:O6=[nth O6 0,nth O6 1]:=by kernel_rfl
theorem b16:(evK Rs Γ C 39).s a0x (nth O6 0) [qa,some ua,qb,qc,some ub] κ=bind (n8 ua) λx1=>bind (W8 ub x1) λx2=>κ (.nx [qa,some ua,qb,qc,some x2]):=by kernel_rfl
theorem a9y:(evK Rs Γ C 39).s a0x (nth O6 1) [qa,some ua,some ub,some uc,some ud] κ=bind (a0u ub ud) λx1=>bind (E2 x1 (.int 1)) λx2=>bind (C5 (.int 2) x2) λx3=>bind (C5 ua x3) λx4=>bind (W8 uc x4) λx5=>κ (.nx [qa,some ua,some ub,some x5,some ud]):=by kernel_rfl
theorem b4z:runK Rs Γ C b2w [ua,ub,uc]=bind (a0q ub) λn1=>bind (slD ua none n1) λx2=>bind (E2 x2 (.tup [uc])) λx3=>bind (E2 ub (.int 1)) λx4=>bind (a0q x4) λn5=>bind (slD ua n5 none) λx6=>bind (E2 x3 x6) λx7=>ret x7:=by kernel_rfl
theorem c03:runK Rs Γ C b8r [ua]=bind (C5 (.tup [.non]) ua) λx1=>bind (C5 (.tup [(.tup [(.str "out")])]) ua) λx2=>ret (.tup [x1,x2]):=by kernel_rfl
noncomputable def a3c:Lc:=B8 Ab
theorem b14:runK Rs Γ C Ab [ua,ub]=p7 (evK Rs Γ C 40) a3c Ab.body [some ua,some ub,none,none,none,none] endD:=by kernel_rfl
theorem b1n:Ab.body=[nth Ab.body 0,nth Ab.body 1,nth Ab.body 2,nth Ab.body 3,nth Ab.body 4,nth Ab.body 5]:=by kernel_rfl
theorem c4w:(evK Rs Γ C 40).s a3c (nth Ab.body 0) [some ua,qa,qb,qc,qd,qe] κ=bind (Q5 (C8 [2,3]) ua [some ua,qa,qb,qc,qd,qe]) κ:=by kernel_rfl
theorem c2i:(evK Rs Γ C 40).s a3c (nth Ab.body 1) [qa,some ua,qb,some ub,qc,qd] κ=bind (ixD ub ua) λx1=>κ (.nx [qa,some ua,qb,some ub,some x1,qd]):=by kernel_rfl
theorem c4b:(evK Rs Γ C 40).s a3c (nth Ab.body 2) [qa,some ua,qb,qc,some ub,qd] κ=bind (ixD ub (.int 0)) λx1=>bind (d5 .Eq x1 (.str "holds")) λx2=>bind (asB x2) λz3=>if z3=true then (bind (Q7 1 ["hand"] [ua]) λx4=>bind (K3 x4) (fin κ)) else (κ (.nx [qa,some ua,qb,qc,some ub,qd])):=by kernel_rfl
theorem b84:(evK Rs Γ C 40).s a3c (nth Ab.body 3) [qa,some ua,some ub,some uc,some ud,qb] κ=bind (ixD ud (.int 0)) λx1=>bind (d5 .Eq x1 (.str "look")) λx2=>bind (asB x2) λz3=>if z3=true then (bind (ixD ud (.int 1)) λx4=>bind (C 9 [ub,x4]) λx5=>bind (C 3 [uc,ua,x5]) λx6=>κ (.rt (.tup [ub,x6]))) else (κ (.nx [qa,some ua,some ub,some uc,some ud,qb])):=by kernel_rfl
theorem c3d:(evK Rs Γ C 40).s a3c (nth Ab.body 4) [qa,qb,some ua,qc,some ub,qd] κ=bind (ixD ub (.int 0)) λx1=>bind (d5 .Eq x1 (.str "out")) λx2=>bind (asB x2) λz3=>if z3=true then (bind (n8 ua) λx4=>κ (.nx [qa,qb,some ua,qc,some ub,some x4])) else (bind (ixD ub (.int 1)) λx5=>κ (.nx [qa,qb,some ua,qc,some ub,some x5])):=by kernel_rfl
theorem c6g:(evK Rs Γ C 40).s a3c (nth Ab.body 5) [qa,some ua,some ub,some uc,qb,some ud] κ=bind (C 3 [ub,ua,ud]) λx1=>bind (C 3 [uc,ua,(.tup [(.str "look"),ud])]) λx2=>κ (.rt (.tup [x1,x2])):=by kernel_rfl
theorem b77:runK Rs Γ C b9g [ua,ub]=bind (C 10 [ua,ub]) λx1=>bind (n8 x1) λx2=>bind (d5 .LtE ub x2) λx3=>bind (asB x3) λz4=>if z4=true then (ret (.tup [(.str "holds"),x1])) else (bind (a0u ub (.int 1)) λx5=>ret (.tup [(.str "put"),x5])):=by kernel_rfl
noncomputable def z6_L:Lc:=B8 Ai
noncomputable def Y5:Expr×List Expr×Scope:=match (nth Ai.body 0) with
 | .Return (some (.Call _ [.ListComp elt [⟨_,_,ifs,_⟩] scope _] _ _)) _=>(elt,ifs,scope)
 | _=>(.Name "" ⟨0,0,0,0⟩,[],default)
noncomputable def a48 (C:Cf) (ρ:L3.Env) (d:D):M Bool:=match f8 (d3 z6_L.N) (k5 Y5.2.2) with
 | some caps=>a66 (testsK (evK Rs Γ C 37) (i8 z6_L Y5.2.2 ["hand","box"]) Y5.2.1) (mk2 (B4 caps ρ) d)
 | none=>bad
theorem a41:a48 C [qa,some ua] (.tup [ub,uc])=bind (d5 .IsNot uc .non) λx1=>bind (asB x1) λz2=>if z2=true then (bind (d5 .LtE uc ua) λx3=>bind (asB x3) λz4=>ret z4) else (ret false):=by kernel_rfl
noncomputable def a3x (C:Cf) (ρ:L3.Env) (d:D):M D:=match f8 (d3 z6_L.N) (k5 Y5.2.2) with
 | some caps=>(evK Rs Γ C 37).e (i8 z6_L Y5.2.2 ["hand","box"]) Y5.1 (mk2 (B4 caps ρ) d) ret
 | none=>bad
theorem a4n:a3x C [qa,qb] (.tup [ua,ub])=ret ua:=by kernel_rfl
theorem c0v:runK Rs Γ C Ai [ua,ub]=bind (nx (bind (U6 ua) λsm1=>i5 sm1.1 (a48 C [some ua,some ub]) (a3x C [some ua,some ub]) sm1.2 0 [])) λl2=>bind (f7 (.lst l2)) λx3=>ret x3:=by kernel_rfl
theorem b4w:runK Rs Γ C b1v [ua]=bind (ixD ua (.int 0)) λx1=>bind (d5 .Eq x1 (.str "levels")) λx2=>bind (asB x2) λz3=>if z3=true then (bind (ixD ua (.int 1)) λx4=>bind (n8 x4) λx5=>ret x5) else (bind (a7i (.int 1)) λx6=>bind (ixD ua x6) λx7=>ret x7):=by kernel_rfl
theorem b49:runK Rs Γ C a9z [ua]=bind (C 22 [ua]) λx1=>bind (ixD ua (.int 0)) λx2=>bind (d5 .Eq x2 (.str "decider")) λx3=>bind (asB x3) λz4=>if z4=true then (bind (C 5 [x1]) λx5=>ret x5) else (bind (ixD ua (.int 0)) λx6=>bind (d5 .Eq x6 (.str "net")) λx7=>bind (asB x7) λz8=>if z8=true then (bind (ixD ua (.int 1)) λx9=>bind (C 11 [x9,x1]) λx10=>ret x10) else (bind (ixD ua (.int 0)) λx11=>bind (d5 .Eq x11 (.str "levels")) λx12=>bind (asB x12) λz13=>if z13=true then (bind (C 7 [x1]) λx14=>ret x14) else (bind (C 18 [x1]) λx15=>ret x15))):=by kernel_rfl
theorem a6u:runK Rs Γ C a6e [ua,ub,uc]=bind (ixD ua (.int 0)) λx1=>bind (d5 .Eq x1 (.str "decider")) λx2=>bind (asB x2) λz3=>if z3=true then (bind (C 6 [ub,uc]) λx4=>ret x4) else (bind (ixD ua (.int 0)) λx5=>bind (d5 .Eq x5 (.str "net")) λx6=>bind (asB x6) λz7=>if z7=true then (bind (ixD ua (.int 1)) λx8=>bind (C 14 [x8,ub,uc]) λx9=>ret x9) else (bind (ixD ua (.int 0)) λx10=>bind (d5 .Eq x10 (.str "levels")) λx11=>bind (asB x11) λz12=>if z12=true then (bind (C 8 [ub,uc]) λx13=>ret x13) else (bind (C 19 [ub,uc]) λx14=>ret x14))):=by kernel_rfl
noncomputable def a8b:Lc:=B8 Ag
theorem b95:runK Rs Γ C Ag [ua,ub,uc]=p7 (evK Rs Γ C 40) a8b Ag.body [some ua,some ub,some uc] endD:=by kernel_rfl
theorem b7u:Ag.body=[nth Ag.body 0]:=by kernel_rfl
noncomputable def b63 (C:Cf):L3.Env->M Fl:=bX (eBK (evK Rs Γ C 39) Γ C a8b) a8b (nth (b42 (nth Ag.body 0)) 0)
theorem Z7:b63 C [some ua,some ub,some uc]=bind (C 24 [ua,ub,uc]) λx1=>ret (.rt x1):=by kernel_rfl
noncomputable def a09:List Stmt:=b5j (nth Ag.body 0)
noncomputable def b6o (C:Cf):L3.Env->M Fl:=λρ'=>p7 (evK Rs Γ C 39) (J6 a8b) a09 ρ' ret
theorem c6h:(evK Rs Γ C 40).s a8b (nth Ag.body 0) [qa,qb,qc] κ=bind (T6 (b63 C) (λc=>Γ.sub c 1) none (b6o C) [qa,qb,qc]) κ:=by kernel_rfl
theorem a4k:a09=[nth a09 0]:=by kernel_rfl
theorem b2z:(evK Rs Γ C 39).s (J6 a8b) (nth a09 0) [qa,qb,qc] κ=κ (.rt .non):=by kernel_rfl
noncomputable def Y7:Lc:=B8 Af
theorem b27:runK Rs Γ C Af [ua,ub,uc]=p7 (evK Rs Γ C 40) Y7 Af.body [some ua,some ub,some uc,none,none] endD:=by kernel_rfl
theorem b5h:Af.body=[nth Af.body 0,nth Af.body 1]:=by kernel_rfl
noncomputable def G1:List Stmt:=F8 (nth Af.body 0)
noncomputable def a3f (C:Cf):L3.Env->M Fl:=λρ'=>p7 (evK Rs Γ C 39) Y7 G1 ρ' ret
theorem c36:(evK Rs Γ C 40).s Y7 (nth Af.body 0) [qa,qb,some ua,qc,qd] κ=bind (t9 ua) λsm1=>bind (y8 sm1.1 (λd ρ=>some (ρ.set 3 (some d))) (a3f C) sm1.2 0 [qa,qb,some ua,qc,qd]) κ:=by kernel_rfl
theorem c2f:(evK Rs Γ C 40).s Y7 (nth Af.body 1) [qa,some ua,qb,qc,qd] κ=κ (.rt ua):=by kernel_rfl
theorem a3k:G1=[nth G1 0,nth G1 1]:=by kernel_rfl
theorem a7m:(evK Rs Γ C 39).s Y7 (nth G1 0) [some ua,some ub,qa,some uc,qb] κ=bind (C 25 [ua,ub,uc]) λx1=>κ (.nx [some ua,some ub,qa,some uc,some x1]):=by kernel_rfl
theorem a67:(evK Rs Γ C 39).s Y7 (nth G1 1) [qa,qb,qc,qd,some ua] κ=bind (d5 .IsNot ua .non) λx1=>bind (asB x1) λz2=>if z2=true then (κ (.nx [qa,some ua,qc,qd,some ua])) else (κ (.nx [qa,qb,qc,qd,some ua])):=by kernel_rfl
theorem b6d:runK Rs Γ C a9x [ua]=bind (slD ua none (some 63)) λx1=>bind (a9c x1) λx2=>bind (newL [x2,(.int 0),(.int 0),(.int 0)]) λx3=>ret x3:=by kernel_rfl
theorem b4d (C:Cf) (p x:D):runK Rs Γ C a87 [p,x]=a6p p x:=by kernel_rfl
theorem b40:runK Rs Γ C a8s [ua,ub]=bind (listP ub) λx1=>bind (nx (bind (n8 ub) λx3=>bind (F6 [x3]) λsm4=>i5 sm4.1 (λd2=>ret true) (λd2=>bind (lstOf x1) λ_=>bind (n8 x1) λx5=>bind (C 28 [ua,x5]) λx6=>bind (popD x1 [x6]) λx7=>ret x7) sm4.2 0 [])) λl8=>ret (.lst l8):=by kernel_rfl
theorem b39:runK Rs Γ C b2s [ua,ub]=bind (a45 (.int 10) (.int 8)) λx1=>bind (a45 (.int 10) (.int 9)) λx2=>bind (a0u x2 (.int 1)) λx3=>bind (a45 (.int 10) (.int 9)) λx4=>bind (newL [(.int 0),(.int 1),(.int 2),(.int 8),(.int 9),(.int 10),(.int 11),(.int 99),(.int 100),(.int 101),x1,x3,x4]) λx5=>bind (nx (bind (F6 [ub]) λsm7=>i5 sm7.1 (λd6=>ret true) (λd6=>bind (lstOf x5) λ_=>bind (n8 x5) λx8=>bind (C 28 [ua,x8]) λx9=>bind (popD x5 [x9]) λx10=>ret x10) sm7.2 0 [])) λl11=>bind (f7 (.lst l11)) λx12=>ret x12:=by kernel_rfl
noncomputable def Y0:Lc:=B8 Ae
theorem b56:runK Rs Γ C Ae [ua]=p7 (evK Rs Γ C 40) Y0 Ae.body [some ua,none,none] endD:=by kernel_rfl
theorem b3g:Ae.body=[nth Ae.body 0,nth Ae.body 1,nth Ae.body 2]:=by kernel_rfl
theorem c2n:(evK Rs Γ C 40).s Y0 (nth Ae.body 0) [qa,qb,qc] κ=bind (newL []) λx1=>κ (.nx [qa,some x1,qc]):=by kernel_rfl
noncomputable def R9:List Stmt:=F8 (nth Ae.body 1)
noncomputable def a11 (C:Cf):L3.Env->M Fl:=λρ'=>p7 (evK Rs Γ C 39) Y0 R9 ρ' ret
theorem c42:(evK Rs Γ C 40).s Y0 (nth Ae.body 1) [some ua,qa,qb] κ=bind (t9 ua) λsm1=>bind (y8 sm1.1 (λd ρ=>some (ρ.set 2 (some d))) (a11 C) sm1.2 0 [some ua,qa,qb]) κ:=by kernel_rfl
theorem c3s:(evK Rs Γ C 40).s Y0 (nth Ae.body 2) [qa,some ua,qb] κ=bind (G4 ua) λx1=>κ (.rt x1):=by kernel_rfl
theorem a2i:R9=[nth R9 0]:=by kernel_rfl
theorem a69:(evK Rs Γ C 39).s Y0 (nth R9 0) [qa,some ua,some ub] κ=bind (lstOf ua) λ_=>bind (extD ua [ub]) λx1=>κ (.nx [qa,some ua,some ub]):=by kernel_rfl
theorem b31:runK Rs Γ C b13 [ua,ub]=bind (nx (bind (n8 ua) λx2=>bind (F6 [x2]) λsm3=>i5 sm3.1 (λd1=>bind (ixD ua d1) λx4=>bind (d5 .In ub x4) λx5=>bind (asB x5) λz6=>ret z6) (λd1=>ret d1) sm3.2 0 [])) λl7=>bind (ixD (.lst l7) (.int 0)) λx8=>bind (E2 x8 (.int 1)) λx9=>bind (a0q x9) λn10=>bind (slD ua none n10) λx11=>bind (C 31 [x11]) λx12=>ret x12:=by kernel_rfl
theorem b6a:runK Rs Γ C a92 [ua,ub,uc]=bind (a1p "int" (λ_=>false) ua) λx1=>bind (y7 x1) λc2=>if c2=true then (bind (a1p "bool" (λ_=>false) ua) λx3=>bind (y7 x3) λc4=>bind (y7 (.bl (!c4))) λc5=>if c5=true then (bind (d5 .LtE ub ua) λx6=>bind (asB x6) λz7=>if z7=true then (bind (d5 .LtE ua uc) λx8=>ret x8) else (ret (.bl false))) else (ret (.bl (!c4)))) else (ret x1):=by kernel_rfl
theorem b4k:runK Rs Γ C b0x [ua,ub]=bind (nx (bind (F6 [ub]) λsm2=>i5 sm2.1 (λd1=>ret true) (λd1=>bind (C 32 [ua,d1]) λx3=>bind (f7 x3) λx4=>ret x4) sm2.2 0 [])) λl5=>bind (nx (bind (t9 (.lst l5)) λsm7=>i5 sm7.1 (λd6=>ret true) (λd6=>bind (n8 d6) λx8=>ret x8) sm7.2 0 [])) λl9=>bind (f7 (.lst l9)) λx10=>bind (nx (bind (t9 (.lst l5)) λsm12=>i5 sm12.1 (λd11=>ret true) (λd11=>ret (.tup [(.str "holds"),d11])) sm12.2 0 [])) λl13=>bind (f7 (.lst l13)) λx14=>ret (.tup [x10,x14]):=by kernel_rfl
noncomputable def D4:Lc:=B8 Ad
theorem b3k:runK Rs Γ C Ad [ua,ub]=p7 (evK Rs Γ C 40) D4 Ad.body [some ua,some ub,none,none,none] endD:=by kernel_rfl
theorem b5w:Ad.body=[nth Ad.body 0,nth Ad.body 1,nth Ad.body 2,nth Ad.body 3]:=by kernel_rfl
theorem c2s:(evK Rs Γ C 40).s D4 (nth Ad.body 0) [qa,qb,qc,qd,qe] κ=bind (newL []) λx1=>κ (.nx [qa,qb,some x1,qd,qe]):=by kernel_rfl
theorem c27:(evK Rs Γ C 40).s D4 (nth Ad.body 1) [some ua,qa,qb,qc,qd] κ=bind (C 28 [ua,(.int 2)]) λx1=>bind (E2 (.int 2) x1) λx2=>κ (.nx [some ua,qa,qb,some x2,qd]):=by kernel_rfl
noncomputable def u6:List Stmt:=F8 (nth Ad.body 2)
noncomputable def a2j (C:Cf):L3.Env->M Fl:=λρ'=>p7 (evK Rs Γ C 39) D4 u6 ρ' ret
theorem c1g:(evK Rs Γ C 40).s D4 (nth Ad.body 2) [some ua,some ub,qa,qb,qc] κ=bind (G3 ub) λx1=>bind (C 29 [ua,x1]) λx2=>bind (t9 x2) λsm3=>bind (y8 sm3.1 (λd ρ=>some (ρ.set 4 (some d))) (a2j C) sm3.2 0 [some ua,some ub,qa,qb,qc]) κ:=by kernel_rfl
theorem c2y:(evK Rs Γ C 40).s D4 (nth Ad.body 3) [qa,qb,some ua,qc,qd] κ=bind (nx (bind (t9 ua) λsm2=>i5 sm2.1 (λd1=>ret true) (λd1=>bind (G4 d1) λx3=>bind (f7 x3) λx4=>ret x4) sm2.2 0 [])) λl5=>bind (f7 (.lst l5)) λx6=>κ (.rt x6):=by kernel_rfl
theorem a10:u6=[nth u6 0,nth u6 1]:=by kernel_rfl
theorem a7j:(evK Rs Γ C 39).s D4 (nth u6 0) [some ua,qa,some ub,some uc,qb] κ=bind (d5 .Eq ub (.lst [])) λx1=>bind (asB x1) λz2=>if z2=true then (bind (lstOf ub) λ_=>bind (newL []) λx3=>bind (Q6 ub [x3]) λx4=>κ (.nx [some ua,qa,some ub,some uc,qb])) else (bind (C 28 [ua,uc]) λx5=>bind (d5 .Eq x5 (.int 0)) λx6=>bind (asB x6) λz7=>if z7=true then (bind (lstOf ub) λ_=>bind (newL []) λx8=>bind (Q6 ub [x8]) λx9=>κ (.nx [some ua,qa,some ub,some uc,qb])) else (κ (.nx [some ua,qa,some ub,some uc,qb]))):=by kernel_rfl
theorem a78:(evK Rs Γ C 39).s D4 (nth u6 1) [qa,qb,some ua,qc,some ub] κ=bind (a7i (.int 1)) λx1=>bind (ixD ua x1) λx2=>bind (lstOf x2) λ_=>bind (Q6 x2 [ub]) λx3=>κ (.nx [qa,qb,some ua,qc,some ub]):=by kernel_rfl
theorem b52:runK Rs Γ C b1p [ua,ub]=bind (ixD ua (.int 0)) λx1=>bind (listP x1) λx2=>bind (ixD ua (.int 1)) λx3=>bind (listP x3) λx4=>bind (n8 x4) λx5=>bind (ixD x4 ub) λx6=>bind (ixD x6 (.int 0)) λx7=>bind (d5 .Eq x7 (.str "holds")) λx8=>bind (asB x8) λz9=>if z9=true then (ret ua) else (bind (ixD x6 (.int 0)) λx10=>bind (d5 .Eq x10 (.str "look")) λx11=>bind (asB x11) λz12=>if z12=true then (bind (ixD x6 (.int 1)) λx13=>bind (nx (bind (F6 [x5]) λsm15=>i5 sm15.1 (λd14=>bind (ixD x2 d14) λx16=>bind (d5 .IsNot x16 .non) λx17=>bind (asB x17) λz18=>if z18=true then (bind (ixD x2 d14) λx19=>bind (d5 .LtE x19 x13) λx20=>bind (asB x20) λz21=>ret z21) else (ret false)) (λd14=>ret d14) sm15.2 0 [])) λl22=>bind (n8 (.lst l22)) λx23=>bind (d5 .Lt x23 x13) λx24=>bind (asB x24) λz25=>if z25=true then (bind (a0u x13 (.int 1)) λx26=>bind (v3 x4 ub (.tup [(.str "put"),x26])) λ_=>bind (f7 x2) λx27=>bind (f7 x4) λx28=>ret (.tup [x27,x28])) else (bind (f7 (.lst l22)) λx29=>bind (v3 x4 ub (.tup [(.str "holds"),x29])) λ_=>bind (f7 x2) λx30=>bind (f7 x4) λx31=>ret (.tup [x30,x31]))) else (bind (ixD x6 (.int 0)) λx32=>bind (d5 .Eq x32 (.str "out")) λx33=>bind (asB x33) λz34=>if z34=true then (bind (v3 x2 ub x5) λ_=>bind (v3 x4 ub (.tup [(.str "look"),x5])) λ_=>bind (f7 x2) λx35=>bind (f7 x4) λx36=>ret (.tup [x35,x36])) else (bind (ixD x6 (.int 1)) λx37=>bind (v3 x2 ub x37) λ_=>bind (v3 x4 ub (.tup [(.str "look"),x37])) λ_=>bind (f7 x2) λx38=>bind (f7 x4) λx39=>ret (.tup [x38,x39])))):=by kernel_rfl
theorem b4p:runK Rs Γ C b19 [ua]=bind (C5 (.tup [.non]) ua) λx1=>bind (C5 (.tup [(.tup [(.str "out")])]) ua) λx2=>ret (.tup [x1,x2]):=by kernel_rfl
noncomputable def A9:Lc:=B8 Aa
theorem b47:runK Rs Γ C Aa [ua,ub]=p7 (evK Rs Γ C 40) A9 Aa.body [some ua,some ub,none,none,none,none,none,none] endD:=by kernel_rfl
theorem b33:Aa.body=[nth Aa.body 0,nth Aa.body 1,nth Aa.body 2,nth Aa.body 3,nth Aa.body 4,nth Aa.body 5,nth Aa.body 6,nth Aa.body 7,nth Aa.body 8]:=by kernel_rfl
theorem c40:(evK Rs Γ C 40).s A9 (nth Aa.body 0) [qa,some ua,qb,qc,qd,qe,qf,qg] κ=bind (n8 ua) λx1=>κ (.nx [qa,some ua,some x1,qc,qd,qe,qf,qg]):=by kernel_rfl
theorem c1t:(evK Rs Γ C 40).s A9 (nth Aa.body 1) [some ua,qa,qb,qc,qd,qe,qf,qg] κ=bind (B5 ua) λx1=>κ (.nx [some ua,qa,qb,some x1,qd,qe,qf,qg]):=by kernel_rfl
theorem c29:(evK Rs Γ C 40).s A9 (nth Aa.body 2) [some ua,qa,qb,qc,qd,qe,qf,qg] κ=bind (C 2 [ua]) λx1=>κ (.nx [some ua,qa,qb,qc,some x1,qe,qf,qg]):=by kernel_rfl
theorem c4f:(evK Rs Γ C 40).s A9 (nth Aa.body 3) [some ua,qa,qb,some ub,some uc,qc,qd,qe] κ=bind (a1p "tuple" (λ_=>false) uc) λx1=>bind (y7 x1) λz2=>if (!z2)=true then (κ (.rt (.bl false))) else (bind (B5 ua) λx3=>bind (d5 .NotEq x3 ub) λx4=>bind (asB x4) λz5=>if z5=true then (κ (.rt (.bl false))) else (κ (.nx [some ua,qa,qb,some ub,some uc,qc,qd,qe]))):=by kernel_rfl
theorem c1m:(evK Rs Γ C 40).s A9 (nth Aa.body 4) [qa,qb,some ua,qc,qd,qe,qf,qg] κ=bind (C 37 [ua]) λx1=>κ (.nx [qa,qb,some ua,qc,qd,some x1,qf,qg]):=by kernel_rfl
noncomputable def G8:List Stmt:=F8 (nth Aa.body 5)
noncomputable def a17 (C:Cf):L3.Env->M Fl:=λρ'=>p7 (evK Rs Γ C 39) A9 G8 ρ' ret
theorem c30:(evK Rs Γ C 40).s A9 (nth Aa.body 5) [qa,qb,qc,qd,some ua,qe,qf,qg] κ=bind (t9 ua) λsm1=>bind (y8 sm1.1 (λd ρ=>some (ρ.set 6 (some d))) (a17 C) sm1.2 0 [qa,qb,qc,qd,some ua,qe,qf,qg]) κ:=by kernel_rfl
theorem c3h:(evK Rs Γ C 40).s A9 (nth Aa.body 6) [some ua,qa,some ub,some uc,qb,some ud,qc,qd] κ=bind (B5 ud) λx1=>bind (C 34 [ua,ub]) λx2=>bind (B5 x2) λx3=>bind (d5 .NotEq x1 x3) λx4=>bind (asB x4) λz5=>if z5=true then (κ (.rt (.bl false))) else (bind (C 0 [ud]) λx6=>bind (B5 x6) λx7=>bind (d5 .NotEq x7 uc) λx8=>bind (asB x8) λz9=>if z9=true then (κ (.rt (.bl false))) else (κ (.nx [some ua,qa,some ub,some uc,qb,some ud,qc,qd]))):=by kernel_rfl
theorem c4i:(evK Rs Γ C 40).s A9 (nth Aa.body 7) [qa,some ua,qb,qc,qd,qe,qf,qg] κ=κ (.nx [qa,some ua,qb,qc,qd,qe,qf,some (.tup [(.str "levels"),ua])]):=by kernel_rfl
theorem c2d:(evK Rs Γ C 40).s A9 (nth Aa.body 8) [qa,qb,qc,qd,some ua,some ub,qe,some uc] κ=bind (C 23 [uc]) λx1=>bind (C 26 [uc,x1,ua]) λx2=>bind (B5 x2) λx3=>bind (B5 ub) λx4=>bind (d5 .Eq x3 x4) λx5=>κ (.rt x5):=by kernel_rfl
theorem a2r:G8=[nth G8 0,nth G8 1]:=by kernel_rfl
theorem a73:(evK Rs Γ C 39).s A9 (nth G8 0) [qa,qb,some ua,qc,qd,qe,some ub,qf] κ=bind (a0u ua (.int 1)) λx1=>bind (C 33 [ub,(.int 0),x1]) λx2=>bind (y7 x2) λz3=>if (!z3)=true then (κ (.rt (.bl false))) else (κ (.nx [qa,qb,some ua,qc,qd,qe,some ub,qf])):=by kernel_rfl
theorem a7w:(evK Rs Γ C 39).s A9 (nth G8 1) [qa,qb,qc,qd,qe,some ua,some ub,qf] κ=bind (C 36 [ua,ub]) λx1=>κ (.nx [qa,qb,qc,qd,qe,some x1,some ub,qf]):=by kernel_rfl
noncomputable def D6:Lc:=B8 law_F
theorem b46:runK Rs Γ C law_F [ua]=p7 (evK Rs Γ C 40) D6 law_F.body [some ua,none,none,none,none,none] endD:=by kernel_rfl
theorem b53:law_F.body=[nth law_F.body 0,nth law_F.body 1,nth law_F.body 2,nth law_F.body 3,nth law_F.body 4,nth law_F.body 5]:=by kernel_rfl
theorem c4s:(evK Rs Γ C 40).s D6 (nth law_F.body 0) [some ua,qa,qb,qc,qd,qe] κ=bind (C 27 [ua]) λx1=>κ (.nx [some ua,some x1,qb,qc,qd,qe]):=by kernel_rfl
noncomputable def w9:List Stmt:=F8 (nth law_F.body 1)
noncomputable def a2m (C:Cf):L3.Env->M Fl:=λρ'=>p7 (evK Rs Γ C 39) D6 w9 ρ' ret
theorem c33:(evK Rs Γ C 40).s D6 (nth law_F.body 1) [qa,qb,qc,qd,qe,qf] κ=bind (F6 [(.int 3)]) λsm1=>bind (y8 sm1.1 (λd ρ=>some (ρ.set 2 (some d))) (a2m C) sm1.2 0 [qa,qb,qc,qd,qe,qf]) κ:=by kernel_rfl
theorem c38:(evK Rs Γ C 40).s D6 (nth law_F.body 2) [qa,some ua,qb,qc,qd,qe] κ=bind (C 28 [ua,(.int 6)]) λx1=>bind (E2 (.int 1) x1) λx2=>κ (.nx [qa,some ua,qb,some x2,qd,qe]):=by kernel_rfl
theorem c4r:(evK Rs Γ C 40).s D6 (nth law_F.body 3) [qa,some ua,qb,some ub,qc,qd] κ=bind (nx (bind (G3 ub) λx2=>bind (C 29 [ua,x2]) λx3=>bind (t9 x3) λsm4=>i5 sm4.1 (λd1=>ret true) (λd1=>ret (.tup [d1])) sm4.2 0 [])) λl5=>bind (f7 (.lst l5)) λx6=>κ (.nx [qa,some ua,qb,some ub,qc,some x6]):=by kernel_rfl
theorem c3w:(evK Rs Γ C 40).s D6 (nth law_F.body 4) [qa,some ua,qb,some ub,qc,qd] κ=bind (C 30 [ua,ub]) λx1=>κ (.nx [qa,some ua,qb,some ub,some x1,qd]):=by kernel_rfl
theorem c41:(evK Rs Γ C 40).s D6 (nth law_F.body 5) [qa,qb,qc,some ua,some ub,some uc] κ=bind (C 38 [uc,ub]) λx1=>bind (y7 x1) λc2=>if c2=true then (bind (T0 ua) λx3=>bind (C 38 [(.tup [x3]),ub]) λx4=>κ (.rt x4)) else (κ (.rt x1)):=by kernel_rfl
theorem a2e:w9=[nth w9 0,nth w9 1,nth w9 2]:=by kernel_rfl
theorem a8o:(evK Rs Γ C 39).s D6 (nth w9 0) [qa,some ua,qb,qc,qd,qe] κ=bind (C 28 [ua,(.int 6)]) λx1=>bind (E2 (.int 1) x1) λx2=>κ (.nx [qa,some ua,qb,some x2,qd,qe]):=by kernel_rfl
theorem a7h:(evK Rs Γ C 39).s D6 (nth w9 1) [qa,some ua,qb,some ub,qc,qd] κ=bind (C 30 [ua,ub]) λx1=>κ (.nx [qa,some ua,qb,some ub,some x1,qd]):=by kernel_rfl
theorem a8l:(evK Rs Γ C 39).s D6 (nth w9 2) [qa,some ua,qb,some ub,some uc,qc] κ=bind (C 35 [ua,ub]) λx1=>bind (C 38 [x1,uc]) λx2=>bind (y7 x2) λz3=>if (!z3)=true then (κ (.rt (.bl false))) else (κ (.nx [qa,some ua,qb,some ub,some uc,qc])):=by kernel_rfl
end
end L3.K55
namespace L3.K55
open PySem PySem.Spec PyProof.Rows L2 L3.Rk
noncomputable abbrev rgI (m:Nat):List Int:=rgL m
theorem O2 (m:Nat):(rgI m).length=m:=by show (rgL m).length=m;unfold rgL;rw [List.length_map,List.length_range]
noncomputable def q5 (b:List Int):D:=.tup (b.map D.int)
noncomputable def u0 (r:List (List Int)):D:=.tup (r.map q5)
theorem u9 {n:Nat} (h:n<=60):n<sizeLine:=Nat.lt_of_le_of_lt h (by decide)
theorem P6 {ns:List Int} {p N:Nat} {S:Sto} (h:Ft ns p N S):p<S.length:=by
 obtain ⟨a,l,t,e,_⟩:=h
 exact (List.getElem?_eq_some_iff.mp e).1
theorem G2 {ns:List Int} {p N m:Nat} {S:Sto} (h:Ft ns p (N+1) S) (hm:0<m) (hm2:m<1000000) (k:Nat):Ok (rn (k+1) b2b [.ref p,.int (m:Int)]) S λd S'=>∃ r:Nat,d=.int (r:Int)/\r<m/\Ft ns p N S'/\S'.length=S.length/\∀ q,q≠p->S'[q]?=S[q]?:=by
 rw [rn,c7 (fd:=a87) rfl,b4d]
 exact b1d h hm hm2
theorem a02:∀ {l:List Int} {j:Nat} (h:j<l.length),(l[j] :: l.eraseIdx j).Perm l
 | a :: l,0,_=>.refl _
 | a :: l,j+1,h=>by
  show (l[j]'(by simpa using h) :: a :: l.eraseIdx j).Perm (a :: l)
  exact (List.Perm.swap ..).trans ((a02 (by simpa using h)).cons a)
theorem a6s {ns:List Int} {p N:Nat} {S:Sto} {hs:List Int} (h:Ft ns p (N+6) S) (hl:hs.length<=6) (k:Nat):Ok (rn (k+2) b8w [.ref p,.lst (hs.map D.int)]) S λd S'=>∃ os:List Int,d=.lst (os.map D.int)/\os.Perm hs/\Ft ns p N S'/\Tk p S S':=by
 rw [rn,c7 (fd:=a8s) rfl,b40]
 have hp:=P6 h
 refine Ok.eq (show listP (.lst (hs.map D.int)) S=.ok (.ref S.length) (S++[.lst (hs.map D.int)]) from rfl)<|nx_bind<|Ok.eq (b6n _ _) ?_
 rw [List.length_map]
 refine Ok.eq (O1 (by omega) _) ?_
 refine (Ok.comp (n:=hs.length) (λi S' es=>∃ os lf:List Int,es=os.map D.int/\os.length=i/\(os++lf).Perm hs/\Ft ns p (N+(6-i)) S'/\S'.length=S.length+1/\S'[S.length]?=some (.lst (lf.map D.int))/\∀ q,q<S.length->q≠p->S'[q]?=S[q]?) (λS' es _=>R4 _ S') ?_ ?_).mono ?_
 ·rintro i S' es hi ⟨os,lf,rfl,h1,h2,h5,h6,h7,h8⟩
  have ln:=h2.length_eq
  rw [List.length_append] at ln
  refine ⟨.int (i:Int),a1n hi S',Ok.ret ?_⟩
  rw [if_pos rfl]
  refine Ok.eq (a5x h7) (Ok.eq (b69 h7) ?_)
  rw [List.length_map]
  refine Ok.bind ((G2 (m:=lf.length) (N:=N+(6-(i+1))) (h5.less (by omega)) (by omega) (by omega) k).mono ?_)
  rintro _ S1 ⟨r,rfl,hr,f1,l1,k1⟩
  have hg:lf[r]?=some lf[r]:=List.getElem?_eq_getElem hr
  have e7:S1[S.length]?=some (.lst (lf.map D.int)):=by rw [k1 _ (by omega)];exact h7
  refine Ok.eq (b7c e7 (f9 hg) (by omega)) (Ok.ret ?_)
  refine ⟨?_,os++[lf[r]],lf.eraseIdx r,by simp,by simp [h1],?_,?_,by simp [l1,h6],?_,?_⟩
  ·rw [List.length_map,h1];exact u9 (by omega)
  ·refine List.Perm.trans ?_ h2
   rw [List.append_assoc]
   refine List.Perm.append_left os ?_
   exact a02 hr
  ·refine f1.keep ?_
   rw [List.getElem?_set_ne (by omega)]
  ·rw [List.getElem?_set_self (by omega),O9]
  ·intro q hq hqp
   rw [List.getElem?_set_ne (by omega),k1 q hqp,h8 q hq hqp]
 ·refine ⟨[],hs,rfl,rfl,by simp,(h.less (by omega)).keep (by rw [List.getElem?_append_left hp]),by simp,by rw [List.getElem?_append_right (Nat.le_refl _)];simp,λq hq _=>by rw [List.getElem?_append_left hq]⟩
 ·rintro es S' ⟨os,lf,rfl,h1,h2,h5,h6,h7,h8⟩
  have ln:=h2.length_eq
  rw [List.length_append] at ln
  have:lf=[]:=List.length_eq_zero_iff.mp (by omega)
  subst this
  rw [List.append_nil] at h2
  exact Ok.ret ⟨os,rfl,h2,h5.less (by omega),by omega,h8⟩
noncomputable def gl (g:Nat) (bl:List (List Int)):O:=.lst ((List.range bl.length).map λj=>D.ref (g+1+j))
noncomputable def bs (bl:List (List Int)):Sto:=bl.map λb=>O.lst (b.map D.int)
noncomputable def Gs (T U:Sto) (bl:List (List Int)):Sto:=T++gl (T.length+U.length) bl :: (U++bs bl)
theorem b6f (T U:Sto) (bl:List (List Int)):(Gs T U bl)[T.length]?=some (gl (T.length+U.length) bl):=by
 unfold Gs
 rw [List.getElem?_append_right (Nat.le_refl _)];simp
theorem b8q {T U:Sto} {bl:List (List Int)} {j:Nat} {b:List Int} (h:bl[j]?=some b):(Gs T U bl)[T.length+U.length+1+j]?=some (.lst (b.map D.int)):=by
 unfold Gs bs
 rw [List.getElem?_append_right (by omega),show T.length+U.length+1+j-T.length=(U.length+j)+1 by omega,List.getElem?_cons_succ,List.getElem?_append_right (by omega),show U.length+j-U.length=j by omega,f9 h]
theorem a3r (T U:Sto) (bl:List (List Int)):(Gs T U bl).length=T.length+U.length+1+bl.length:=by
 unfold Gs bs
 rw [List.length_append,List.length_cons,List.length_append,List.length_map];omega
theorem b7g {T U:Sto} {bl:List (List Int)} {q:Nat} (h:q<T.length):(Gs T U bl)[q]?=T[q]?:=by
 unfold Gs
 rw [List.getElem?_append_left h]
theorem c07 (T U:Sto) (bl:List (List Int)):(Gs T U bl++[O.lst []]).set T.length (.lst ((List.range bl.length).map (λj=>D.ref (T.length+U.length+1+j))++[.ref (Gs T U bl).length]))=Gs T U (bl++[[]]):=by
 rw [a3r]
 unfold Gs gl bs
 rw [List.append_assoc,List.set_append_right _ _ (Nat.le_refl _)]
 simp [List.range_succ]
theorem b70 (T U:Sto) (bl:List (List Int)) (b:List Int) (h:Int):(Gs T U (bl++[b])).set (T.length+U.length+1+bl.length) (.lst (b.map D.int++[.int h]))=Gs T U (bl++[b++[h]]):=by
 unfold Gs gl bs
 rw [List.set_append_right _ _ (by omega)]
 rw [show T.length+U.length+1+bl.length-T.length=(U.length+bl.length)+1 by omega,List.set_cons_succ,List.set_append_right _ _ (by omega)]
 simp [show U.length+bl.length-U.length=bl.length by omega,List.set_append_right]
theorem a93 (n:Nat) {S:Sto} {k:Nat} {ds:List D} (e:S[k]?=some (.lst ds)):i9 (n+1) S (.ref k)=(f8 (i9 n S) ds).map .list:=by simp only [i9,e]
noncomputable def pL (b:List Int):PyData:=.list (b.map .int)
theorem a6c {α β γ:Type} {f:β->Option γ} {g:α->β} {q:α->γ}:∀ {l:List α},(∀ a∈l,f (g a)=some (q a))->f8 f (l.map g)=some (l.map q)
 | [],_=>rfl
 | a :: l,h=>by simp only [List.map_cons,f8,h a (List.mem_cons_self ..),a6c λb hb=>h b (List.mem_cons_of_mem _ hb)]
theorem a5e {α:Type} {q:α->PyData}:∀ {l:List α},(∀ a∈l,(q a).canLay0=true)->PyData.canLayAll0 (l.map q)=true
 | [],_=>rfl
 | a :: l,h=>by simp only [List.map_cons,PyData.canLayAll0,h a (List.mem_cons_self ..),a5e λb hb=>h b (List.mem_cons_of_mem _ hb),Bool.and_self]
theorem c1w (T U:Sto) (bl:List (List Int)):d5 .Eq (.ref T.length) (.lst []) (Gs T U bl)=.ok (.bl bl.isEmpty) (Gs T U bl):=by
 show eqP false (.ref T.length) (.lst []) (Gs T U bl)=_
 have m:f8 (i9 63 (Gs T U bl)) ((List.range bl.length).map λj=>D.ref (T.length+U.length+1+j))=some ((List.range bl.length).map λj=>pL (bl.getD j [])):=by
  refine a6c λj hj=>?_
  have hj:j<bl.length:=List.mem_range.mp hj
  have e:=b8q (T:=T) (U:=U) (List.getElem?_eq_getElem hj)
  rw [a93 62 e,R6 61]
  have:bl.getD j []=bl[j]:=by simp [hj]
  rw [this];rfl
 have e:i9 64 (Gs T U bl) (.ref T.length)=some (.list ((List.range bl.length).map λj=>pL (bl.getD j []))):=by
  rw [a93 63 (b6f T U bl),m];rfl
 unfold eqP
 rw [e]
 show (if PyData.canLay0 (.list ((List.range bl.length).map λj=>pL (bl.getD j [])))=true/\PyData.canLay0 (.list [])=true/\min (PyData.depth (.list ((List.range bl.length).map λj=>pL (bl.getD j [])))) (PyData.depth (.list []))<=60 then ret (D.bl (PyData.eqv (.list ((List.range bl.length).map λj=>pL (bl.getD j []))) (.list []))) else bad) (Gs T U bl)=_
 have hd:PyData.depth (.list [])<=60:=by simp [PyData.depth,PyData.depthAll]
 rw [if_pos ⟨by simp only [PyData.canLay0];exact a5e λj _=>by unfold pL;simp only [PyData.canLay0];exact a0j _,rfl,by omega⟩]
 cases bl with
 | nil=>rfl
 | cons b bl=>
  show R.ok (D.bl (PyData.eqv (.list ((List.range (bl.length+1)).map λj=>pL ((b :: bl).getD j []))) (.list []))) _=_
  rw [List.range_succ_eq_map]
  rfl
theorem c17 {S:Sto} {n:Nat} {ds:List D} {d:D} (e:S[n]?=some (.lst ds)) (h:ds.getLast?=some d):ixD (.ref n) (.int (-1)) S=.ok d S:=by
 have:=b4q S h
 have a:atI ds (-1)=some d:=by
  cases q:atI ds (-1) with
  | none=>
   have t:ixD (.tup ds) (.int (-1)) S=V0 (atI ds (-1)) S:=rfl
   rw [t,q] at this;cases this
  | some x=>
   have t:ixD (.tup ds) (.int (-1)) S=V0 (atI ds (-1)) S:=rfl
   rw [t,q] at this;cases this;rfl
 simp only [ixD,e,a];rfl
theorem b8u (T U:Sto) (bl:List (List Int)) (hb:bl.length<=60) {β:Type} (κ:M β):bind (lstOf (.ref T.length)) (λ_=>bind (newL []) λe=>bind (Q6 (.ref T.length) [e]) λ_=>κ) (Gs T U bl)=κ (Gs T U (bl++[[]])):=by
 have e:=b6f T U bl
 have nw:newL [] (Gs T U bl)=.ok (.ref (Gs T U bl).length) (Gs T U bl++[.lst []]):=rfl
 have e2:(Gs T U bl++[O.lst []])[T.length]?=some (gl (T.length+U.length) bl):=by rw [List.getElem?_append_left (by rw [a3r];omega)];exact e
 rw [a7 (a5x e),a7 nw,a7 (b6x e2 (by rw [List.length_map,List.length_range];exact u9 hb)),c07]
theorem b2t:∀ bl:List (List Int),((bl.map srt).flatten).Perm bl.flatten
 | []=>.refl _
 | b :: bl=>by
  rw [List.map_cons,List.flatten_cons,List.flatten_cons]
  exact (i7 b).append (b2t bl)
theorem b0h {ns:List Int} {p N m:Nat} {T U:Sto} {bl:List (List Int)} (h:Ft ns p (N+1) T) (hm:0<m) (hm2:m<1000000) (k:Nat):Ok (rn (k+1) b2b [.ref p,.int (m:Int)]) (Gs T U bl) λd S'=>∃ (r:Nat) (T':Sto),d=.int (r:Int)/\r<m/\S'=Gs T' U bl/\T'.length=T.length/\Ft ns p N T'/\∀ q,q≠p->T'[q]?=T[q]?:=by
 have h1:Ft ns p (N+1) (Gs T U bl):=h.keep (b7g (P6 h))
 refine (G2 h1 hm hm2 k).mono ?_
 rintro _ S' ⟨r,rfl,hr,f,l,kq⟩
 obtain ⟨T',e,l',k',kp⟩:=a4l (T:=T) (R:=gl (T.length+U.length) bl :: (U++bs bl)) (P6 h) l kq
 refine ⟨r,T',rfl,hr,?_,l',f.keep kp,k'⟩
 rw [e];unfold Gs;rw [l']
structure ROk (m:Nat) (r:List (List Int)):Prop where
 pm:r.flatten.Perm (rgI m)
 up:∀ b∈r,b.Pairwise (· < ·)
 ne:∀ b∈r,b≠[]
theorem lrg {m:Nat} (h:m<=6) (S:Sto):G3 (.int (m:Int)) S=.ok (.lst ((rgI m).map D.int)) S:=by
 show (if 0<=(m:Int)/\(m:Int)<100000 then ret (D.lst ((rgL (m:Int).toNat).map D.int)) else bad) S=_
 rw [if_pos ⟨by omega,by omega⟩];rfl
theorem b6m (m:Nat):(rgI m).Nodup:=by
 show (rgL m).Nodup
 unfold rgL
 rw [List.nodup_iff_pairwise_ne,List.pairwise_map]
 exact List.Pairwise.imp (λh e=>h (by omega)) (List.nodup_iff_pairwise_ne.mp List.nodup_range)
theorem c3v {b:List Int}:∀ {r:List (List Int)},r.flatten.Nodup->b∈r->b.Nodup:=λh hb=>List.Nodup.sublist (List.sublist_flatten_of_mem hb) h
theorem b0k {ns:List Int} {p N m:Nat} {S:Sto} (h:Ft ns p (N+13) S) (hm:m<=6) (k:Nat):Ok (rn (k+3) c0o [.ref p,.int (m:Int)]) S λd S'=>∃ r:List (List Int),d=u0 r/\ROk m r/\Ft ns p N S'/\Tk p S S':=by
 rw [rn,c7 (fd:=Ad) rfl,b3k,b5w]
 have hp:=P6 h
 refine Ok.first<|Ok.cg (c2s ..)<|Ok.eq (show newL [] S=.ok (.ref S.length) (S++[.lst []]) from rfl) ?_
 have F0:Ft ns p (N+13) (S++[.lst []]):=h.keep (by rw [List.getElem?_append_left hp])
 refine Ok.nxt<|Ok.cg (c27 ..)<|Ok.bind ((G2 (N:=N+12) (m:=2) F0 (by omega) (by omega) (k+1)).mono ?_)
 rintro _ S1 ⟨w,rfl,hw,F1,l1,k1⟩
 refine Ok.eq (O7 2 w S1)<|Ok.nxt<|Ok.cg (c1g ..)<|Ok.eq (lrg hm S1)<|Ok.bind ((a6s (N:=N+6) F1 (by rw [O2];omega) k).mono ?_)
 rintro _ S2 ⟨os,rfl,po,F2,t2⟩
 have lo:os.length=m:=by rw [po.length_eq,O2]
 rw [List.length_append] at l1
 have l1:S1.length=S.length+1:=l1
 have g2:S2[S.length]?=some (.lst []):=by rw [t2.2 _ (by omega) (by omega),k1 _ (by omega)];simp
 obtain ⟨gl2,_⟩:=List.getElem?_eq_some_iff.mp g2
 have e2:S2=Gs (S2.take S.length) (S2.drop (S.length+1)) []:=by
  unfold Gs gl bs
  rw [List.map_nil,List.append_nil]
  conv=>lhs;rw [<- List.take_append_drop S.length S2]
  rw [List.drop_eq_getElem_cons gl2,(List.getElem?_eq_some_iff.mp g2).2]
  rfl
 have lT:(S2.take S.length).length=S.length:=by rw [List.length_take];omega
 have FT:Ft ns p (N+6) (S2.take S.length):=F2.keep (by rw [List.getElem?_take_of_lt hp])
 have kT:∀ q,q<S.length->q≠p->(S2.take S.length)[q]?=S[q]?:=λq hq hqp=>by
  rw [List.getElem?_take_of_lt hq,t2.2 q (by omega) hqp,k1 q hqp,List.getElem?_append_left hq]
 generalize S2.take S.length=T at e2 lT FT kT
 generalize S2.drop (S.length+1)=U at e2
 subst e2
 refine Ok.eq (show t9 (.lst (os.map D.int)) (Gs T U [])=.ok (L6 (os.map D.int),(os.map D.int).length+1) (Gs T U []) from rfl) ?_
 rw [List.length_map,lo,<- lT]
 refine Ok.bind ((Ok.for_ (n:=m) (λi ρ S'=>∃ (T':Sto) (bl:List (List Int)) (o:Option D),ρ=[some (.ref p),some (.int (m:Int)),some (.ref T.length),some (.int ((2+w:Nat):Int)),o]/\S'=Gs T' U bl/\T'.length=T.length/\bl.flatten=os.take i/\(∀ b∈bl,b≠[])/\bl.length<=i/\Ft ns p (N+(6-i)) T'/\∀ q,q≠p->T'[q]?=T[q]?) (λ_ _=>False) (λ_ _=>False) ?_ ?_ m 0 _ _ (by omega) ⟨T,[],none,rfl,rfl,rfl,by simp,by simp,by simp,FT,λ_ _=>rfl⟩).mono ?_)
 ·intro ρ S' _
  show some (os.map D.int)[m]?=some none
  rw [List.getElem?_eq_none (by rw [List.length_map,lo];exact Nat.le_refl _)]
 ·rintro i ρ S' hi ⟨T',bl,o,rfl,rfl,lT',fl,ne,bi,fT',kT'⟩
  have hi':i<os.length:=by rw [lo];exact hi
  have tk:os.take (i+1)=os.take i++[os[i]]:=List.take_succ_eq_append_getElem hi'
  refine ⟨.int os[i],_,by show some (os.map D.int)[i]?=_;rw [f9 (List.getElem?_eq_getElem hi')],rfl,?_⟩
  unfold a2j
  rw [a10]
  have fin:∀ (T2:Sto) (b2:List (List Int)) (b:List Int),T2.length=T.length->(b2++[b]).flatten=os.take i->(∀ b∈b2,b≠[])->(b2++[b]).length<=i+1->Ft ns p (N+(6-(i+1))) T2->(∀ q,q≠p->T2[q]?=T[q]?)->Ok (nxt (evK Rs Γ (λi ds=>rn (k+2) i ds) 39) D4 [nth u6 1] ret (.nx [some (.ref p),some (.int (m:Int)),some (.ref T.length),some (.int ((2+w:Nat):Int)),some (.int os[i])])) (Gs T2 U (b2++[b])) (FlI (λρ S'=>∃ (T':Sto) (bl:List (List Int)) (o:Option D),ρ=[some (.ref p),some (.int (m:Int)),some (.ref T.length),some (.int ((2+w:Nat):Int)),o]/\S'=Gs T' U bl/\T'.length=T.length/\bl.flatten=os.take (i+1)/\(∀ b∈bl,b≠[])/\bl.length<=i+1/\Ft ns p (N+(6-(i+1))) T'/\∀ q,q≠p->T'[q]?=T[q]?) (λ_ _=>False) (λ_ _=>False)):=λT2 b2 b l2 f2 n2 c2 d2 q2=>by
   have hb:b.length<=60:=by
    have:=congrArg List.length f2
    rw [List.flatten_append,List.length_append,List.length_take] at this
    simp at this
    omega
   have e:=b6f T2 U (b2++[b])
   have eb:=b8q (T:=T2) (U:=U) (bl:=b2++[b]) (j:=b2.length) (b:=b) (by simp)
   rw [<- l2]
   refine Ok.nxt<|Ok.cg (a78 ..)<|Ok.eq (a:=.int (-1)) (S1:=Gs T2 U (b2++[b])) (by kernel_rfl)<|Ok.eq (c17 (d:=.ref (T2.length+U.length+1+b2.length)) e (by rw [List.length_append];simp [List.range_succ]))<|Ok.eq (a5x eb)<|Ok.eq (b6x eb (by rw [List.length_map];exact u9 hb)) ?_
   rw [b70]
   refine Ok.ret ⟨T2,b2++[b++[os[i]]],_,rfl,rfl,rfl,?_,?_,?_,d2,q2⟩
   ·rw [tk,<- f2];simp
   ·intro c hc
    rcases List.mem_append.mp hc with z | z
    ·exact n2 c z
    ·rw [List.mem_singleton.mp z];simp
   ·simpa using c2
  have fresh:∀ (T2:Sto),T2.length=T.length->Ft ns p (N+(6-(i+1))) T2->(∀ q,q≠p->T2[q]?=T[q]?)->Ok (bind (lstOf (.ref T.length)) λ_=>bind (newL []) λe=>bind (Q6 (.ref T.length) [e]) λ_=>(nxt (evK Rs Γ (λi ds=>rn (k+2) i ds) 39) D4 [nth u6 1] ret (.nx [some (.ref p),some (.int (m:Int)),some (.ref T.length),some (.int ((2+w:Nat):Int)),some (.int os[i])]))) (Gs T2 U bl) (FlI (λρ S'=>∃ (T':Sto) (bl:List (List Int)) (o:Option D),ρ=[some (.ref p),some (.int (m:Int)),some (.ref T.length),some (.int ((2+w:Nat):Int)),o]/\S'=Gs T' U bl/\T'.length=T.length/\bl.flatten=os.take (i+1)/\(∀ b∈bl,b≠[])/\bl.length<=i+1/\Ft ns p (N+(6-(i+1))) T'/\∀ q,q≠p->T'[q]?=T[q]?) (λ_ _=>False) (λ_ _=>False)):=λT2 l2 d2 q2=>by
   have e:=λκ:M Fl=>b8u T2 U bl (by omega) κ
   rw [l2] at e
   refine Ok.cgS (m':=λ_=>(nxt (evK Rs Γ (λi ds=>rn (k+2) i ds) 39) D4 [nth u6 1] ret (.nx [some (.ref p),some (.int (m:Int)),some (.ref T.length),some (.int ((2+w:Nat):Int)),some (.int os[i])])) (Gs T2 U (bl++[[]]))) (e _) ?_
   exact fin T2 bl [] l2 (by simp [fl]) ne (by simpa using bi) d2 q2
  have eq:=c1w T' U bl
  rw [lT'] at eq
  refine Ok.first<|Ok.cg (a7j ..)<|Ok.eq eq<|Ok.eq (c8 _ _) ?_
  cases hb:bl with
  | nil=>
   rw [show List.isEmpty ([]:List (List Int))=true from rfl,if_pos rfl]
   rw [hb] at fresh
   exact fresh T' lT' (fT'.less (by omega)) kT'
  | cons b0 bt=>
   rw [show List.isEmpty (b0 :: bt)=false from rfl,if_neg Bool.false_ne_true]
   rw [<- hb]
   refine Ok.bind ((b0h (N:=N+(6-(i+1))) (m:=2+w) (fT'.less (by omega)) (by omega) (by omega) (k+1)).mono ?_)
   rintro _ _ ⟨c,T2,rfl,hc,rfl,l2,f2,k2⟩
   have l3:T2.length=T.length:=by rw [l2,lT']
   have k3:∀ q,q≠p->T2[q]?=T[q]?:=λq hq=>by rw [k2 q hq,kT' q hq]
   refine Ok.eq (b6k _ _ _)<|Ok.eq (c8 _ _) ?_
   by_cases hz:(c:Int)=0
   ·rw [decide_eq_true hz,if_pos rfl]
    exact fresh T2 l3 f2 k3
   ·rw [decide_eq_false hz,if_neg Bool.false_ne_true]
    have hne:bl≠[]:=by rw [hb];exact List.cons_ne_nil _ _
    have e2:bl=bl.dropLast++[bl.getLast hne]:=(List.dropLast_concat_getLast hne).symm
    have:=fin T2 bl.dropLast (bl.getLast hne) l3 (by rw [<- e2];exact fl) (λb hb=>ne b (List.dropLast_subset _ hb)) (by rw [<- e2];omega) f2 k3
    rw [<- e2] at this
    exact this
 ·intro fl S' q
  cases fl with
  | rt d=>exact q.elim
  | bk ρ=>exact q.elim
  | ct ρ=>exact q.elim
  | nx ρ=>
   rcases q with ⟨T',bl,o,rfl,rfl,lT',fl,ne,bi,fT',kT'⟩ | q
   ·rw [<- lT']
    have eg:=b6f T' U bl
    rw [<- lo,List.take_length] at fl
    refine Ok.nxt<|Ok.cg (c2y ..)<|nx_bind<|Ok.eq (show t9 (.ref T'.length) (Gs T' U bl)=.ok (a7r T'.length,bl.length+1) (Gs T' U bl) by
     simp only [t9,eg,gl,List.length_map,List.length_range]) ?_
    have fll:bl.flatten.length=m:=by rw [fl,lo]
    have nd:bl.flatten.Nodup:=by rw [fl];exact po.nodup_iff.mpr (b6m m)
    have c:=C4 (src:=a7r T'.length) (l:=List.range bl.length) (h:=λj=>D.ref (T'.length+U.length+1+j)) (g:=λj=>q5 (srt (bl.getD j []))) (p:=λ_=>true) (t:=λ_=>ret true) (f:=λd=>bind (G4 d) λl=>bind (f7 l) λx=>ret x) (S:=Gs T' U bl) (λi=>by rw [c1y eg]) (by rw [List.length_range];exact u9 (by omega)) (λ_ _=>rfl) (λj hj _=>by
     have hj:j<bl.length:=List.mem_range.mp hj
     have eb:=b8q (T:=T') (U:=U) (List.getElem?_eq_getElem hj)
     have lb:bl[j].length<64:=by
      have:bl[j].length<=bl.flatten.length:=(List.sublist_flatten_of_mem (List.getElem_mem hj)).length_le
      omega
     have eg:bl.getD j []=bl[j]:=by simp [hj]
     rw [a7 (a2k eb lb),eg]
     rfl)
    rw [List.length_range] at c
    refine Ok.of c<|Ok.eq (a:=.tup _) rfl<|Ok.ret ⟨bl.map srt,?_,⟨?_,?_,?_⟩,(fT'.less (by omega)).keep (b7g (P6 fT')),?_,?_⟩
    ·unfold u0
     rw [List.map_map]
     congr 1
     rw [List.filter_eq_self.mpr (λ_ _=>rfl)]
     apply List.ext_getElem?
     intro i
     simp only [List.getElem?_map]
     by_cases hi:i<bl.length
     ·rw [List.getElem?_range hi,List.getElem?_eq_getElem hi]
      simp [hi]
     ·rw [List.getElem?_eq_none (by simpa using hi),List.getElem?_eq_none (by simpa using hi)]
      rfl
    ·exact (b2t bl).trans (by rw [fl];exact po)
    ·intro b hb
     obtain ⟨c,hc,rfl⟩:=List.mem_map.mp hb
     exact a00 (c3v nd hc)
    ·intro b hb
     obtain ⟨c,hc,rfl⟩:=List.mem_map.mp hb
     intro z
     have:=(i7 c).length_eq
     rw [z] at this
     exact ne c hc (List.length_eq_zero_iff.mp this.symm)
    ·rw [a3r];omega
    ·intro q hq hqp
     rw [b7g (by omega),kT' q hqp,kT q hq hqp]
   ·exact q.elim
theorem a5d:∀ {a b:List Int},a.Pairwise (· < ·)->b.Pairwise (· < ·)->(∀ x,x∈a↔x∈b)->a=b
 | [],[],_,_,_=>rfl
 | [],y :: b,_,_,h=>by have:=(h y).mpr (List.mem_cons_self ..);cases this
 | x :: a,[],_,_,h=>by have:=(h x).mp (List.mem_cons_self ..);cases this
 | x :: a,y :: b,ha,hb,h=>by
  rw [List.pairwise_cons] at ha hb
  have e:x=y:=by
   rcases List.mem_cons.mp ((h x).mp (List.mem_cons_self ..)) with z | z
   ·exact z
   ·rcases List.mem_cons.mp ((h y).mpr (List.mem_cons_self ..)) with w | w
    ·exact w.symm
    ·have:=hb.1 x z
     have:=ha.1 y w
     omega
  subst e
  rw [a5d ha.2 hb.2 λz=>⟨λq=>?_,λq=>?_⟩]
  ·rcases List.mem_cons.mp ((h z).mp (List.mem_cons_of_mem _ q)) with w | w
   ·subst w;have:=ha.1 z q;omega
   ·exact w
  ·rcases List.mem_cons.mp ((h z).mpr (List.mem_cons_of_mem _ q)) with w | w
   ·subst w;have:=hb.1 z q;omega
   ·exact w
noncomputable def a1u (h:Int):List (List Int)->List (List Int)
 | []=>[]
 | b :: bs=>if h∈b then [b] else b :: a1u h bs
noncomputable def w8 (r:List (List Int)) (h:Int):List Int:=srt (a1u h r).flatten
theorem a5y {h:Int}:∀ {r:List (List Int)} {i:Nat} {b:List Int},r[i]?=some b->h∈b->(∀ c∈r.take i,h∉c)->a1u h r=r.take (i+1)
 | [],i,b,e,_,_=>by simp at e
 | c :: cs,0,b,e,hb,_=>by
  simp at e;subst e
  unfold a1u
  rw [if_pos hb];simp
 | c :: cs,i+1,b,e,hb,hn=>by
  unfold a1u
  rw [if_neg (hn c (by simp)),a5y (i:=i) (by simpa using e) hb λd hd=>hn d (by simp [hd])]
  simp
theorem rg_mem {m:Nat} {x:Int}:x∈rgI m↔∃ i:Nat,i<m/\x=(i:Int):=by
 show x∈rgL m↔_
 unfold rgL
 rw [List.mem_map]
 constructor
 ·rintro ⟨i,hi,e⟩;exact ⟨i,List.mem_range.mp hi,e.symm⟩
 ·rintro ⟨i,hi,e⟩;exact ⟨i,List.mem_range.mpr hi,e.symm⟩
theorem c4k (m:Nat):(rgI m).Pairwise (· < ·):=by
 show (rgL m).Pairwise _
 unfold rgL
 rw [List.pairwise_map]
 exact List.Pairwise.imp (λh=>by omega) List.pairwise_lt_range
section
variable {m:Nat} {r:List (List Int)} (R:ROk m r)
include R
theorem ROk.nd:r.flatten.Nodup:=R.pm.nodup_iff.mpr (b6m m)
theorem ROk.len:r.flatten.length=m:=by rw [R.pm.length_eq,O2]
theorem ROk.apart:r.Pairwise λa b=>∀ x∈a,∀ y∈b,x≠y:=(List.pairwise_flatten.mp (List.nodup_iff_pairwise_ne.mp R.nd)).2
theorem ROk.hd {i:Nat} (hi:i<m):∃ (a:Nat) (ha:a<r.length),(i:Int)∈r[a]:=by
 have:=R.pm.mem_iff.mpr (rg_mem.mpr ⟨i,hi,rfl⟩)
 obtain ⟨b,hb,h⟩:=List.mem_flatten.mp this
 obtain ⟨a,ha,rfl⟩:=List.getElem_of_mem hb
 exact ⟨a,ha,h⟩
theorem ROk.one {a b:Nat} (ha:a<r.length) (hb:b<r.length) {x:Int} (xa:x∈r[a]) (xb:x∈r[b]):a=b:=by
 have q:=List.pairwise_iff_getElem.mp R.apart
 rcases Nat.lt_trichotomy a b with z | z | z
 ·exact (q a b ha hb z x xa x xb rfl).elim
 ·exact z
 ·exact (q b a hb ha z x xb x xa rfl).elim
theorem ROk.up_to {a:Nat} (ha:a<r.length) {x:Int} (xa:x∈r[a]):a1u x r=r.take (a+1):=by
 refine a5y (List.getElem?_eq_getElem ha) xa λc hc q=>?_
 obtain ⟨j,hj,e⟩:=List.getElem_of_mem hc
 rw [List.length_take] at hj
 rw [List.getElem_take] at e
 subst e
 have:=R.one (show j<r.length by omega) ha q xa
 omega
theorem ROk.few:r.length<=m:=by
 have:∀ l:List (List Int),(∀ b∈l,b≠[])->l.length<=l.flatten.length:=λl=>by
  induction l with
  | nil=>intro _;simp
  | cons b l ih=>
   intro h
   have h1:=ih λc hc=>h c (List.mem_cons_of_mem _ hc)
   have h2:0<b.length:=List.length_pos_iff.mpr (h b (List.mem_cons_self ..))
   rw [List.flatten_cons,List.length_append,List.length_cons]
   omega
 have:=this r R.ne
 rw [R.len] at this
 exact this
end
noncomputable def vw (r:List (List Int)) (m:Nat):List (List Int):=(List.range m).map λ(i:Nat)=>w8 r (i:Int)
noncomputable def sz (vs:List (List Int)) (i:Nat):Nat:=(vs.getD i []).length
noncomputable def szI (vs:List (List Int)):List Int:=(List.range vs.length).map λi=>(sz vs i:Int)
noncomputable def blk (vs:List (List Int)) (s:Int):List Int:=((List.range vs.length).filter λi=>decide ((sz vs i:Int)=s)).map λ(i:Nat)=>(i:Int)
noncomputable def ss (vs:List (List Int)):List Int:=srt (D2 (szI vs))
noncomputable def ro (vs:List (List Int)):List (List Int):=(ss vs).map (blk vs)
theorem b7y {vs:List (List Int)} {x:Int}:x∈szI vs↔∃ i,i<vs.length/\x=(sz vs i:Int):=by
 unfold szI
 rw [List.mem_map]
 constructor
 ·rintro ⟨i,hi,e⟩;exact ⟨i,List.mem_range.mp hi,e.symm⟩
 ·rintro ⟨i,hi,e⟩;exact ⟨i,List.mem_range.mpr hi,e.symm⟩
theorem c2b (vs:List (List Int)):(ss vs).Pairwise (· < ·):=a00 (b4o _)
theorem b9x {vs:List (List Int)} {x:Int}:x∈ss vs↔∃ i,i<vs.length/\x=(sz vs i:Int):=by
 unfold ss
 rw [(i7 _).mem_iff,a9m,b7y]
theorem b36 {vs:List (List Int)} {s x:Int}:x∈blk vs s↔∃ i:Nat,i<vs.length/\(sz vs i:Int)=s/\x=(i:Int):=by
 unfold blk
 rw [List.mem_map]
 constructor
 ·rintro ⟨i,hi,e⟩
  obtain ⟨h1,h2⟩:=List.mem_filter.mp hi
  exact ⟨i,List.mem_range.mp h1,of_decide_eq_true h2,e.symm⟩
 ·rintro ⟨i,hi,h2,e⟩
  exact ⟨i,List.mem_filter.mpr ⟨List.mem_range.mpr hi,decide_eq_true h2⟩,e.symm⟩
theorem b79 (vs:List (List Int)) (s:Int):(blk vs s).Pairwise (· < ·):=by
 unfold blk
 rw [List.pairwise_map]
 exact List.Pairwise.imp (λh=>by omega) (List.Pairwise.filter _ List.pairwise_lt_range)
theorem D5 (r:List (List Int)) (j:Nat):(r.take j).flatten.Sublist r.flatten:=by
 conv=>rhs;rw [<- List.take_append_drop j r,List.flatten_append]
 exact List.sublist_append_left ..
theorem O3 (r:List (List Int)) (m:Nat):(vw r m).length=m:=by unfold vw;rw [List.length_map,List.length_range]
theorem c1r (r:List (List Int)) {m i:Nat} (h:i<m):(vw r m).getD i []=w8 r (i:Int):=by
 unfold vw
 rw [List.getD_eq_getElem?_getD,f9 (List.getElem?_range h)];rfl
noncomputable def pfx (r:List (List Int)) (j:Nat):Nat:=(r.take j).flatten.length
theorem E1 {r:List (List Int)} (ne:∀ b∈r,b≠[]):∀ {a b:Nat},a<b->b<=r.length->pfx r a<pfx r b
 | a,0,h,_=>by omega
 | a,b+1,h,hb=>by
  have st:pfx r b<pfx r (b+1):=by
   unfold pfx
   have:0<(r[b]'(by omega)).length:=List.length_pos_iff.mpr (ne _ (List.getElem_mem _))
   rw [List.take_succ_eq_append_getElem (by omega),List.flatten_append,List.length_append]
   simp only [List.flatten_cons,List.flatten_nil,List.append_nil]
   omega
  by_cases q:a=b
  ·subst q;exact st
  ·exact Nat.lt_trans (E1 ne (by omega) (by omega)) st
theorem a63 {m:Nat} {r:List (List Int)} (R:ROk m r) {i a:Nat} (hi:i<m) (ha:a<r.length) (h:(i:Int)∈r[a]):sz (vw r m) i=pfx r (a+1):=by
 unfold sz
 rw [c1r r hi]
 unfold w8 pfx
 rw [R.up_to ha h,(i7 _).length_eq]
theorem c3a {m:Nat} {r:List (List Int)} (R:ROk m r):ro (vw r m)=r:=by
 have inv:∀ {a b:Nat},a<r.length->b<r.length->pfx r (a+1)=pfx r (b+1)->a=b:=λ{a b} ha hb e=>by
  rcases Nat.lt_trichotomy a b with z | z | z
  ·have:=E1 R.ne (show a+1<b+1 by omega) (by omega);omega
  ·exact z
  ·have:=E1 R.ne (show b+1<a+1 by omega) (by omega);omega
 have e1:ss (vw r m)=(List.range r.length).map λa=>(pfx r (a+1):Int):=by
  refine a5d (c2b _) ?_ λx=>?_
  ·rw [List.pairwise_map]
   refine List.Pairwise.imp_of_mem (λ{a b} ha hb h=>?_) List.pairwise_lt_range
   have hb:=List.mem_range.mp hb
   have:=E1 R.ne (show a+1<b+1 by omega) (by omega)
   omega
  ·rw [b9x,O3,List.mem_map]
   constructor
   ·rintro ⟨i,hi,rfl⟩
    obtain ⟨a,ha,h⟩:=R.hd hi
    exact ⟨a,List.mem_range.mpr ha,by rw [a63 R hi ha h]⟩
   ·rintro ⟨a,ha,rfl⟩
    have ha:=List.mem_range.mp ha
    obtain ⟨x,hx⟩:=List.exists_mem_of_ne_nil _ (R.ne _ (List.getElem_mem ha))
    obtain ⟨i,hi,rfl⟩:=rg_mem.mp (R.pm.mem_iff.mp (List.mem_flatten.mpr ⟨_,List.getElem_mem ha,hx⟩))
    exact ⟨i,hi,by rw [a63 R hi ha hx]⟩
 unfold ro
 rw [e1,List.map_map]
 apply List.ext_getElem
 ·rw [List.length_map,List.length_range]
 ·intro a h1 h2
  rw [List.getElem_map,List.getElem_range]
  refine a5d (b79 _ _) (R.up _ (List.getElem_mem h2)) λx=>?_
  show x∈blk (vw r m) (pfx r (a+1))↔_
  rw [b36,O3]
  constructor
  ·rintro ⟨i,hi,e,rfl⟩
   obtain ⟨b,hb,h⟩:=R.hd hi
   rw [a63 R hi hb h] at e
   have:=inv hb h2 (by omega)
   subst this
   exact h
  ·intro hx
   obtain ⟨i,hi,rfl⟩:=rg_mem.mp (R.pm.mem_iff.mp (List.mem_flatten.mpr ⟨_,List.getElem_mem h2,hx⟩))
   exact ⟨i,hi,by rw [a63 R hi h2 hx],rfl⟩
theorem a1i {r:List (List Int)} (i:Nat):(r.take i).flatten.length<=r.flatten.length:=(D5 r i).length_le
theorem b24 {r:List (List Int)} (hl:r.flatten.length<=6) (hr:r.length<=60) (k:Nat) (S:Sto):Ok (rn (k+1) b9h [u0 r]) S λd S'=>d=.lst ((srt r.flatten).map D.int)/\Ex S S':=by
 rw [rn,c7 (fd:=Ae) rfl,b56,b3g]
 refine Ok.first<|Ok.cg (c2n ..)<|Ok.eq (show newL [] S=.ok (.ref S.length) (S++[.lst []]) from rfl)<|Ok.nxt<|Ok.cg (c42 ..) ?_
 unfold u0
 refine Ok.eq (M3 _ _) ?_
 rw [List.length_map]
 have at_:∀ x:O,(S++[x])[S.length]?=some x:=λx=>by rw [List.getElem?_append_right (Nat.le_refl _)];simp
 refine Ok.bind ((Ok.for_ (n:=r.length) (λi ρ S'=>S'=S++[.lst ((r.take i).flatten.map D.int)]/\∃ o3:Option D,ρ=[some (.tup (r.map q5)),some (.ref S.length),o3]) (λ_ _=>False) (λ_ _=>False) ?_ ?_ r.length 0 _ (S++[.lst []]) (by omega) ⟨by simp,_,rfl⟩).mono ?_)
 ·intro ρ S' _
  show some (r.map q5)[r.length]?=some none
  rw [List.getElem?_eq_none (by simp)]
 ·rintro i ρ S' hi ⟨rfl,o3,rfl⟩
  have eb:r[i]?=some r[i]:=List.getElem?_eq_getElem hi
  have tk:(r.take (i+1)).flatten=(r.take i).flatten++r[i]:=by rw [List.take_succ_eq_append_getElem hi,List.flatten_append];simp
  have ln:(r.take i).flatten.length+r[i].length<=6:=by
   have:=a1i (r:=r) (i+1)
   rw [tk,List.length_append] at this
   omega
  refine ⟨q5 r[i],[some (.tup (r.map q5)),some (.ref S.length),some (q5 r[i])],by show some (r.map q5)[i]?=_;rw [f9 eb],rfl,?_⟩
  unfold a11
  rw [a2i]
  refine Ok.first<|Ok.cg (a69 ..)<|Ok.eq (a5x (at_ _)) ?_
  unfold q5
  refine Ok.eq (c3i (at_ _) (by rw [List.length_map,List.length_map,sizeLine_eq];omega)) ?_
  have es:(S++[O.lst ((r.take i).flatten.map D.int)]).set S.length (.lst ((r.take i).flatten.map D.int++r[i].map D.int))=S++[.lst ((r.take (i+1)).flatten.map D.int)]:=by
   rw [List.set_append_right _ _ (Nat.le_refl _),tk,List.map_append];simp
  rw [es]
  exact Ok.ret ⟨rfl,_,rfl⟩
 ·intro fl S' q
  cases fl with
  | nx ρ=>
   rcases q with ⟨e,o3,rfl⟩ | q
   ·rw [List.take_length] at e
    subst e
    exact Ok.nxt<|Ok.cg (c3s ..)<|Ok.eq (a2k (at_ _) (by omega)) (Ok.ret ⟨rfl,_,rfl⟩)
   ·exact q.elim
  | rt d=>exact q.elim
  | bk ρ=>exact q.elim
  | ct ρ=>exact q.elim
theorem cut_take {ds:List D} {i:Nat} (h:i<=ds.length):A7 ds none (some (i:Int))=ds.take i:=by
 have e:HT.sIx ds.length ds.length (some (i:Int))=i:=by
  show (if (i:Int)<0 then ((i:Int)+(ds.length:Int)).toNat else min (i:Int).toNat ds.length)=i
  rw [if_neg (by omega)]
  simp;omega
 unfold A7
 rw [e,HT.sIx_none]
 simp
theorem c11 {a:Nat}:∀ {n:Nat},a<n->(List.range n).filter (λj=>j==a)=[a]
 | 0,h=>by omega
 | n+1,h=>by
  rw [List.range_succ,List.filter_append]
  by_cases q:a=n
  ·subst q
   rw [List.filter_eq_nil_iff.mpr λj hj=>by have:=List.mem_range.mp hj;simp;omega]
   simp
  ·rw [c11 (by omega)]
   have:(n==a)=false:=by simp;omega
   simp [this]
theorem b3j {m:Nat} {r:List (List Int)} (R:ROk m r) (hm:m<=6) {i:Nat} (hi:i<m) (k:Nat) (S:Sto):Ok (rn (k+2) b8j [u0 r,.int (i:Int)]) S λd S'=>d=.lst ((w8 r (i:Int)).map D.int)/\Ex S S':=by
 obtain ⟨a,ha,h⟩:=R.hd hi
 have hr:r.length<=60:=Nat.le_trans R.few (by omega)
 have c2:=C4 (src:=a0s 0 r.length) (l:=List.range r.length) (h:=λ(k:Nat)=>D.int (k:Int)) (g:=λ(k:Nat)=>D.int (k:Int)) (p:=λj=>decide ((i:Int)∈r.getD j [])) (t:=λd=>bind (ixD (u0 r) d) λb=>bind (d5 .In (.int (i:Int)) b) λe=>bind (asB e) λz=>ret z) (f:=λd=>ret d) (S:=S) (λi=>a3n _ i S) (by rw [List.length_range];exact u9 hr) (λj hj=>by
  have hj:j<r.length:=List.mem_range.mp hj
  have eg:r.getD j []=r[j]:=by simp [hj]
  rw [a7 (show ixD (u0 r) (.int (j:Int)) S=.ok (q5 r[j]) S from b9q S (f9 (List.getElem?_eq_getElem hj))),eg]
  unfold q5
  rw [a7 (b55 _ r[j] S),a7 (c8 _ S)]
  rfl) (λa _ _=>rfl)
 rw [List.length_range] at c2
 have er:(List.range r.length).filter (λj=>decide ((i:Int)∈r.getD j []))=[a]:=by
  have e1:∀ j∈List.range r.length,decide ((i:Int)∈r.getD j [])=(j==a):=λj hj=>by
   have hj:=List.mem_range.mp hj
   have eg:r.getD j []=r[j]:=by simp [hj]
   rw [eg,Bool.eq_iff_iff,decide_eq_true_eq,beq_iff_eq]
   exact ⟨λq=>R.one hj ha q h,λq=>by subst q;exact h⟩
  rw [List.filter_congr e1,c11 ha]
 rw [er] at c2
 rw [rn,c7 (fd:=b13) rfl,b31]
 refine nx_bind<|Ok.eq (show n8 (u0 r) S=.ok (.int r.length) S by unfold u0;rw [u5,List.length_map])<|Ok.eq (O1 (by omega) S)<|Ok.of c2<|Ok.eq (c6b (i:=0) S (show ([a].map λ(k:Nat)=>D.int (k:Int))[0]?=some (D.int (a:Int)) from rfl))<|Ok.eq (O7 a 1 S)<|Ok.eq (show a0q (.int ((a+1:Nat):Int)) S=.ok (some ((a+1:Nat):Int)) S from rfl) ?_
 have sl:slD (u0 r) none (some ((a+1:Nat):Int)) S=.ok (u0 (r.take (a+1))) S:=by
  show L3.R.ok (D.tup (A7 (r.map q5) none (some ((a+1:Nat):Int)))) S=_
  rw [cut_take (by rw [List.length_map];omega),<- List.map_take]
  rfl
 refine Ok.eq sl<|Ok.bind ((b24 (r:=r.take (a+1)) (Nat.le_trans (a1i _) (by rw [R.len];exact hm)) (by rw [List.length_take];omega) k S).mono ?_)
 rintro _ S' ⟨rfl,hx⟩
 refine Ok.ret ⟨?_,hx⟩
 unfold w8
 rw [R.up_to ha h]
noncomputable def hoD (v:List Int):D:=.tup [.str "holds",.tup (v.map D.int)]
noncomputable def stD (vs:List (List Int)):D:=.tup [.tup (vs.map λv=>.int (v.length:Int)),.tup (vs.map hoD)]
theorem b4m {m:Nat} {r:List (List Int)} (R:ROk m r) (hm:m<=6) (k:Nat) (S:Sto):Ok (rn (k+3) b74 [u0 r,.int (m:Int)]) S λd S'=>d=stD (vw r m)/\Ex S S':=by
 rw [rn,c7 (fd:=b0x) rfl,b4k]
 refine nx_bind<|Ok.eq (O1 (by omega) S)<|(Ok.comp (n:=m) (λi S' es=>Ex S S'/\es=(vw r i).map λv=>.tup (v.map D.int)) (λS' es _=>R4 _ S') ?_ ⟨Ex.refl S,rfl⟩).mono ?_
 ·rintro i S' es hi ⟨hx,rfl⟩
  refine ⟨.int (i:Int),a1n hi S',Ok.ret ?_⟩
  rw [if_pos rfl]
  refine Ok.bind ((b3j R hm hi k S').mono ?_)
  rintro _ S2 ⟨rfl,hx2⟩
  refine Ok.eq (a:=.tup _) rfl<|Ok.ret ⟨?_,hx.trans hx2,?_⟩
  ·rw [List.length_map,O3];exact u9 (by omega)
  ·unfold vw
   rw [List.range_succ,List.map_append,List.map_append];rfl
 ·rintro es S1 ⟨hx,rfl⟩
  generalize hv:vw r m=vs
  have lv:vs.length=m:=by rw [<- hv,O3]
  have e1:=m9 (l:=vs) (h:=λv=>D.tup (v.map D.int)) (g:=λv=>.int (v.length:Int)) (p:=λ_=>true) (t:=λ_=>ret true) (f:=λd=>bind (n8 d) λx=>ret x) (S:=S1) (by rw [lv];exact u9 (by omega)) (λa _=>rfl) (λv hv _=>by
   rw [a7 (u5 _ S1),List.length_map];rfl)
  have e2:=m9 (l:=vs) (h:=λv=>D.tup (v.map D.int)) (g:=hoD) (p:=λ_=>true) (t:=λ_=>ret true) (f:=λd=>ret (.tup [(.str "holds"),d])) (S:=S1) (by rw [lv];exact u9 (by omega)) (λa _=>rfl) (λv hv _=>rfl)
  rw [List.filter_eq_self.mpr (by simp)] at e1 e2
  refine nx_bind<|Ok.eq (show t9 (.lst (vs.map λv=>D.tup (v.map D.int))) S1=.ok (L6 (vs.map λv=>D.tup (v.map D.int)),vs.length+1) S1 by show L3.R.ok (_,(vs.map λv=>D.tup (v.map D.int)).length+1) S1=_;rw [List.length_map])<|Ok.of e1<|Ok.eq (a:=.tup _) rfl<|nx_bind<|Ok.eq (show t9 (.lst (vs.map λv=>D.tup (v.map D.int))) S1=.ok (L6 (vs.map λv=>D.tup (v.map D.int)),vs.length+1) S1 by show L3.R.ok (_,(vs.map λv=>D.tup (v.map D.int)).length+1) S1=_;rw [List.length_map])<|Ok.of e2<|Ok.eq (a:=.tup _) rfl<|Ok.ret ⟨rfl,hx⟩
theorem a16 {ds:List D} {g:Nat->D} {p:Nat->Bool} {t:D->M Bool} {f:D->M D} {S:Sto} (hl:ds.length<sizeLine) (ht:∀ (i:Nat) d,ds[i]?=some d->t (.tup [.int (i:Int),d]) S=.ok (p i) S) (hf:∀ (i:Nat) d,ds[i]?=some d->p i=true->f (.tup [.int (i:Int),d]) S=.ok (g i) S):i5 (W7 ds) t f (ds.length+1) 0 [] S=.ok (((List.range ds.length).filter p).map g) S:=by
 refine o8 ((Ok.comp (n:=ds.length) (λi S' es=>S'=S/\es=((List.range i).filter p).map g) (λS' es _=>?_) ?_ ⟨rfl,rfl⟩).mono ?_)
 ·have e:ds[ds.length]?=none:=List.getElem?_eq_none (Nat.le_refl _)
  simp only [W7,e,if_true]
 ·rintro i S' es hi ⟨rfl,rfl⟩
  have e:ds[i]?=some ds[i]:=List.getElem?_eq_getElem hi
  refine ⟨.tup [.int (i:Int),ds[i]],by simp only [W7,e],p i,S',ht i _ e,?_⟩
  have le:(((List.range i).filter p).map g).length<=i:=by
   rw [List.length_map]
   have:=List.length_filter_le p (List.range i)
   rw [List.length_range] at this
   exact this
  cases q:p i with
  | true=>
   show if true=true then _ else _
   rw [if_pos rfl]
   refine ⟨_,_,hf i _ e q,by omega,rfl,?_⟩
   rw [List.range_succ,List.filter_append,List.map_append]
   simp [q]
  | false=>
   show if false=true then _ else _
   rw [if_neg Bool.false_ne_true]
   refine ⟨rfl,?_⟩
   rw [List.range_succ,List.filter_append]
   simp [q]
 ·rintro es S' ⟨rfl,rfl⟩
  exact ⟨rfl,rfl⟩
theorem a1r (vs:List (List Int)):(szI vs).length=vs.length:=by unfold szI;rw [List.length_map,List.length_range]
theorem c1v {vs:List (List Int)} (hl:vs.length<=6) (s:Int) (k:Nat) (S:Sto):rn (k+1) b9e [.lst ((szI vs).map D.int),.int s] S=.ok (q5 (blk vs s)) S:=by
 have ld:((szI vs).map D.int).length=vs.length:=by rw [List.length_map,a1r]
 have at_:∀ (i:Nat) (d:D),((szI vs).map D.int)[i]?=some d->d=D.int (sz vs i:Int):=λi d h=>by
  have hi:=(List.getElem?_eq_some_iff.mp h).1
  rw [ld] at hi
  have e:((szI vs).map D.int)[i]?=some (.int (sz vs i:Int)):=f9 (f9 (List.getElem?_range hi))
  rw [e] at h;cases h;rfl
 have c:=a16 (ds:=(szI vs).map D.int) (g:=λ(i:Nat)=>D.int (i:Int)) (p:=λi=>decide ((sz vs i:Int)=s)) (t:=a1t (λi ds=>rn k i ds) [some (.lst ((szI vs).map D.int)),some (.int s)]) (f:=a1l (λi ds=>rn k i ds) [some (.lst ((szI vs).map D.int)),some (.int s)]) (S:=S) (by rw [ld];exact u9 (by omega)) (λi d h=>by
   rw [at_ i d h,a2l,a7 (b6k _ _ S),a7 (c8 _ S)];rfl) (λi d _ _=>by rw [a2t];rfl)
 refine o8 ?_
 rw [rn,c7 (fd:=Ah) rfl,b5m]
 refine nx_bind<|Ok.eq (show U6 (.lst ((szI vs).map D.int)) S=.ok (W7 ((szI vs).map D.int),((szI vs).map D.int).length+1) S from rfl)<|Ok.of c<|Ok.eq (a:=.tup _) rfl<|Ok.ret ⟨?_,rfl⟩
 rw [ld]
 unfold q5 blk
 rw [List.map_map];rfl
theorem b8o (vs:List (List Int)):szI vs=vs.map λv=>(v.length:Int):=by
 unfold szI sz
 apply List.ext_getElem
 ·rw [List.length_map,List.length_range,List.length_map]
 ·intro i h1 h2
  rw [List.length_map] at h2
  rw [List.getElem_map,List.getElem_range,List.getElem_map]
  simp [h2]
theorem b9l {vs:List (List Int)} (hl:vs.length<=6) (k:Nat) (S:Sto):rn (k+2) b7n [stD vs] S=.ok (u0 (ro vs)) S:=by
 have c:=m9 (l:=vs) (h:=hoD) (g:=λv=>D.int (v.length:Int)) (p:=λ_=>true) (t:=a0k (λi ds=>rn (k+1) i ds) [some (stD vs),none]) (f:=a1c (λi ds=>rn (k+1) i ds) [some (stD vs),none]) (S:=S) (u9 (by omega)) (λv _=>by unfold hoD;rw [a27];rfl) (λv _ _=>by unfold hoD;rw [a18,a7 (u5 _ S),List.length_map];rfl)
 rw [List.filter_eq_self.mpr (by simp)] at c
 have e0:vs.map (λv=>D.int (v.length:Int))=(szI vs).map D.int:=by rw [b8o,List.map_map];rfl
 rw [e0] at c
 have lu:(D2 (szI vs)).length<64:=by have:=a5m (szI vs);rw [a1r] at this;omega
 have ls:(ss vs).length<=6:=by unfold ss;rw [(i7 _).length_eq];have:=a5m (szI vs);rw [a1r] at this;omega
 have c2:=m9 (l:=ss vs) (h:=D.int) (g:=λs=>q5 (blk vs s)) (p:=λ_=>true) (t:=λ_=>ret true) (f:=λd=>bind (rn (k+1) 1 [.lst ((szI vs).map D.int),d]) λx=>ret x) (S:=S) (u9 (by omega)) (λ_ _=>rfl) (λs _ _=>(a7 (c1v hl s k S)).trans rfl)
 rw [List.filter_eq_self.mpr (by simp)] at c2
 refine o8 ?_
 rw [rn,c7 (fd:=Aj) rfl,b3x]
 refine nx_bind<|Ok.eq (show ixD (stD vs) (.int 1) S=.ok (.tup (vs.map hoD)) S from rfl)<|Ok.eq (M3 _ S) ?_
 rw [List.length_map]
 refine Ok.of c<|nx_bind<|Ok.eq (b0w (by rw [a1r];omega) lu S)<|Ok.eq (show t9 (.lst ((ss vs).map D.int)) S=.ok (L6 ((ss vs).map D.int),(ss vs).length+1) S by show L3.R.ok (_,((ss vs).map D.int).length+1) S=_;rw [List.length_map])<|Ok.of c2<|Ok.eq (a:=.tup _) rfl<|Ok.ret ⟨?_,rfl⟩
 unfold u0 ro
 rw [List.map_map];rfl
end L3.K55
namespace L3.K55
open PySem PySem.Spec PyProof.Rows L2 L3.Rk L3.Lev
theorem b6r (m:Nat):Good (List.replicate m Hd.out):=by
 have h0:∀ i,hat (List.replicate m .out) i=.out:=λi=>by
  unfold hat
  rw [List.getD_eq_getElem?_getD,List.getElem?_replicate]
  split <;> rfl
 refine ⟨λl=>?_,λi v _ e=>?_,λi b _ e=>?_⟩
 ·refine Nat.le_trans (Nat.le_of_eq (List.countP_eq_zero.mpr λj _ q=>?_)) (Nat.zero_le _)
  rw [h0] at q;cases q
 ·rw [h0] at e;cases e
 ·rw [h0] at e;cases e
noncomputable def stL (hs:List Hd):D:=.tup [.tup ((hs.map boxOf).map bxD),.tup (hs.map Hd.d)]
theorem b18 {bx:List (Option Nat)} {m i:Nat} {o:Option Nat} {ix:M D} {S:Sto} (h:bx[i]?=some o) (hx:ix S=.ok (bxD o) S):(bind ix λx0=>bind (d5 .IsNot x0 .non) λx1=>bind (asB x1) λz2=>if z2=true then (bind ix λx9=>bind (d5 .LtE x9 (.int (m:Int))) λx3=>bind (asB x3) λz4=>ret z4) else (ret false)) S=.ok (upB bx m i) S:=by
 rw [a7 hx]
 cases o with
 | none=>
  have:upB bx m i=false:=by unfold upB;rw [h]
  rw [this];rfl
 | some b=>
  have:upB bx m i=decide ((b:Int)<=(m:Int)):=by
   unfold upB;rw [h]
   by_cases q:b<=m
   ·exact (decide_eq_true q).trans (decide_eq_true (by omega)).symm
   ·exact (decide_eq_false q).trans (decide_eq_false (by omega)).symm
  rw [this,a7 (show d5 .IsNot (bxD (some b)) .non S=.ok (.bl true) S from rfl),a7 (c8 _ S),if_pos rfl,a7 hx]
  rfl
theorem a4d {bx:List (Option Nat)} (i:Nat) (o:Option Nat):(bx.map bxD).set i (bxD o)=(bx.set i o).map bxD:=by rw [List.map_set]
theorem P0 {hs:List Hd} (i:Nat) (h:Hd):(hs.map Hd.d).set i h.d=(hs.set i h).map Hd.d:=by rw [List.map_set]
theorem a1s {hs:List Hd} (G:Good hs) (h6:hs.length<=6) {i:Nat} (hi:i<hs.length) (k:Nat) (S:Sto):Ok (rn (k+1) c0l [stL hs,.int (i:Int)]) S λd S'=>d=stL (hs.set i (d7 hs i))/\Ex S S':=by
 rw [rn,c7 (fd:=b1p) rfl,b52]
 generalize hb:(hs.map boxOf).map bxD=bd
 generalize hh:hs.map Hd.d=hd
 have lb:bd.length=hs.length:=by rw [<- hb,List.length_map,List.length_map]
 have lh:hd.length=hs.length:=by rw [<- hh,List.length_map]
 have eS:stL hs=.tup [.tup bd,.tup hd]:=by unfold stL;rw [hb,hh]
 have l1:(S++[O.lst bd]).length=S.length+1:=by simp
 have A1:∀ x y:O,(S++[x]++[y])[S.length]?=some x:=λx y=>by simp
 have A2:∀ x y:O,(S++[x]++[y])[S.length+1]?=some y:=λx y=>by simp
 have B1:∀ x y z:O,(S++[x]++[y]).set S.length z=S++[z]++[y]:=λx y z=>by simp
 have B2:∀ x y z:O,(S++[x]++[y]).set (S.length+1) z=S++[x]++[z]:=λx y z=>by
  rw [List.set_append_right _ _ (by simp)];simp
 have EX:∀ x y:O,Ex S (S++[x]++[y]):=λx y=>⟨[x,y],by simp⟩
 have gi:hd[i]?=some (hat hs i).d:=by rw [<- hh];exact f9 (v8 hi)
 refine Ok.eq (show ixD (stL hs) (.int 0) S=.ok (.tup bd) S by rw [eS];rfl)<|Ok.eq (show listP (.tup bd) S=.ok (.ref S.length) (S++[.lst bd]) from rfl)<|Ok.eq (show ixD (stL hs) (.int 1) (S++[.lst bd])=.ok (.tup hd) (S++[.lst bd]) by rw [eS];rfl)<|Ok.eq (show listP (.tup hd) (S++[.lst bd])=.ok (.ref (S.length+1)) (S++[.lst bd]++[.lst hd]) by rw [<- l1];rfl)<|Ok.eq (b69 (A2 _ _))<|Ok.eq (c4v (A2 _ _) gi) ?_
 rw [lh]
 have fin:∀ (bd' hd':List D),bd'=((hs.set i (d7 hs i)).map boxOf).map bxD->hd'=(hs.set i (d7 hs i)).map Hd.d->Ok (bind (f7 (.ref S.length)) λx27=>bind (f7 (.ref (S.length+1))) λx28=>ret (.tup [x27,x28])) (S++[.lst bd']++[.lst hd']) λd S'=>d=stL (hs.set i (d7 hs i))/\Ex S S':=λbd' hd' e1 e2=>by
  refine Ok.eq (b65 (A1 _ _))<|Ok.eq (b65 (A2 _ _))<|Ok.ret ⟨?_,EX _ _⟩
  rw [e1,e2];rfl
 cases e:hat hs i with
 | holds v=>
  refine Ok.eq (a:=.str "holds") rfl<|Ok.eq (a:=.bl true) rfl<|Ok.eq (c8 _ _)<|Ok.pos rfl<|Ok.ret ⟨?_,EX _ _⟩
  have:d7 hs i=hat hs i:=by unfold d7;rw [e]
  rw [this]
  have g:=v8 hi
  obtain ⟨h1,h2⟩:=List.getElem?_eq_some_iff.mp g
  rw [<- h2,List.set_getElem_self h1]
 | out=>
  have nb:=G.box hi (λv q=>by rw [e] at q;cases q)
  have es:d7 hs i=.look hs.length:=by unfold d7;rw [e]
  rw [e] at nb
  refine Ok.eq (a:=.str "out") rfl<|Ok.eq (a:=.bl false) rfl<|Ok.eq (c8 _ _)<|Ok.neg (by decide)<|Ok.eq (a:=.str "out") rfl<|Ok.eq (a:=.bl false) rfl<|Ok.eq (c8 _ _)<|Ok.neg (by decide)<|Ok.eq (a:=.str "out") rfl<|Ok.eq (a:=.bl true) rfl<|Ok.eq (c8 _ _)<|Ok.pos rfl<|Ok.eq (a0g (A1 _ _) (by omega)) ?_
  rw [B1]
  refine Ok.eq (a0g (A2 _ _) (by omega)) ?_
  rw [B2]
  refine fin _ _ ?_ ?_
  ·rw [nb,<- hb];exact a4d i (some hs.length)
  ·rw [es,<- hh];exact P0 i (.look hs.length)
 | put l=>
  have nb:=G.box hi (λv q=>by rw [e] at q;cases q)
  have es:d7 hs i=.look l:=by unfold d7;rw [e]
  rw [e] at nb
  refine Ok.eq (a:=.str "put") rfl<|Ok.eq (a:=.bl false) rfl<|Ok.eq (c8 _ _)<|Ok.neg (by decide)<|Ok.eq (a:=.str "put") rfl<|Ok.eq (a:=.bl false) rfl<|Ok.eq (c8 _ _)<|Ok.neg (by decide)<|Ok.eq (a:=.str "put") rfl<|Ok.eq (a:=.bl false) rfl<|Ok.eq (c8 _ _)<|Ok.neg (by decide)<|Ok.eq (a:=.int (l:Int)) rfl<|Ok.eq (a0g (A1 _ _) (by omega)) ?_
  rw [B1]
  refine Ok.eq (a0g (A2 _ _) (by omega)) ?_
  rw [B2]
  refine fin _ _ ?_ ?_
  ·rw [nb,<- hb];exact a4d i (some l)
  ·rw [es,<- hh];exact P0 i (.look l)
 | look l=>
  have nb:=G.box hi (λv q=>by rw [e] at q;cases q)
  have es:d7 hs i=C7 (hs.map boxOf) l:=by unfold d7;rw [e]
  have lk:=G.look hi e
  have l1:=(G.pos hi).1 l e
  rw [e] at nb
  generalize hx:hs.map boxOf=bx at *
  have lx:bx.length=hs.length:=by rw [<- hx,List.length_map]
  have c:=C4 (src:=a0s 0 hs.length) (l:=List.range hs.length) (h:=λ(j:Nat)=>D.int (j:Int)) (g:=λ(j:Nat)=>D.int (j:Int)) (p:=upB bx l) (t:=λd14=>bind (ixD (.ref S.length) d14) λx16=>bind (d5 .IsNot x16 .non) λx17=>bind (asB x17) λz18=>if z18=true then (bind (ixD (.ref S.length) d14) λx19=>bind (d5 .LtE x19 (.int (l:Int))) λx20=>bind (asB x20) λz21=>ret z21) else (ret false)) (f:=λd=>ret d) (S:=S++[.lst bd]++[.lst hd]) (λj=>a3n _ j _) (by rw [List.length_range];exact u9 (by omega)) (λj hj=>by
   have hj:=List.mem_range.mp hj
   have ej:bx[j]?=some (bx.getD j none):=by rw [List.getD_eq_getElem?_getD,List.getElem?_eq_getElem (by omega)];rfl
   have gj:bd[j]?=some (bxD (bx.getD j none)):=by rw [<- hb];exact f9 ej
   exact b18 ej (c4v (A1 _ _) gj)) (λj _ _=>rfl)
  rw [List.length_range] at c
  have eu:((List.range hs.length).filter (upB bx l)).map (λ(j:Nat)=>D.int (j:Int))=(ups bx l).map nD:=by unfold ups;rw [lx];rfl
  rw [eu] at c
  refine Ok.eq (a:=.str "look") rfl<|Ok.eq (a:=.bl false) rfl<|Ok.eq (c8 _ _)<|Ok.neg (by decide)<|Ok.eq (a:=.str "look") rfl<|Ok.eq (a:=.bl true) rfl<|Ok.eq (c8 _ _)<|Ok.pos rfl<|Ok.eq (a:=.int (l:Int)) rfl<|nx_bind<|Ok.eq (O1 (by omega) _)<|Ok.of c<|Ok.eq (b6n _ _) ?_
  rw [List.length_map]
  refine Ok.eq (c2h _ _ _)<|Ok.eq (c8 _ _) ?_
  rcases lk with ⟨q1,q2⟩ | ⟨q1,q2,q3⟩
  ·refine Ok.neg (by rw [decide_eq_false (by omega)];exact Bool.false_ne_true)<|Ok.eq (a:=.tup ((ups bx l).map nD)) rfl<|Ok.eq (a0g (A2 _ _) (by omega)) ?_
   rw [B2]
   refine fin _ _ ?_ ?_
   ·rw [nb,<- hb]
   ·rw [es,q2,<- hh];exact P0 i (.holds (ups bx l))
  ·refine Ok.pos (decide_eq_true (by omega))<|Ok.eq (a32 (a:=l) (b:=1) l1 _)<|Ok.eq (a0g (A2 _ _) (by omega)) ?_
   rw [B2]
   refine fin _ _ ?_ ?_
   ·rw [nb,<- hb]
   ·rw [es,q3,<- hh];exact P0 i (.put (l-1))
theorem b2q {m:Nat} (h:0<m) (h6:m<=6) (S:Sto):C5 (.tup [.non]) (.int (m:Int)) S=.ok (.tup ((List.replicate m (none:Option Nat)).map bxD)) S/\C5 (.tup [.tup [.str "out"]]) (.int (m:Int)) S=.ok (.tup ((List.replicate m Hd.out).map Hd.d)) S:=by
 have:m=1\/m=2\/m=3\/m=4\/m=5\/m=6:=by omega
 rcases this with rfl | rfl | rfl | rfl | rfl | rfl <;> exact ⟨by kernel_rfl,by kernel_rfl⟩
theorem b8n {m:Nat} (h:0<m) (h6:m<=6) (k:Nat) (S:Sto):rn (k+1) b87 [.int (m:Int)] S=.ok (stL (List.replicate m .out)) S:=by
 obtain ⟨e1,e2⟩:=b2q h h6 S
 refine o8 ?_
 rw [rn,c7 (fd:=b19) rfl,b4p]
 refine Ok.eq e1<|Ok.eq e2<|Ok.ret ⟨?_,rfl⟩
 unfold stL
 rw [List.map_replicate (f:=boxOf)];rfl
theorem a60 {v:List Int} {m:Nat} (hm:m<=6) (hl:v.length<=6) (hv:∀ x∈v,x∈rgI m):Smls 0 60 (v.map D.int):=.map λx hx=>by
 obtain ⟨i,hi,rfl⟩:=rg_mem.mp (hv x hx)
 exact .nat (by omega)
theorem b3o {m:Nat} {r:List (List Int)} (R:ROk m r) {i:Nat} (hi:i<m):(w8 r (i:Int)).length<=m/\∀ x∈w8 r (i:Int),x∈rgI m:=by
 obtain ⟨a,ha,h⟩:=R.hd hi
 unfold w8
 rw [R.up_to ha h]
 refine ⟨?_,λx hx=>?_⟩
 ·rw [(i7 _).length_eq,<- R.len];exact a1i _
 ·exact R.pm.mem_iff.mp ((D5 r (a+1)).subset ((i7 _).mem_iff.mp hx))
theorem c1u {m:Nat} {r:List (List Int)} (R:ROk m r) (hm:m<=6):Sml 4 20000 (stD (vw r m)):=by
 have mv:∀ v∈vw r m,v.length<=6/\∀ x∈v,x∈rgI m:=λv hv=>by
  obtain ⟨i,hi,rfl⟩:=List.mem_map.mp hv
  have:=b3o R (List.mem_range.mp hi)
  exact ⟨by omega,this.2⟩
 have lv:=O3 r m
 have s1:Sml 3 6000 (.tup ((vw r m).map λv=>D.int (v.length:Int))):=(Sml.tup (n:=0) (N:=60) (m:=6) (.map λv hv=>.nat (by have:=(mv v hv).1;omega)) (by rw [List.length_map];omega)).up
 have s2:Sml 3 6000 (.tup ((vw r m).map hoD)):=(Sml.tup (n:=2) (N:=760) (m:=6) (.map λv hv=>by
  have hv2:Sml 1 375 (.tup (v.map D.int)):=(Sml.tup (n:=0) (N:=60) (m:=6) (a60 hm (mv v hv).1 (mv v hv).2) (by rw [List.length_map];exact (mv v hv).1)).up
  exact (Sml.tup (m:=2) (.cons Sml.w (.cons hv2 .nil)) (Nat.le_refl _)).up) (by rw [List.length_map];omega)).up
 exact (Sml.tup (m:=2) (.cons s1 (.cons s2 .nil)) (Nat.le_refl _)).up
theorem c48 {m:Nat} {r:List (List Int)} (R:ROk m r) (hm:m<=6):Sml 4 20000 (u0 r):=by
 have few:=R.few
 refine (Sml.tup (n:=1) (N:=375) (m:=6) (.map λb hb=>?_) (by rw [List.length_map];omega)).up
 have sb:=List.sublist_flatten_of_mem hb
 have lb:b.length<=6:=by have:=sb.length_le;rw [R.len] at this;omega
 exact (Sml.tup (n:=0) (N:=60) (m:=6) (a60 hm lb λx hx=>R.pm.mem_iff.mp (sb.subset hx)) (by rw [List.length_map];exact lb)).up
theorem b44 (ns:List Int) (S:Sto) (k:Nat):∃ ms:List Int,rn (k+1) b90 [.scr (ns.map D.int)] S=.ok (.ref S.length) (S++[d9 ms 0 0 0]):=by
 obtain ⟨ms,em⟩:=b1r ns
 refine ⟨ms,?_⟩
 rw [rn,c7 (fd:=a9x) rfl,b6d,a7 (show slD (.scr (ns.map D.int)) none (some 63) S=.ok (.lst (A7 (ns.map D.int) none (some 63))) S from rfl),em]
 rfl
end L3.K55
namespace L3.K55
open PySem PySem.Spec PyProof.Rows L2 L3.Rk L3.Lev L3.Wv
noncomputable def nE (l:List Int):List Nat:=l.map Int.toNat
theorem v4 {m:Nat} {l:List Int} (h:∀ x∈l,x∈rgI m) {x:Nat}:x∈nE l↔(x:Int)∈l:=by
 unfold nE
 rw [List.mem_map]
 constructor
 ·rintro ⟨y,hy,e⟩
  obtain ⟨i,_,rfl⟩:=rg_mem.mp (h y hy)
  have:i=x:=by simpa using e
  subst this
  exact hy
 ·exact λq=>⟨_,q,by simp⟩
theorem b6s {m:Nat} {l:List Int} (h:∀ x∈l,x∈rgI m):∀ x∈nE l,x<m:=λx hx=>by
 obtain ⟨i,hi,e⟩:=rg_mem.mp (h _ ((v4 h).mp hx))
 omega
theorem b60 {m:Nat} {l:List Int} (h:∀ x∈l,x∈rgI m) (nd:l.Nodup):(nE l).Nodup:=by
 unfold nE
 rw [List.nodup_iff_pairwise_ne,List.pairwise_map]
 refine List.Pairwise.imp_of_mem (λ{a b} ha hb ne e=>?_) (List.nodup_iff_pairwise_ne.mp nd)
 obtain ⟨i,_,rfl⟩:=rg_mem.mp (h a ha)
 obtain ⟨j,_,rfl⟩:=rg_mem.mp (h b hb)
 have e:i=j:=by simpa using e
 exact ne (by rw [e])
noncomputable def rep (r:List (List Int)) (m i:Nat):List Int:=(List.replicate (2 * (m-pfx r (i+1)+1)) (r.getD i [])).flatten
noncomputable def wv (r:List (List Int)) (m i:Nat):List Int:=((List.range i).map (rep r m)).flatten
noncomputable def M1 (m:Nat) (r:List (List Int)) (h:Nat):List Nat:=(List.range m).filter λx=>decide ((x:Int)∈(a1u (h:Int) r).flatten)
noncomputable def G (m:Nat) (r:List (List Int)) (i h:Nat):Hd:=if (h:Int)∈(r.take i).flatten then .holds (M1 m r h) else .out
section
variable {m:Nat} {r:List (List Int)} (R:ROk m r)
include R
theorem V8 (i:Nat):∀ x∈(r.take i).flatten,x∈rgI m:=λx hx=>R.pm.mem_iff.mp ((D5 r i).subset hx)
theorem b6l {i:Nat} (hi:i<r.length):(r.take (i+1)).flatten=(r.take i).flatten++r[i]:=by rw [List.take_succ_eq_append_getElem hi,List.flatten_append];simp
theorem c2r {i:Nat} {x:Int} (h:x∈(r.take i).flatten):∃ (k:Nat) (hk:k<r.length),k<i/\x∈r[k]:=by
 obtain ⟨b,hb,hx⟩:=List.mem_flatten.mp h
 obtain ⟨k,hk,e⟩:=List.getElem_of_mem hb
 rw [List.length_take] at hk
 rw [List.getElem_take] at e
 exact ⟨k,by omega,by omega,by rw [e];exact hx⟩
theorem b0m {h k:Nat} (hk:k<r.length) (hx:(h:Int)∈r[k]):(M1 m r h).length=pfx r (k+1):=by
 have e:=R.up_to hk hx
 have p:(M1 m r h).Perm (nE (r.take (k+1)).flatten):=(List.perm_ext_iff_of_nodup (List.nodup_range.filter _) (b60 (V8 R _) (List.Nodup.sublist (D5 _ _) R.nd))).mpr λx=>by
  show x∈(List.range m).filter (λ(x:Nat)=>decide ((x:Int)∈(a1u (h:Int) r).flatten))↔_
  rw [List.mem_filter,List.mem_range,decide_eq_true_eq,e,v4 (V8 R _)]
  exact ⟨λq=>q.2,λq=>⟨b6s (V8 R _) x ((v4 (V8 R _)).mpr q),q⟩⟩
 rw [p.length_eq]
 unfold nE pfx
 rw [List.length_map]
theorem c0r {a b:Nat} (h:a<=b) (hb:b<=r.length):pfx r a<=pfx r b:=by
 by_cases q:a=b
 ·subst q;exact Nat.le_refl _
 ·exact Nat.le_of_lt (E1 R.ne (by omega) hb)
theorem b6z:∀ i,i<=r.length->run (mk m λ_=>.out) (nE (wv r m i))=mk m (G m r i)
 | 0,_=>by
  show mk m (λ_=>Hd.out)=_
  refine B3 λx _=>?_
  unfold G
  rw [if_neg (by simp)]
 | i+1,hi=>by
  have hi':i<r.length:=by omega
  have gd:r.getD i []=r[i]:=by simp [hi']
  have w1:nE (wv r m (i+1))=nE (wv r m i)++(List.replicate (2 * (m-pfx r (i+1)+1)) (nE r[i])).flatten:=by
   unfold wv nE
   rw [List.range_succ,List.map_append,List.flatten_append,List.map_append]
   congr 1
   show ((rep r m i++[]).map Int.toNat)=_
   rw [List.append_nil]
   unfold rep
   rw [gd,List.map_flatten,List.map_replicate]
  rw [w1,M7,b6z i (by omega)]
  have tk:=b6l R hi'
  have inA:=V8 R (i+1)
  have inE:=V8 R i
  have inB:∀ x∈r[i],x∈rgI m:=λx hx=>inA x (by rw [tk];exact List.mem_append.mpr (.inr hx))
  have ap:nE (r.take i).flatten++nE r[i]=nE (r.take (i+1)).flatten:=by unfold nE;rw [tk,List.map_append]
  have ln:(nE (r.take i).flatten++nE r[i]).length=pfx r (i+1):=by rw [ap];unfold nE pfx;rw [List.length_map]
  have e0:mk m (G m r i)=mk m (F (nE (r.take i).flatten) (nE r[i]) (M1 m r) .out):=B3 λx _=>by
   unfold G F
   by_cases q:(x:Int)∈(r.take i).flatten
   ·rw [if_pos q,if_pos ((v4 inE).mpr q)]
   ·rw [if_neg q,if_neg λz=>q ((v4 inE).mp z)]
    split <;> rfl
  have B:=c12 (m:=m) (E:=nE (r.take i).flatten) (b:=nE r[i]) (vv:=M1 m r) (by rw [ap];exact b60 inA (List.Nodup.sublist (D5 _ _) R.nd)) (by rw [ap];exact b6s inA) (λh hh=>by
   obtain ⟨k,hk,ki,hx⟩:=c2r R ((v4 inE).mp hh)
   rw [ln,b0m R hk hx]
   exact c0r R (by omega) hi) (by rw [ln];have:=E1 R.ne (show 0<i+1 by omega) hi;omega) (by rw [ln];unfold pfx;have:=(D5 r (i+1)).length_le;rw [R.len] at this;exact this)
  rw [ln] at B
  rw [e0,B]
  refine B3 λx hx=>?_
  unfold F G
  by_cases q:(x:Int)∈(r.take i).flatten
  ·rw [if_pos ((v4 inE).mpr q),if_pos (by rw [tk];exact List.mem_append.mpr (.inl q))]
  ·rw [if_neg λz=>q ((v4 inE).mp z)]
   by_cases w:(x:Int)∈r[i]
   ·rw [if_pos ((v4 inB).mpr w),if_pos (by rw [tk];exact List.mem_append.mpr (.inr w))]
    congr 1
    unfold Wv.VV M1
    rw [R.up_to hi' w,ap]
    exact List.filter_congr λy _=>decide_eq_decide.mpr (v4 inA)
   ·rw [if_neg λz=>w ((v4 inB).mp z),if_neg (by rw [tk];exact λz=>(List.mem_append.mp z).elim q w)]
theorem b7f:stL (mk m (G m r r.length))=stD (vw r m):=by
 have al:∀ x,x<m->(x:Int)∈(r.take r.length).flatten:=λx hx=>by rw [List.take_length];exact R.pm.mem_iff.mpr (rg_mem.mpr ⟨x,hx,rfl⟩)
 have vi:∀ x,x<m->(M1 m r x).map (λ(n:Nat)=>(n:Int))=w8 r (x:Int):=λx hx=>by
  obtain ⟨k,hk,h⟩:=R.hd hx
  unfold w8
  refine a5d ?_ (a00 (by rw [R.up_to hk h];exact List.Nodup.sublist (D5 _ _) R.nd)) λy=>?_
  ·rw [List.pairwise_map]
   exact List.Pairwise.imp (λh=>by omega) (List.Pairwise.filter _ List.pairwise_lt_range)
  ·rw [(i7 _).mem_iff,List.mem_map]
   constructor
   ·rintro ⟨z,hz,rfl⟩
    exact of_decide_eq_true (List.mem_filter.mp hz).2
   ·intro hy
    have hy':=hy
    rw [R.up_to hk h] at hy'
    obtain ⟨z,hz,rfl⟩:=rg_mem.mp (V8 R _ y hy')
    exact ⟨z,List.mem_filter.mpr ⟨List.mem_range.mpr hz,decide_eq_true hy⟩,rfl⟩
 unfold stL stD mk vw
 rw [List.map_map,List.map_map,List.map_map,List.map_map,List.map_map]
 have e1:(List.range m).map (bxD ∘ boxOf ∘ G m r r.length)=(List.range m).map ((λv=>D.int (v.length:Int)) ∘ λ(i:Nat)=>w8 r (i:Int)):=List.map_congr_left λx hx=>by
  have hx:=List.mem_range.mp hx
  show bxD (boxOf (G m r r.length x))=D.int ((w8 r (x:Int)).length:Int)
  unfold G
  rw [if_pos (al x hx),<- vi x hx,List.length_map];rfl
 have e2:(List.range m).map (Hd.d ∘ G m r r.length)=(List.range m).map (hoD ∘ λ(i:Nat)=>w8 r (i:Int)):=List.map_congr_left λx hx=>by
  have hx:=List.mem_range.mp hx
  show (G m r r.length x).d=hoD (w8 r (x:Int))
  unfold G
  rw [if_pos (al x hx),<- vi x hx]
  show D.tup [.str "holds",.tup ((M1 m r x).map nD)]=D.tup [.str "holds",.tup (((M1 m r x).map λ(n:Nat)=>(n:Int)).map D.int)]
  rw [List.map_map];rfl
 rw [show (bxD ∘ boxOf) ∘ G m r r.length=bxD ∘ boxOf ∘ G m r r.length from rfl,e1,e2]
end
noncomputable def B13:List Int:=[0,1,2,8,9,10,11,99,100,101,100000000,999999999,1000000000]
theorem Z9 {ns:List Int} {p N m:Nat} {S:Sto} (F:Ft ns p (N+m) S) (h6:m<=6) (k:Nat):Ok (rn (k+2) b9j [.ref p,.int (m:Int)]) S λd S'=>Ft ns p N S'/\∃ g:List Int,d=.tup (g.map D.int)/\g.length=m:=by
 rw [rn,c7 (fd:=b2s) rfl,b39]
 refine Ok.eq (S1:=S) (a:=.int 100000000) (by kernel_rfl)<|Ok.eq (S1:=S) (a:=.int 1000000000) (by kernel_rfl)<|Ok.eq (S1:=S) (a:=.int 999999999) (by kernel_rfl)<|Ok.eq (S1:=S) (a:=.int 1000000000) (by kernel_rfl)<|Ok.eq (show newL [(.int 0),(.int 1),(.int 2),(.int 8),(.int 9),(.int 10),(.int 11),(.int 99),(.int 100),(.int 101),.int 100000000,.int 999999999,.int 1000000000] S=.ok (.ref S.length) (S++[.lst (B13.map D.int)]) from rfl) ?_
 have F1:Ft ns p (N+m) (S++[.lst (B13.map D.int)]):=F.keep (by rw [List.getElem?_append_left (P6 F)])
 have e1:(S++[O.lst (B13.map D.int)])[S.length]?=some (.lst (B13.map D.int)):=by simp
 have qp:S.length≠p:=by have:=P6 F;omega
 generalize S++[O.lst (B13.map D.int)]=S1 at F1 e1
 generalize S.length=q at e1 qp
 refine nx_bind<|Ok.eq (O1 (n:=m) (by omega) _) ((Ok.comp (n:=m) (λi S' es=>Ft ns p (N+(m-i)) S'/\∃ left g:List Int,S'[q]?=some (.lst (left.map D.int))/\es=g.map D.int/\g.length=i/\left.length=13-i/\(left++g).Perm B13) (λS' es _=>R4 m S') ?_ ⟨F1.less (by omega),B13,[],e1,rfl,rfl,rfl,by simp⟩).mono ?_)
 ·rintro i S' es hi ⟨F2,left,g,e2,rfl,gl,ll,pm⟩
  refine ⟨.int (i:Int),a1n hi S',Ok.ret ?_⟩
  rw [if_pos rfl]
  refine Ok.eq (S1:=S') (a:=left.map D.int) (by simp only [lstOf,e2])<|Ok.eq (S1:=S') (a:=.int (left.length:Int)) (by simp only [n8,e2,List.length_map])<|Ok.bind ((G2 (N:=N+(m-(i+1))) (m:=left.length) (F2.less (by omega)) (by omega) (by omega) k).mono ?_)
  rintro _ S3 ⟨j,rfl,hj,F3,_,o3⟩
  have e3:S3[q]?=some (.lst (left.map D.int)):=by rw [o3 q qp];exact e2
  refine Ok.eq (b7c e3 (f9 (List.getElem?_eq_getElem hj)) (by omega))<|Ok.ret ⟨by rw [List.length_map,sizeLine_eq];omega,F3.keep (by rw [List.getElem?_set_ne qp]),left.eraseIdx j,g++[left[j]],?_,by rw [List.map_append];rfl,by simp [gl],by rw [List.length_eraseIdx_of_lt hj];omega,?_⟩
  ·rw [List.getElem?_set_self (List.getElem?_eq_some_iff.mp e3).1,O9]
  ·refine List.Perm.trans ?_ pm
   have p1:(left[j] :: left.eraseIdx j).Perm left:=a02 hj
   refine List.Perm.trans ?_ (p1.append_right g)
   rw [<- List.append_assoc]
   exact List.perm_append_comm
 ·rintro es S' ⟨F2,left,g,_,rfl,gl,_,pm⟩
  exact Ok.eq (a:=.tup (g.map D.int)) rfl<|Ok.ret ⟨F2.less (by omega),g,rfl,gl⟩
theorem b2y:∀ r:List (List Int),B7 (r.map λb=>(b.length:Int))=(r.flatten.length:Int)
 | []=>rfl
 | b :: r=>by
  show (b.length:Int)+B7 (r.map λb=>(b.length:Int))=_
  rw [b2y r,List.flatten_cons,List.length_append];omega
theorem c5m {x:Nat} (h0:0<x) (h:x<=7) (S:Sto):C5 (.int 2) (.int (x:Int)) S=.ok (.int ((2 * x:Nat):Int)) S:=by
 have:x=1\/x=2\/x=3\/x=4\/x=5\/x=6\/x=7:=by omega
 rcases this with rfl | rfl | rfl | rfl | rfl | rfl | rfl <;> kernel_rfl
theorem b4e {m:Nat} {r:List (List Int)} (R:ROk m r) (m6:m<=6) {i:Nat} (hi:i<r.length):(rep r m i).length<=100:=by
 have gd:r.getD i []=r[i]:=by simp [hi]
 have lb:r[i].length<=6:=by have:=(List.sublist_flatten_of_mem (List.getElem_mem hi)).length_le;rw [R.len] at this;omega
 have l0:=E1 R.ne (show 0<i+1 by omega) hi
 unfold rep
 rw [gd,List.length_flatten,List.map_replicate]
 have go:∀ n:Nat,(List.replicate n r[i].length).sum=n * r[i].length:=λn=>by
  induction n with
  | zero=>simp
  | succ n ih=>rw [List.replicate_succ,List.sum_cons,ih,Nat.succ_mul];omega
 rw [go]
 have:2 * (m-pfx r (i+1)+1)<=12:=by omega
 calc 2 * (m-pfx r (i+1)+1) * r[i].length<=12 * 6:=Nat.mul_le_mul this lb
  _<=100:=by decide
theorem a6t (r:List (List Int)) (m i:Nat):wv r m (i+1)=wv r m i++rep r m i:=by
 unfold wv
 rw [List.range_succ,List.map_append,List.flatten_append];simp
theorem a9d {m:Nat} {r:List (List Int)} (R:ROk m r) (m6:m<=6) (k:Nat) (S:Sto):rn (k+1) c1q [u0 r] S=.ok (.tup ((wv r m r.length).map D.int)) S:=by
 refine o8 ?_
 rw [rn,c7 (fd:=Ac) rfl,b78,c04]
 have few:=R.few
 have c:=m9 (l:=r) (h:=q5) (g:=λb=>D.int (b.length:Int)) (p:=λ_=>true) (t:=λ_=>ret true) (f:=λd=>bind (n8 d) λx=>ret x) (S:=S) (u9 (by omega)) (λ_ _=>rfl) (λb _ _=>by unfold q5;rw [a7 (u5 _ S),List.length_map];rfl)
 rw [List.filter_eq_self.mpr (by simp)] at c
 have sm:b28 (.lst (r.map λb=>D.int (b.length:Int))) S=.ok (.int (m:Int)) S:=by
  rw [show (r.map λb=>D.int (b.length:Int))=(r.map λb=>(b.length:Int)).map D.int by rw [List.map_map];rfl]
  show bind (p8 (.lst _)) _ S=_
  rw [a7 (show p8 (.lst ((r.map λb=>(b.length:Int)).map D.int)) S=.ok ((r.map λb=>(b.length:Int)).map D.int) S from rfl),R1]
  show L3.R.ok (D.int (B7 (r.map λb=>(b.length:Int)))) S=_
  rw [b2y,R.len]
 have src:∀ S:Sto,t9 (u0 r) S=.ok (L6 (r.map q5),r.length+1) S:=λS=>by unfold u0;rw [M3,List.length_map]
 refine Ok.first<|Ok.cg (c5r ..)<|nx_bind<|Ok.eq (src S)<|Ok.of c<|Ok.eq sm<|Ok.nxt<|Ok.cg (c5y ..)<|Ok.nxt<|Ok.cg (c51 ..)<|Ok.nxt<|Ok.cg (c6v ..)<|Ok.eq (src S)<|Ok.bind ((Ok.for_ (n:=r.length) (λi ρ S'=>S'=S/\(wv r m i).length<=100 * i/\∃ o:Option D,ρ=[some (u0 r),o,some (.int (m:Int)),some (.tup ((wv r m i).map D.int)),some (.int (pfx r i:Nat))]) (λ_ _=>False) (λ_ _=>False) ?_ ?_ r.length 0 _ _ (by omega) ⟨rfl,Nat.le_refl _,_,rfl⟩).mono ?_)
 ·intro ρ S' _
  show some (r.map q5)[r.length]?=some none
  rw [List.getElem?_eq_none (by simp)]
 ·rintro i ρ S' hi ⟨rfl,lw,o,rfl⟩
  have gd:r.getD i []=r[i]:=by simp [hi]
  have l0:=E1 R.ne (show 0<i+1 by omega) hi
  have lm:pfx r (i+1)<=m:=by unfold pfx;have:=(D5 r (i+1)).length_le;rw [R.len] at this;exact this
  have ps:pfx r (i+1)=pfx r i+r[i].length:=by unfold pfx;rw [b6l R hi,List.length_append]
  have rl:=b4e R m6 hi
  have nb:r[i]≠[]:=R.ne _ (List.getElem_mem hi)
  have lb:r[i].length<=6:=by omega
  refine ⟨q5 r[i],_,by show some (r.map q5)[i]?=_;rw [f9 (List.getElem?_eq_getElem hi)],rfl,?_⟩
  unfold a5c
  rw [a4o]
  have md:C5 (q5 r[i]) (.int ((2 * (m-pfx r (i+1)+1):Nat):Int)) S'=.ok (.tup ((rep r m i).map D.int)) S':=by
   show (if ((r[i].map D.int)≠[]/\1<=((2 * (m-pfx r (i+1)+1):Nat):Int)/\((2 * (m-pfx r (i+1)+1):Nat):Int)<2 ^ 63)/\(r[i].map D.int).length * ((2 * (m-pfx r (i+1)+1):Nat):Int).toNat<=sizeLine then ret (D.tup (List.replicate ((2 * (m-pfx r (i+1)+1):Nat):Int).toNat (r[i].map D.int)).flatten) else bad) S'=_
   rw [Int.toNat_natCast,if_pos ⟨⟨by simpa using nb,by omega,Int.lt_trans (show ((2 * (m-pfx r (i+1)+1):Nat):Int)<100 by omega) (by decide)⟩,by
    rw [List.length_map]
    exact Nat.le_trans (Nat.mul_le_mul lb (show 2 * (m-pfx r (i+1)+1)<=12 by omega)) (by decide)⟩]
   unfold rep
   rw [gd,List.map_flatten,List.map_replicate];rfl
  refine Ok.first<|Ok.cg (b16 ..)<|Ok.eq (show n8 (q5 r[i]) S'=.ok (.int (r[i].length:Int)) S' by unfold q5;rw [u5,List.length_map])<|Ok.eq (show W8 (.int (pfx r i:Nat)) (.int (r[i].length:Int)) S'=.ok (.int (pfx r (i+1):Nat)) S' by
   show L3.R.ok (D.int ((pfx r i:Nat)+(r[i].length:Int))) S'=_
   rw [ps,Int.natCast_add])<|Ok.nxt<|Ok.cg (a9y ..)<|Ok.eq (a32 lm S')<|Ok.eq (O7 _ 1 S')<|Ok.eq (c5m (by omega) (by omega) S')<|Ok.eq md<|Ok.eq (show W8 (.tup ((wv r m i).map D.int)) (.tup ((rep r m i).map D.int)) S'=.ok (.tup ((wv r m (i+1)).map D.int)) S' by
   show (if ((wv r m i).map D.int).length+((rep r m i).map D.int).length<=sizeLine then ret (D.tup ((wv r m i).map D.int++(rep r m i).map D.int)) else bad) S'=_
   rw [if_pos (by rw [List.length_map,List.length_map,sizeLine_eq];omega),a6t,List.map_append];rfl)<|Ok.ret ⟨rfl,by rw [a6t,List.length_append];omega,_,rfl⟩
 ·rintro fl S1 hf
  cases fl with
  | rt d=>exact hf.elim
  | bk ρ=>exact hf.elim
  | ct ρ=>exact hf.elim
  | nx ρ=>
   rcases hf with ⟨rfl,lw,o,rfl⟩ | hf
   ·exact Ok.nxt<|Ok.cg (c5g ..)<|Ok.ret ⟨rfl,rfl⟩
   ·exact hf.elim
theorem a4w {ds:List D} {i:Nat} {x:D} (h:i<ds.length) (hl:ds.length<=100) (k:Nat) (S:Sto):rn (k+1) c0w [.tup ds,.int (i:Int),x] S=.ok (.tup (ds.set i x)) S:=by
 refine o8 ?_
 rw [rn,c7 (fd:=b2w) rfl,b4z]
 refine Ok.eq (show a0q (.int (i:Int)) S=.ok (some (i:Int)) S from rfl)<|Ok.eq (show slD (.tup ds) none (some (i:Int)) S=.ok (.tup (ds.take i)) S by
  show L3.R.ok (D.tup (A7 ds none (some (i:Int)))) S=_
  rw [L3.cut_take (by omega)])<|Ok.eq (cat_tup (by rw [List.length_take,sizeLine_eq];show _+1<=_;omega))<|Ok.eq (O7 i 1 S)<|Ok.eq (show a0q (.int ((i+1:Nat):Int)) S=.ok (some ((i+1:Nat):Int)) S from rfl)<|Ok.eq (show slD (.tup ds) (some ((i+1:Nat):Int)) none S=.ok (.tup (ds.drop (i+1))) S by
  show L3.R.ok (D.tup (A7 ds (some ((i+1:Nat):Int)) none)) S=_
  rw [b2r (by omega)])<|Ok.eq (cat_tup (by rw [List.length_append,List.length_take,List.length_drop,sizeLine_eq];show _+1+_<=_;omega))<|Ok.ret ⟨?_,rfl⟩
 rw [List.set_eq_take_append_cons_drop,if_pos h,List.append_assoc];rfl
theorem c6x {bx:List (Option Nat)} (h:bx.length<=6) (l k:Nat) (S:Sto):rn (k+1) c31 [.tup (bx.map bxD),.int (l:Int)] S=.ok (.tup ((ups bx l).map nD)) S:=by
 refine o8 ?_
 rw [rn,c7 (fd:=Ai) rfl,c0v]
 have at_:∀ (i:Nat) (d:D),(bx.map bxD)[i]?=some d->∃ o,bx[i]?=some o/\d=bxD o:=λi d h=>by
  rw [List.getElem?_map] at h
  cases e:bx[i]? with
  | none=>rw [e] at h;cases h
  | some o=>rw [e] at h;cases h;exact ⟨o,rfl,rfl⟩
 have c:=a16 (ds:=bx.map bxD) (g:=λ(i:Nat)=>nD i) (p:=upB bx l) (t:=a48 (rn k) [some (.tup (bx.map bxD)),some (.int (l:Int))]) (f:=a3x (rn k) [some (.tup (bx.map bxD)),some (.int (l:Int))]) (S:=S) (by rw [List.length_map];exact u9 (by omega)) (λi d h=>by
   obtain ⟨o,eo,rfl⟩:=at_ i d h
   rw [a41]
   exact b18 (ix:=ret (bxD o)) eo rfl) (λi d _ _=>by rw [a4n];rfl)
 refine nx_bind<|Ok.eq (show U6 (.tup (bx.map bxD)) S=.ok (W7 (bx.map bxD),(bx.map bxD).length+1) S from rfl)<|Ok.of c<|Ok.eq (a:=.tup _) rfl<|Ok.ret ⟨?_,rfl⟩
 unfold ups
 rw [List.length_map]
theorem a86 {bx:List (Option Nat)} (h:bx.length<=6) {l:Nat} (l1:1<=l) (k:Nat) (S:Sto):rn (k+2) c2e [.tup (bx.map bxD),.int (l:Int)] S=.ok (C7 bx l).d S:=by
 refine o8 ?_
 rw [rn,c7 (fd:=b9g) rfl,b77]
 refine Ok.eq (c6x h l k S)<|Ok.eq (u5 _ S) ?_
 rw [List.length_map]
 refine Ok.eq (b09 _ _ S)<|Ok.eq (c8 _ S) ?_
 unfold C7
 by_cases q:l<=(ups bx l).length
 ·rw [if_pos q]
  exact Ok.pos (decide_eq_true (by omega))<|Ok.ret ⟨rfl,rfl⟩
 ·rw [if_neg q]
  exact Ok.neg (by rw [decide_eq_false (by omega)];exact Bool.false_ne_true)<|Ok.eq (a32 (a:=l) (b:=1) l1 S)<|Ok.ret ⟨rfl,rfl⟩
section
variable {hs:List Hd} (G:Good hs) (h6:hs.length<=6) {i:Nat} (hi:i<hs.length) (k:Nat) (S:Sto)
include G h6 hi
theorem c0c (ho:a7e (hat hs i)=false):rn (k+3) b64 [stL hs,.int (i:Int)] S=.ok (stL (hs.set i (d7 hs i))) S:=by
 refine o8 ?_
 rw [rn,c7 (fd:=Ab) rfl,b14,b1n]
 have nb:=@Good.box hs G i hi (λv q=>by rw [q] at ho;cases ho)
 have lb:((hs.map boxOf).map bxD).length=hs.length:=by rw [List.length_map,List.length_map]
 have lh:(hs.map Hd.d).length=hs.length:=List.length_map ..
 have gi:(hs.map Hd.d)[i]?=some (hat hs i).d:=f9 (v8 hi)
 refine Ok.first<|Ok.cg (c4w ..)<|Ok.eq (a:=.nx [some (stL hs),some (.int (i:Int)),some (.tup ((hs.map boxOf).map bxD)),some (.tup (hs.map Hd.d)),none,none]) (S1:=S) rfl<|Ok.nxt<|Ok.cg (c2i ..)<|Ok.eq (b9q S gi)<|Ok.nxt<|Ok.cg (c4b ..) ?_
 have fin:∀ l:Nat,d7 hs i=.look l->(hs.set i (d7 hs i)).map boxOf=(hs.map boxOf).set i (some l)->Ok (nxt (evK Rs Γ (rn (k+2)) 40) a3c [nth Ab.body 5] endD (.nx [some (stL hs),some (.int (i:Int)),some (.tup ((hs.map boxOf).map bxD)),some (.tup (hs.map Hd.d)),some (hat hs i).d,some (.int (l:Int))])) S λd S'=>d=stL (hs.set i (d7 hs i))/\S'=S:=λl e1 e2=>by
  refine Ok.nxt<|Ok.cg (c6g ..)<|Ok.eq (a4w (by omega) (by omega) (k+1) S)<|Ok.eq (a4w (by omega) (by omega) (k+1) S)<|Ok.ret ⟨?_,rfl⟩
  unfold stL
  rw [e2,e1]
  congr 3
  ·congr 1
   exact a4d i (some l)
  ·congr 2
   exact P0 i (.look l)
 cases e:hat hs i with
 | holds v=>rw [e] at ho;cases ho
 | out=>
  rw [e] at nb fin
  refine Ok.eq (a:=.str "out") (S1:=S) rfl<|Ok.eq (a:=.bl false) (S1:=S) rfl<|Ok.eq (c8 _ S)<|Ok.neg (by decide) ?_
  refine Ok.nxt<|Ok.cg (b84 ..)<|Ok.eq (a:=.str "out") (S1:=S) rfl<|Ok.eq (a:=.bl false) (S1:=S) rfl<|Ok.eq (c8 _ S)<|Ok.neg (by decide) ?_
  refine Ok.nxt<|Ok.cg (c3d ..)<|Ok.eq (a:=.str "out") (S1:=S) rfl<|Ok.eq (a:=.bl true) (S1:=S) rfl<|Ok.eq (c8 _ S)<|Ok.pos rfl ?_
  refine Ok.eq (show n8 (.tup ((hs.map boxOf).map bxD)) S=.ok (.int (hs.length:Int)) S by rw [u5,lb]) ?_
  exact fin hs.length (by unfold d7;rw [e]) nb
 | put l=>
  rw [e] at nb fin
  refine Ok.eq (a:=.str "put") (S1:=S) rfl<|Ok.eq (a:=.bl false) (S1:=S) rfl<|Ok.eq (c8 _ S)<|Ok.neg (by decide) ?_
  refine Ok.nxt<|Ok.cg (b84 ..)<|Ok.eq (a:=.str "put") (S1:=S) rfl<|Ok.eq (a:=.bl false) (S1:=S) rfl<|Ok.eq (c8 _ S)<|Ok.neg (by decide) ?_
  refine Ok.nxt<|Ok.cg (c3d ..)<|Ok.eq (a:=.str "put") (S1:=S) rfl<|Ok.eq (a:=.bl false) (S1:=S) rfl<|Ok.eq (c8 _ S)<|Ok.neg (by decide) ?_
  refine Ok.eq (a:=.int (l:Int)) (S1:=S) rfl ?_
  exact fin l (by unfold d7;rw [e]) nb
 | look l=>
  rw [e] at nb
  have l1:=(G.pos hi).1 l e
  have es:d7 hs i=C7 (hs.map boxOf) l:=by unfold d7;rw [e]
  refine Ok.eq (a:=.str "look") (S1:=S) rfl<|Ok.eq (a:=.bl false) (S1:=S) rfl<|Ok.eq (c8 _ S)<|Ok.neg (by decide) ?_
  refine Ok.nxt<|Ok.cg (b84 ..)<|Ok.eq (a:=.str "look") (S1:=S) rfl<|Ok.eq (a:=.bl true) (S1:=S) rfl<|Ok.eq (c8 _ S)<|Ok.pos rfl ?_
  refine Ok.eq (a:=.int (l:Int)) (S1:=S) rfl ?_
  refine Ok.eq (a86 (by rw [List.length_map];exact h6) l1 k S) ?_
  refine Ok.eq (a4w (by omega) (by omega) (k+1) S) ?_
  refine Ok.ret ⟨?_,rfl⟩
  unfold stL
  rw [nb,es]
  congr 4
  exact P0 i _
theorem b9i (ho:a7e (hat hs i)=true):Xn (rn (k+3) b64 [stL hs,.int (i:Int)]) S λn S'=>n=S.length/\S'=S++[.exc 1 [("hand",.int (i:Int))]]:=by
 rw [rn,c7 (fd:=Ab) rfl,b14,b1n]
 have gi:(hs.map Hd.d)[i]?=some (hat hs i).d:=f9 (v8 hi)
 refine Xn.first<|Xn.cg (c4w ..)<|Xn.eq (a:=.nx [some (stL hs),some (.int (i:Int)),some (.tup ((hs.map boxOf).map bxD)),some (.tup (hs.map Hd.d)),none,none]) (S1:=S) rfl<|Xn.nxt<|Xn.cg (c2i ..)<|Xn.eq (b9q S gi)<|Xn.nxt<|Xn.cg (c4b ..) ?_
 cases e:hat hs i with
 | holds v=>
  refine Xn.eq (a:=.str "holds") rfl<|Xn.eq (a:=.bl true) rfl<|Xn.eq (c8 _ S)<|Xn.pos rfl ?_
  rw [<- bind_assoc]
  refine Xn.bind ?_
  exact a8c (c:=1) (fs:=["hand"]) (ds:=[.int (i:Int)]) (S:=S) rfl (by
   have:(i:Int)=(i:Int):=rfl
   have h5:i<6:=by omega
   have:i=0\/i=1\/i=2\/i=3\/i=4\/i=5:=by omega
   rcases this with rfl | rfl | rfl | rfl | rfl | rfl <;> rfl)
 | _=>rw [e] at ho;cases ho
theorem c4h (g:D):Ok (rn (k+5) c1c [.tup [.str "levels",g],stL hs,.int (i:Int)]) S λd S'=>Ex S S'/\((a7e (hat hs i)=false/\d=stL (hs.set i (d7 hs i)))\/(a7e (hat hs i)=true/\d=.non)):=by
 rw [rn,c7 (fd:=Ag) rfl,b95,b7u]
 refine Ok.first<|Ok.cg (c6h ..) ?_
 cases ho:a7e (hat hs i) with
 | false=>
  refine Ok.bind (Ok.try_ ?_)
  rw [Z7]
  have st:rn (k+4) a9g [.tup [.str "levels",g],stL hs,.int (i:Int)] S=.ok (stL (hs.set i (d7 hs i))) S:=by
   refine o8 ?_
   rw [rn,c7 (fd:=a6e) rfl,a6u]
   exact Ok.eq (a:=.str "levels") rfl<|Ok.eq (a:=.bl false) rfl<|Ok.eq (c8 _ S)<|Ok.neg (by decide)<|Ok.eq (a:=.str "levels") rfl<|Ok.eq (a:=.bl false) rfl<|Ok.eq (c8 _ S)<|Ok.neg (by decide)<|Ok.eq (a:=.str "levels") rfl<|Ok.eq (a:=.bl true) rfl<|Ok.eq (c8 _ S)<|Ok.pos rfl<|Ok.eq (c0c G h6 hi k S ho)<|Ok.ret ⟨rfl,rfl⟩
  exact Ok.eq st<|Ok.ret<|Ok.ret ⟨Ex.refl S,.inl ⟨rfl,rfl⟩⟩
 | true=>
  refine Ok.bind (Ok.caught ?_)
  rw [Z7]
  refine Xn.bind (Xn.mono (Q:=λn S'=>n=S.length/\S'=S++[.exc 1 [("hand",.int (i:Int))]]) ?_ ?_)
  ·show Xn (rn (k+4) a9g _) S _
   rw [rn,c7 (fd:=a6e) rfl,a6u]
   exact Xn.eq (a:=.str "levels") rfl<|Xn.eq (a:=.bl false) rfl<|Xn.eq (c8 _ S)<|Xn.neg (by decide)<|Xn.eq (a:=.str "levels") rfl<|Xn.eq (a:=.bl false) rfl<|Xn.eq (c8 _ S)<|Xn.neg (by decide)<|Xn.eq (a:=.str "levels") rfl<|Xn.eq (a:=.bl true) rfl<|Xn.eq (c8 _ S)<|Xn.pos rfl<|Xn.bind (b9i G h6 hi k S ho)
  ·rintro n S1 ⟨rfl,rfl⟩
   refine ⟨1,[("hand",.int (i:Int))],by simp,rfl,?_⟩
   unfold b6o
   rw [a4k]
   exact Ok.first<|Ok.cg (b2z ..)<|Ok.ret<|Ok.ret ⟨⟨_,rfl⟩,.inr ⟨rfl,rfl⟩⟩
end
theorem c09 {m:Nat} {r:List (List Int)} (R:ROk m r):∀ i,i<=r.length->∀ x∈wv r m i,x∈rgI m:=λi hi x hx=>by
 unfold wv at hx
 obtain ⟨l,hl,h⟩:=List.mem_flatten.mp hx
 obtain ⟨j,hj,rfl⟩:=List.mem_map.mp hl
 have hj:=List.mem_range.mp hj
 unfold rep at h
 obtain ⟨b,hb,h⟩:=List.mem_flatten.mp h
 rw [(List.mem_replicate.mp hb).2] at h
 have gd:r.getD j []=r[j]'(by omega):=by simp [show j<r.length by omega]
 rw [gd] at h
 exact R.pm.mem_iff.mp (List.mem_flatten.mpr ⟨_,List.getElem_mem _,h⟩)
theorem a14 (hs:List Hd) {ws:List Int} {n:Nat} (h:n<ws.length):run hs (nE (ws.take (n+1)))=(run hs (nE (ws.take n))).set ws[n].toNat (d7 (run hs (nE (ws.take n))) ws[n].toNat):=by
 rw [List.take_succ_eq_append_getElem h]
 unfold nE
 rw [List.map_append,M7];rfl
theorem a8i {hs:List Hd} {i:Nat} (hi:i<hs.length) (ho:a7e (hat hs i)=true):hs.set i (d7 hs i)=hs:=by
 have:d7 hs i=hat hs i:=by
  unfold d7
  cases e:hat hs i with
  | holds v=>rfl
  | _=>rw [e] at ho;cases ho
 rw [this]
 obtain ⟨h1,h2⟩:=List.getElem?_eq_some_iff.mp (v8 hi)
 rw [<- h2,List.set_getElem_self h1]
section
variable {m:Nat} (m6:m<=6) {ws:List Int} (hw:∀ x∈ws,x∈rgI m)
include m6 hw
theorem c4j {hs0:List Hd} (G0:Good hs0) (h0:hs0.length=m) (g:D) (k:Nat) (S:Sto):Ok (rn (k+6) b82 [.tup [.str "levels",g],stL hs0,.tup (ws.map D.int)]) S λd S'=>Ex S S'/\d=stL (run hs0 (nE ws)):=by
 rw [rn,c7 (fd:=Af) rfl,b27,b5h]
 refine Ok.first<|Ok.cg (c36 ..)<|Ok.eq (M3 _ S) ?_
 rw [List.length_map]
 refine Ok.bind ((Ok.for_ (n:=ws.length) (λn ρ S'=>Ex S S'/\Good (run hs0 (nE (ws.take n)))/\(run hs0 (nE (ws.take n))).length=m/\∃ o1 o2:Option D,ρ=[some (.tup [.str "levels",g]),some (stL (run hs0 (nE (ws.take n)))),some (.tup (ws.map D.int)),o1,o2]) (λ_ _=>False) (λ_ _=>False) ?_ ?_ ws.length 0 _ _ (by omega) ⟨Ex.refl S,G0,h0,_,_,rfl⟩).mono ?_)
 ·intro ρ S' _
  show some (ws.map D.int)[ws.length]?=some none
  rw [List.getElem?_eq_none (by simp)]
 ·rintro n ρ S' hn ⟨hx,Gn,ln,o1,o2,rfl⟩
  obtain ⟨i,hi,ei⟩:=rg_mem.mp (hw _ (List.getElem_mem hn))
  have rt:=a14 hs0 hn
  have ti:ws[n].toNat=i:=by rw [ei];simp
  rw [ti] at rt
  refine ⟨.int (i:Int),_,by show some (ws.map D.int)[n]?=_;rw [f9 (List.getElem?_eq_getElem hn),ei],rfl,?_⟩
  rw [rt]
  generalize run hs0 (nE (ws.take n))=hs at Gn ln rt
  unfold a3f
  rw [a3k]
  refine Ok.first<|Ok.cg (a7m ..)<|Ok.bind ((c4h Gn (by omega) (show i<hs.length by omega) k S' g).mono ?_)
  rintro d S2 ⟨hx2,q⟩
  have Gs:=Gn.step (show i<hs.length by omega)
  have ls:(hs.set i (d7 hs i)).length=m:=by rw [List.length_set];exact ln
  refine Ok.nxt<|Ok.cg (a67 ..) ?_
  rcases q with ⟨ho,rfl⟩ | ⟨ho,rfl⟩
  ·exact Ok.eq (a:=.bl true) (S1:=S2) rfl<|Ok.eq (c8 _ S2)<|Ok.pos rfl<|Ok.ret ⟨hx.trans hx2,Gs,ls,_,_,rfl⟩
  ·have e:=a8i (show i<hs.length by omega) ho
   rw [e] at Gs ls ⊢
   exact Ok.eq (a:=.bl false) (S1:=S2) rfl<|Ok.eq (c8 _ S2)<|Ok.neg (by decide)<|Ok.ret ⟨hx.trans hx2,Gs,ls,_,_,rfl⟩
 ·rintro fl S1 hf
  cases fl with
  | rt d=>exact hf.elim
  | bk ρ=>exact hf.elim
  | ct ρ=>exact hf.elim
  | nx ρ=>
   rcases hf with ⟨hx,Gn,ln,o1,o2,rfl⟩ | hf
   ·rw [List.take_length]
    exact Ok.nxt<|Ok.cg (c2f ..)<|Ok.ret ⟨hx,rfl⟩
   ·exact hf.elim
end
theorem c3c {m:Nat} (h0:0<m) (m6:m<=6) {g:List Int} (hg:g.length=m) (k:Nat) (S:Sto):rn (k+2) c0n [.tup [.str "levels",.tup (g.map D.int)]] S=.ok (stL (List.replicate m .out)) S:=by
 obtain ⟨e1,e2⟩:=b2q h0 m6 S
 have hn:rn (k+1) b83 [.tup [.str "levels",.tup (g.map D.int)]] S=.ok (.int (m:Int)) S:=by
  refine o8 ?_
  rw [rn,c7 (fd:=b1v) rfl,b4w]
  exact Ok.eq (a:=.str "levels") (S1:=S) rfl<|Ok.eq (a:=.bl true) (S1:=S) rfl<|Ok.eq (c8 _ S)<|Ok.pos rfl<|Ok.eq (a:=.tup (g.map D.int)) (S1:=S) rfl<|Ok.eq (show n8 (.tup (g.map D.int)) S=.ok (.int (m:Int)) S by rw [u5,List.length_map,hg])<|Ok.ret ⟨rfl,rfl⟩
 have fl:rn (k+1) c1d [.int (m:Int)] S=.ok (stL (List.replicate m .out)) S:=by
  refine o8 ?_
  rw [rn,c7 (fd:=b8r) rfl,c03]
  refine Ok.eq e1<|Ok.eq e2<|Ok.ret ⟨?_,rfl⟩
  unfold stL
  rw [List.map_replicate (f:=boxOf)];rfl
 refine o8 ?_
 rw [rn,c7 (fd:=a9z) rfl,b49]
 refine Ok.eq hn<|Ok.eq (a:=.str "levels") (S1:=S) rfl<|Ok.eq (a:=.bl false) (S1:=S) rfl<|Ok.eq (c8 _ S)<|Ok.neg (by decide) ?_
 refine Ok.eq (a:=.str "levels") (S1:=S) rfl<|Ok.eq (a:=.bl false) (S1:=S) rfl<|Ok.eq (c8 _ S)<|Ok.neg (by decide) ?_
 exact Ok.eq (a:=.str "levels") (S1:=S) rfl<|Ok.eq (a:=.bl true) (S1:=S) rfl<|Ok.eq (c8 _ S)<|Ok.pos rfl<|Ok.eq fl<|Ok.ret ⟨rfl,rfl⟩
theorem b0p {i m:Nat} (h:i<m) (k:Nat) (S:Sto):rn (k+1) b7w [.int (i:Int),.int 0,.int ((m:Int)-1)] S=.ok (.bl true) S:=by
 refine o8 ?_
 rw [rn,c7 (fd:=a92) rfl,b6a]
 refine Ok.eq (a:=.bl true) (S1:=S) rfl<|Ok.eq (a:=true) (S1:=S) rfl<|Ok.pos rfl<|Ok.eq (a:=.bl false) (S1:=S) rfl<|Ok.eq (a:=false) (S1:=S) rfl<|Ok.eq (a:=true) (S1:=S) rfl<|Ok.pos rfl ?_
 refine Ok.eq (b09 0 i S)<|Ok.eq (c8 _ S)<|Ok.pos (decide_eq_true (by omega))<|Ok.eq (b09 _ _ S)<|Ok.ret ⟨?_,rfl⟩
 rw [decide_eq_true (by omega)]
theorem a03 {m:Nat} {r:List (List Int)} (R:ROk m r) (h0:0<m) (m6:m<=6) {g:List Int} (hg:g.length=m) (k:Nat) (S:Sto):Ok (rn (k+7) c02 [u0 r,.tup (g.map D.int)]) S λd S'=>d=.bl true/\Ex S S':=by
 rw [rn,c7 (fd:=Aa) rfl,b47,b33]
 have s1:=c1u R m6
 have s2:=c48 R m6
 have hw:=c09 R r.length (Nat.le_refl _)
 have we:=b6z R r.length (Nat.le_refl _)
 have se:=b7f R
 have r0:List.replicate m Hd.out=mk m λ_=>.out:=by unfold mk;rw [List.map_const',List.length_range]
 rw [<- we,<- r0] at se
 have wk:=λS=>a9d R m6 (k+5) S
 generalize hws:wv r m r.length=ws at hw se wk
 refine Ok.first<|Ok.cg (c40 ..)<|Ok.eq (show n8 (.tup (g.map D.int)) S=.ok (.int (m:Int)) S by rw [u5,List.length_map,hg]) ?_
 refine Ok.nxt<|Ok.cg (c1t ..)<|Ok.eq (s2.repr (S:=S)) ?_
 refine Ok.nxt<|Ok.cg (c29 ..)<|Ok.eq (wk S) ?_
 refine Ok.nxt<|Ok.cg (c4f ..)<|Ok.eq (a:=.bl true) (S1:=S) rfl<|Ok.eq (a:=true) (S1:=S) rfl<|Ok.neg (by decide)<|Ok.eq (s2.repr (S:=S))<|Ok.eq (a1b _ S)<|Ok.eq (c8 _ S)<|Ok.neg (by decide) ?_
 refine Ok.nxt<|Ok.cg (c1m ..)<|Ok.eq (b8n h0 m6 (k+5) S) ?_
 refine Ok.nxt<|Ok.cg (c30 ..)<|Ok.eq (M3 _ S) ?_
 rw [List.length_map]
 refine Ok.bind ((Ok.for_ (n:=ws.length) (λn ρ S'=>Ex S S'/\Good (run (List.replicate m .out) (nE (ws.take n)))/\(run (List.replicate m .out) (nE (ws.take n))).length=m/\∃ o1 o2:Option D,ρ=[some (u0 r),some (.tup (g.map D.int)),some (.int (m:Int)),some (.str (py (u0 r)).shown),some (.tup (ws.map D.int)),some (stL (run (List.replicate m .out) (nE (ws.take n)))),o1,o2]) (λ_ _=>False) (λ_ _=>False) ?_ ?_ ws.length 0 _ _ (by omega) ⟨Ex.refl S,b6r m,List.length_replicate ..,_,_,rfl⟩).mono ?_)
 ·intro ρ S' _
  show some (ws.map D.int)[ws.length]?=some none
  rw [List.getElem?_eq_none (by simp)]
 ·rintro n ρ S' hn ⟨hx,Gn,ln,o1,o2,rfl⟩
  obtain ⟨i,hi,ei⟩:=rg_mem.mp (hw _ (List.getElem_mem hn))
  have rt:=a14 (List.replicate m .out) hn
  have ti:ws[n].toNat=i:=by rw [ei];simp
  rw [ti] at rt
  refine ⟨.int (i:Int),_,by show some (ws.map D.int)[n]?=_;rw [f9 (List.getElem?_eq_getElem hn),ei],rfl,?_⟩
  rw [rt]
  generalize run (List.replicate m .out) (nE (ws.take n))=hs at Gn ln rt
  unfold a17
  rw [a2r]
  refine Ok.first<|Ok.cg (a73 ..)<|Ok.eq (show a0u (.int (m:Int)) (.int 1) S'=.ok (.int ((m:Int)-1)) S' from rfl)<|Ok.eq (b0p hi (k+5) S')<|Ok.eq (a:=true) (S1:=S') rfl<|Ok.neg (by decide) ?_
  refine Ok.nxt<|Ok.cg (a7w ..)<|Ok.bind ((a1s Gn (by omega) (show i<hs.length by omega) (k+5) S').mono ?_)
  rintro _ S2 ⟨rfl,hx2⟩
  exact Ok.ret ⟨hx.trans hx2,Gn.step (by omega),by rw [List.length_set];exact ln,_,_,rfl⟩
 ·rintro fl S1 hf
  cases fl with
  | rt d=>exact hf.elim
  | bk ρ=>exact hf.elim
  | ct ρ=>exact hf.elim
  | nx ρ=>
   rcases hf with ⟨hx,Gn,ln,o1,o2,rfl⟩ | hf
   ·rw [List.take_length,se]
    refine Ok.nxt<|Ok.cg (c3h ..)<|Ok.eq (s1.repr (S:=S1))<|Ok.bind ((b4m R m6 (k+3) S1).mono ?_)
    rintro _ S2 ⟨rfl,hx2⟩
    have e1:=b9l (vs:=vw r m) (by rw [O3];exact m6) (k+4) S2
    rw [c3a R] at e1
    refine Ok.eq (s1.repr (S:=S2))<|Ok.eq (a1b _ S2)<|Ok.eq (c8 _ S2)<|Ok.neg (by decide) ?_
    refine Ok.eq e1<|Ok.eq (s2.repr (S:=S2))<|Ok.eq (a1b _ S2)<|Ok.eq (c8 _ S2)<|Ok.neg (by decide) ?_
    refine Ok.nxt<|Ok.cg (c4i ..)<|Ok.nxt<|Ok.cg (c2d ..)<|Ok.eq (c3c h0 m6 hg (k+4) S2)<|Ok.bind ((c4j m6 hw (b6r m) (List.length_replicate ..) _ k S2).mono ?_)
    rintro _ S3 ⟨hx3,rfl⟩
    rw [se]
    exact Ok.eq (s1.repr (S:=S3))<|Ok.eq (s1.repr (S:=S3))<|Ok.eq (b3s _ S3)<|Ok.ret ⟨rfl,(hx.trans hx2).trans hx3⟩
   ·exact hf.elim
theorem a82 {m:Nat} {os:List Int} (p:os.Perm (rgI m)):ROk m (os.map λx=>[x]):=by
 have e:∀ l:List Int,(l.map λx=>[x]).flatten=l:=λl=>by
  induction l with
  | nil=>rfl
  | cons x l ih=>rw [List.map_cons,List.flatten_cons,ih];rfl
 exact ⟨by rw [e os];exact p,λb hb=>by obtain ⟨x,_,rfl⟩:=List.mem_map.mp hb;simp,λb hb=>by obtain ⟨x,_,rfl⟩:=List.mem_map.mp hb;simp⟩
theorem a9e {m:Nat} (h0:0<m):ROk m [rgI m]:=⟨by simp,λb hb=>by rw [List.mem_singleton.mp hb];exact c4k m,λb hb=>by
 rw [List.mem_singleton.mp hb]
 intro z
 have:=O2 m
 rw [z] at this
 simp at this
 omega⟩
theorem c0e (ns:List Int):∃ S',rn 8 b21 [.scr (ns.map D.int)] []=.ok (.bl true) S':=by
 suffices h:Ok (rn 8 b21 [.scr (ns.map D.int)]) [] λd _=>d=.bl true by
  obtain ⟨d,S',e,rfl⟩:=h
  exact ⟨S',e⟩
 rw [rn,c7 (fd:=law_F) rfl,b46,b53]
 obtain ⟨ms,ew⟩:=b44 ns [] 6
 refine Ok.first<|Ok.cg (c4s ..)<|Ok.eq ew ?_
 have F0:Ft ms 0 200 ([]++[d9 ms 0 0 0]):=⟨0,0,0,by simp,by omega,by omega,by omega,by omega⟩
 generalize ([]++[d9 ms 0 0 0]:Sto)=S0 at F0
 show Ok (nxt _ _ _ _ (.nx [some (.scr (ns.map D.int)),some (.ref 0),none,none,none,none])) S0 _
 refine Ok.nxt<|Ok.cg (c33 ..)<|Ok.eq (O1 (n:=3) (by omega) _)<|Ok.bind ((Ok.for_ (n:=3) (λi ρ S'=>Ft ms 0 (50+30 * (3-i)) S'/\∃ (o3 o4 o5 o6:Option D),ρ=[some (.scr (ns.map D.int)),some (.ref 0),o3,o4,o5,o6]) (λ_ _=>False) (λ_ _=>False) (λρ S' _=>R4 3 S') ?_ 3 0 _ _ (by omega) ⟨F0.less (by omega),_,_,_,_,rfl⟩).mono ?_)
 ·rintro i ρ S hi ⟨F,o3,o4,o5,o6,rfl⟩
  refine ⟨.int (i:Int),_,a1n hi S,rfl,?_⟩
  unfold a2m
  rw [a2e]
  generalize hN:50+30 * (3-(i+1))=N
  refine Ok.first<|Ok.cg (a8o ..)<|Ok.bind ((G2 (N:=N+29) (m:=6) (F.less (by omega)) (by omega) (by omega) 6).mono ?_)
  rintro _ S1 ⟨a,rfl,ha,F1,_,_⟩
  refine Ok.eq (O7 1 a S1) ?_
  generalize hn:1+a=m
  refine Ok.nxt<|Ok.cg (a7h ..)<|Ok.bind ((Z9 (N:=N+13) (m:=m) (F1.less (by omega)) (by omega) 5).mono ?_)
  rintro _ S2 ⟨F2,g,rfl,hg⟩
  refine Ok.nxt<|Ok.cg (a8l ..)<|Ok.bind ((b0k (N:=N) (m:=m) F2 (by omega) 4).mono ?_)
  rintro _ S3 ⟨r,rfl,R,F3,_⟩
  refine Ok.bind ((a03 R (by omega) (by omega) hg 0 S3).mono ?_)
  rintro _ S4 ⟨rfl,hx⟩
  exact Ok.eq (a:=true) (S1:=S4) rfl<|Ok.neg (by decide)<|Ok.ret ⟨F3.keep (hx.at (P6 F3)),_,_,_,_,rfl⟩
 rintro fl S1 hf
 cases fl with
 | rt d=>exact hf.elim
 | bk ρ=>exact hf.elim
 | ct ρ=>exact hf.elim
 | nx ρ=>
  rcases hf with ⟨F,o3,o4,o5,o6,rfl⟩ | hf
  ·refine Ok.nxt<|Ok.cg (c38 ..)<|Ok.bind ((G2 (N:=40) (m:=6) (F.less (by omega)) (by omega) (by omega) 6).mono ?_)
   rintro _ S2 ⟨a,rfl,ha,F2,_,_⟩
   refine Ok.eq (O7 1 a S2) ?_
   generalize hn:1+a=m
   refine Ok.nxt<|Ok.cg (c4r ..)<|nx_bind<|Ok.eq (lrg (by omega) S2)<|Ok.bind ((a6s (N:=30) (F2.less (by omega)) (by rw [O2];omega) 5).mono ?_)
   rintro _ S3 ⟨os,rfl,po,F3,_⟩
   have lo:os.length=m:=by rw [po.length_eq,O2]
   have c:=m9 (l:=os) (h:=D.int) (g:=λx=>q5 [x]) (p:=λ_=>true) (t:=λ_=>ret true) (f:=λd=>ret (.tup [d])) (S:=S3) (u9 (by omega)) (λ_ _=>rfl) (λx _ _=>rfl)
   rw [List.filter_eq_self.mpr (by simp)] at c
   have ea:D.tup (os.map λx=>q5 [x])=u0 (os.map λx=>[x]):=by unfold u0;rw [List.map_map];rfl
   refine Ok.eq (show t9 (.lst (os.map D.int)) S3=.ok (L6 (os.map D.int),os.length+1) S3 by show L3.R.ok (_,(os.map D.int).length+1) S3=_;rw [List.length_map])<|Ok.of c ?_
   refine Ok.eq (a:=u0 (os.map λx=>[x])) (S1:=S3) (by rw [<- ea];rfl) ?_
   refine Ok.nxt<|Ok.cg (c3w ..)<|Ok.bind ((Z9 (N:=10) (m:=m) (F3.less (by omega)) (by omega) 5).mono ?_)
   rintro _ S4 ⟨F4,g,rfl,hg⟩
   refine Ok.nxt<|Ok.cg (c41 ..)<|Ok.bind ((a03 (a82 po) (by omega) (by omega) hg 0 S4).mono ?_)
   rintro _ S5 ⟨rfl,hx⟩
   refine Ok.eq (a:=true) (S1:=S5) rfl<|Ok.pos rfl<|Ok.eq (show T0 (.int (m:Int)) S5=.ok (q5 (rgI m)) S5 by
    show (if 0<=(m:Int)/\(m:Int)<100000 then ret (D.tup ((rgL (m:Int).toNat).map D.int)) else bad) S5=_
    rw [if_pos ⟨by omega,by omega⟩];rfl)<|Ok.bind ((a03 (a9e (show 0<m by omega)) (by omega) (by omega) hg 0 S5).mono ?_)
   rintro _ S6 ⟨rfl,_⟩
   exact Ok.ret rfl
  ·exact hf.elim
end L3.K55
namespace L3.K55
open PySem L2 Hn
noncomputable abbrev iHE:Stmt:=a6z (top 5) 0
noncomputable abbrev iNS:Stmt:=a6z (top 6) 0
section
variable {P:Program} {w:World} {K:PySem.W.Frag} {mg:Str->Option Value} {base:Heap} {f fB B:Addr} {fd fdB:FuncData}
theorem c5l:FnScope ["self","text"] ["self","text"] (b7 iHE):=⟨rfl,rfl,rfl,by decide +kernel,rfl,by decide +kernel,by decide +kernel⟩
theorem b62 (F:Fun K "__init__" "HandError.__init__" iHE f fd) (T:TxE K mg B fB):FnOk P w K mg base CX0 1 f fd ["self","text"] (spHE K):=by
 refine F.ok c5l (λvs H Q E h=>?_) (λcdv A outer s H vs Q E hr h=>?_)
 ·obtain ⟨x,y,C,d,rfl,_⟩:=h
  rfl
 ·obtain ⟨x,y,C,d,rfl,M,e0,k⟩:=h
  refine ⟨_,a5q (a1m (b0r rfl T.mV T.fV (B6 (pv 0) (B6 (pv 1) a0y)))),?_⟩
  exact ⟨_,rfl,_,rfl,x,C,d,y,rfl,M,e0,k⟩
theorem c6o:FnScope ["self","hand"] ["self","hand"] (b7 iNS):=⟨rfl,rfl,rfl,by decide +kernel,rfl,by decide +kernel,by decide +kernel⟩
theorem c4c (F:Fun K "__init__" "NoStep.__init__" iNS f fd) (T:TxE K mg B fB) (FB:Fun K "__init__" "HandError.__init__" iHE fB fdB) (bB:Binds K fdB ["self","text"] []):FnOk P w K mg base CX0 2 f fd ["self","hand"] (sp1 K "hand"):=by
 have G:FnOk P w K mg base CX0 1 fB fdB ["self","text"] (spHE K):=b62 FB T
 refine F.ok c6o (λvs H Q E h=>?_) (λcdv A outer s H vs Q E hr h=>?_)
 ·obtain ⟨x,v,C,dv,rfl,_⟩:=h
  rfl
 ·obtain ⟨x,v,C,dv,rfl,M,na,e0,ft,k⟩:=h
  have hu:(A.deeper (PyProof.Rows.envOfC "NoStep.__init__" (b7 iNS) s.heap.objs.size f cdv)).units+80<cLine:=by have:=hr.un;omega
  refine ⟨_,a1x (a1m (b10 rfl T.mB T.sB T.rB T.cB T.kB G hr bB a5n (B6 (pv 0) (B6 (b5p (a55 (b5q hr.gd hu (pv 1) (a55 b48))) (by decide)) a0y))))
   (a5q (b4u (pv 0) (pv 1) rfl)),?_⟩
  refine ⟨_,rfl,_,rfl,dv,ft.at_,ft.sh,ft.l1,ft.l2,λz hz=>?_⟩
  refine ⟨x,.str z,C,none,rfl,M,e0,?_⟩
  refine ⟨_,rfl,_,rfl,x,C,rfl,M,na,.inl ⟨e0,λd hd=>?_⟩⟩
  have ne:d≠x:=λq=>by rw [q,e0] at hd;cases hd
  exact k _ ⟨d,hd,ne,b8,by rw [a8 ne,b8],λb hb hb2=>by rw [a8 hb,a8 hb2]⟩
end
end L3.K55
section
namespace L3.K55
open PySem PySem.Spec PyProof.Rows L2 Hn
theorem all_mk {l:PySem.W.OpenLaw} {w:World} {K:PySem.W.Frag} {h:Heap} {mg:Str->Option Value} {fa B fB C1 f1 g0 g1 g2 g3 g4 g5 g6 g7 g8 g9 g10 g11 g12 g13 g14 g15 g16 g17 g18 g19 g20 g21 g22 g23 g24 g25 g26 g27 g28 g29 g30 g31 g32 g33 g34 g35 g36 g37 g38 g39:Addr} (X:K.In h) (G:h.Ns mainGlobals mg) (hfa:mg "law" = some (.ref fa))
  {odHE anHE odNS anNS:Option Addr} {slHE slNS:Array (Option Value)} {ocHE kVHE dcHE pmHE cdHE ctHE ocNS kVNS dcNS pmNS cdNS ctNS:Value} {Zc0:Addr} {tC0_0 tC0_1 tC0_2:Tok} {nC0:Nat} {slC0:Array (Option Value)}
  (aHE:PySem.W.nsIn K mainGlobals "HandError" = some (some (.ref B))) (iHE_:PySem.W.findIn K (.ref B) "__init__" = some (some (.ref fB))) (nHE:PySem.W.isFn K (.ref fB)=true) (lHE:K.lookup fB=some ⟨ocHE,odHE,.func (PySem.W.fnOf "__init__" "HandError.__init__" (o7 (iHE)) (j5 (iHE)) (b7 (iHE)) .none kVHE dcHE pmHE anHE cdHE ctHE),slHE⟩) (cHE:PySem.W.codeIn K cdHE "HandError.__init__" = true) (kHE:PySem.W.keepIn K (.ref fB)=true)
  (aNS:PySem.W.nsIn K mainGlobals "NoStep" = some (some (.ref C1))) (iNS_:PySem.W.findIn K (.ref C1) "__init__" = some (some (.ref f1))) (nNS:PySem.W.isFn K (.ref f1)=true) (lNS:K.lookup f1=some ⟨ocNS,odNS,.func (PySem.W.fnOf "__init__" "NoStep.__init__" (o7 (iNS)) (j5 (iNS)) (b7 (iNS)) .none kVNS dcNS pmNS anNS cdNS ctNS),slNS⟩) (cNS:PySem.W.codeIn K cdNS "NoStep.__init__" = true) (kNS:PySem.W.keepIn K (.ref f1)=true)
  (fV:PySem.W.findCls K (.type "ValueError") (.type "type") "__init__" = some (.val (.builtin "ValueError.__init__"))) (sB:PySem.W.specialIn K (.ref B) "__getattribute__" = some (some (.builtin "type.__getattribute__"))) (rB:PySem.W.readsIn K B (.type "type")=true) (cB:PySem.W.findCls K (.ref B) (.type "type") "__init__" = some (.val (.ref fB)))
  (rxc:[B,C1].all (xcB K)=true)
  (rjk:Q2 K fB=false)
  (rsub:((List.range [B,C1].length).all λc=>(List.range [B,C1].length).all λc0=>isB (PySem.W.kitOne K (.ref (T4 [B,C1] fB c)) (.ref (T4 [B,C1] fB c0))) (Γ.sub c c0))=true)
  (rsV:([B,C1].all λC=>isB (PySem.W.kitOne K (.ref C) (.type "ValueError")) true)=true)
  (rsT:([B,C1].all λC=>tys.all λt=>isB (PySem.W.kitOne K (.ref C) (.type t)) false)=true)
  (rfl_:(Γ.flds.all λg=>[B,C1].all λC=>isNo (PySem.W.findIn K (.ref C) g))=true)
  (rbl:(bnames.all λx=>(Γ.gl.lookup x).isSome||isNo (PySem.W.nsIn K mainGlobals x))=true)
  (dg0:GF K "round_of" (top 1) g0)
  (dg1:GF K "hands_at" (top 2) g1)
  (dg2:GF K "weaving_of" (top 3) g2)
  (dg3:GF K "with_at" (top 8) g3)
  (dg4:GF K "triangle" (top 9) g4)
  (dg5:GF K "first_decider" (top 12) g5)
  (dg6:GF K "step_decider" (top 13) g6)
  (dg7:GF K "first_levels" (top 15) g7)
  (dg8:GF K "step_levels" (top 16) g8)
  (dg9:GF K "behind_look" (top 17) g9)
  (dg10:GF K "hands_up_to" (top 18) g10)
  (dg11:GF K "first_net" (top 20) g11)
  (dg12:GF K "end_of" (top 21) g12)
  (dg13:GF K "number_of" (top 22) g13)
  (dg14:GF K "step_net" (top 23) g14)
  (dg15:GF K "hand_behind" (top 24) g15)
  (dg16:GF K "local_at" (top 25) g16)
  (dg17:GF K "word_at" (top 26) g17)
  (dg18:GF K "first_row" (top 28) g18)
  (dg19:GF K "step_row" (top 29) g19)
  (dg20:GF K "begun" (top 30) g20)
  (dg21:GF K "working_in_row" (top 31) g21)
  (dg22:GF K "hands_of" (top 33) g22)
  (dg23:GF K "first" (top 34) g23)
  (dg24:GF K "stepped" (top 35) g24)
  (dg25:GF K "stepped_or_none" (top 36) g25)
  (dg26:GF K "woven" (top 37) g26)
  (dg27:GF K "_law_tape" (top 39) g27)
  (dg28:GF K "_law_draw" (top 40) g28)
  (dg29:GF K "_law_shuffled" (top 41) g29)
  (dg30:GF K "_law_greats" (top 42) g30)
  (dg31:GF K "_law_hands" (top 43) g31)
  (dg32:GF K "_law_seen" (top 44) g32)
  (dg33:GF K "_law_whole" (top 45) g33)
  (dg34:GF K "_law_held" (top 46) g34)
  (dg35:GF K "_law_all_round" (top 47) g35)
  (dg36:GF K "_law_stepped" (top 48) g36)
  (dg37:GF K "_law_begun" (top 49) g37)
  (dg38:GF K "_law_right" (top 50) g38)
  (dg39:GF K "law" (top 51) g39)
  (aC0:PySem.W.nsIn K mainGlobals "ENDED" = some (some (.ref Zc0))) (lC0:K.lookup Zc0=some ⟨.type "tuple",none,.seq #[.str "holds" tC0_0,.str "right" tC0_1,.str "down" tC0_2] nC0,slC0⟩) :
  ∃ fd:FuncData,(∀ (s:Shared) (v:Value),BindsTo s fd ⟨[v],[]⟩ [("_law_script",v)])/\∀ base:Heap,K.In base->base.Ns mainGlobals mg->FnOk l.prog w K mg base CX0 11 fa fd ["_law_script"] (a0r K):=by
 have e:=hfa.symm.trans (PySem.W.mg_of X G dg39.a)
 cases e
 have RB:RowB K Γ [B,C1] fB:=⟨rxc,rjk,rsub,rsV,rsT,rfl_,rbl⟩
 have FHE:=a0m (st:=iHE) lHE cHE kHE
 have bHE:=FHE.binds (ps:=["self","text"]) λ_ _ _ _ _ _ us hl=>match us,hl with | [_,_],_=>rfl
 have FNS:=a0m (st:=iNS) lNS cNS kNS
 have bNS:=FNS.binds (ps:=["self","hand"]) λ_ _ _ _ _ _ us hl=>match us,hl with | [_,_],_=>rfl
 have xHE:XC K B:=b1e ((List.all_eq_true.mp rxc) B (by simp))
 have xNS:XC K C1:=b1e ((List.all_eq_true.mp rxc) C1 (by simp))
 obtain ⟨_,⟨oc,od,kV,dc,pm,an,cd,ct,sl,rfl,lk,hc⟩,kp⟩:=dg39.f
 have FL:=a0m lk hc kp
 refine ⟨PySem.W.fnOf "law" "law" (o7 (top 51)) (j5 (top 51)) (b7 (top 51)) .none kV dc pm an cd ct,λs v=>.of_eq rfl,λbase KB GB=>?_⟩
 let T:Tx:=⟨l.prog,w,K,mg,base,T4 [B,C1] fB⟩
 have mV:mg "ValueError" = none:=PySem.W.mg_none_of X G (S7 ((List.all_eq_true.mp rbl) "ValueError" (by decide)))
 have TE:TxE K mg B fB:=⟨mV,fV,PySem.W.mg_of X G aHE,sB,rB,cB,kHE⟩
 have gHE:FnOk l.prog w K mg base CX0 2 fB _ ["self","text"] (spHE K):=(b62 FHE TE).mono (by decide)
 have gNS:FnOk l.prog w K mg base CX0 2 f1 _ _ _:=c4c FNS TE FHE bHE
 have st:TxSt T Γ:=by
  refine RB.st (T:=T) X G rfl (λx d e=>?_) (λx c fs e=>?_) (λx kvs e=>?_)
  ·have m:=L2.mem_of_lookup e
   simp only [Γ,List.mem_cons,List.not_mem_nil,or_false,Prod.mk.injEq,L3.G.val.injEq,reduceCtorEq,and_false,false_or] at m
   rcases m with ⟨rfl,rfl⟩
   ·exact ⟨_,.ref Zc0,PySem.W.mg_of X G aC0,rfl,λμ H=>.tup (xs:=[.str "holds",.str "right",.str "down"]) (.inr ⟨_,_,_,lC0,rfl,rfl,Nat.le_of_ble_eq_true rfl,(.cons ⟨_,rfl⟩ (.cons ⟨_,rfl⟩ (.cons ⟨_,rfl⟩ .nil))),rfl⟩) (.cons (.str _) (.cons (.str _) (.cons (.str _) .nil)))⟩
  ·have m:=L2.mem_of_lookup e
   simp only [Γ,List.mem_cons,List.not_mem_nil,or_false,Prod.mk.injEq,L3.G.err.injEq,reduceCtorEq,and_false,false_or] at m
   rcases m with ⟨rfl,rfl,rfl⟩ | ⟨rfl,rfl,rfl⟩
   ·exact ⟨by simp,⟨xHE,PySem.W.mg_of X G aHE,fB,_,_,iHE_,nHE,bHE,gHE⟩,by simp⟩
   ·exact ⟨by simp,⟨xNS,PySem.W.mg_of X G aNS,f1,_,_,iNS_,nNS,bNS,gNS⟩,by simp [Γ]⟩
  ·have m:=L2.mem_of_lookup e
   simp [Γ] at m
 have fs:b0i T Γ Tb:=by
  refine c3x ?_
  refine And.intro (fe X G (T:=T) dg0 (by decide +kernel) (λ_ _ _ _ _ _ us hl=>match us,hl with | [_],_=>rfl) rfl rfl) ?_
  refine And.intro (fe X G (T:=T) dg1 (by decide +kernel) (λ_ _ _ _ _ _ us hl=>match us,hl with | [_,_],_=>rfl) rfl rfl) ?_
  refine And.intro (fe X G (T:=T) dg2 (m:=["plus"]) (by decide +kernel) (λ_ _ _ _ _ _ us hl=>match us,hl with | [_],_=>rfl) rfl rfl) ?_
  refine And.intro (fe X G (T:=T) dg3 (by decide +kernel) (λ_ _ _ _ _ _ us hl=>match us,hl with | [_,_,_],_=>rfl) rfl rfl) ?_
  refine And.intro (fe X G (T:=T) dg4 (by decide +kernel) (λ_ _ _ _ _ _ us hl=>match us,hl with | [_],_=>rfl) rfl rfl) ?_
  refine And.intro (fe X G (T:=T) dg5 (by decide +kernel) (λ_ _ _ _ _ _ us hl=>match us,hl with | [_],_=>rfl) rfl rfl) ?_
  refine And.intro (fe X G (T:=T) dg6 (by decide +kernel) (λ_ _ _ _ _ _ us hl=>match us,hl with | [_,_],_=>rfl) rfl rfl) ?_
  refine And.intro (fe X G (T:=T) dg7 (by decide +kernel) (λ_ _ _ _ _ _ us hl=>match us,hl with | [_],_=>rfl) rfl rfl) ?_
  refine And.intro (fe X G (T:=T) dg8 (by decide +kernel) (λ_ _ _ _ _ _ us hl=>match us,hl with | [_,_],_=>rfl) rfl rfl) ?_
  refine And.intro (fe X G (T:=T) dg9 (by decide +kernel) (λ_ _ _ _ _ _ us hl=>match us,hl with | [_,_],_=>rfl) rfl rfl) ?_
  refine And.intro (fe X G (T:=T) dg10 (by decide +kernel) (λ_ _ _ _ _ _ us hl=>match us,hl with | [_,_],_=>rfl) rfl rfl) ?_
  refine And.intro (fe X G (T:=T) dg11 (by decide +kernel) (λ_ _ _ _ _ _ us hl=>match us,hl with | [_,_],_=>rfl) rfl rfl) ?_
  refine And.intro (fe X G (T:=T) dg12 (by decide +kernel) (λ_ _ _ _ _ _ us hl=>match us,hl with | [_],_=>rfl) rfl rfl) ?_
  refine And.intro (fe X G (T:=T) dg13 (by decide +kernel) (λ_ _ _ _ _ _ us hl=>match us,hl with | [_],_=>rfl) rfl rfl) ?_
  refine And.intro (fe X G (T:=T) dg14 (by decide +kernel) (λ_ _ _ _ _ _ us hl=>match us,hl with | [_,_,_],_=>rfl) rfl rfl) ?_
  refine And.intro (fe X G (T:=T) dg15 (by decide +kernel) (λ_ _ _ _ _ _ us hl=>match us,hl with | [_,_],_=>rfl) rfl rfl) ?_
  refine And.intro (fe X G (T:=T) dg16 (by decide +kernel) (λ_ _ _ _ _ _ us hl=>match us,hl with | [_,_,_],_=>rfl) rfl rfl) ?_
  refine And.intro (fe X G (T:=T) dg17 (by decide +kernel) (λ_ _ _ _ _ _ us hl=>match us,hl with | [_,_],_=>rfl) rfl rfl) ?_
  refine And.intro (fe X G (T:=T) dg18 (by decide +kernel) (λ_ _ _ _ _ _ us hl=>match us,hl with | [_],_=>rfl) rfl rfl) ?_
  refine And.intro (fe X G (T:=T) dg19 (by decide +kernel) (λ_ _ _ _ _ _ us hl=>match us,hl with | [_,_],_=>rfl) rfl rfl) ?_
  refine And.intro (fe X G (T:=T) dg20 (by decide +kernel) (λ_ _ _ _ _ _ us hl=>match us,hl with | [_,_],_=>rfl) rfl rfl) ?_
  refine And.intro (fe X G (T:=T) dg21 (by decide +kernel) (λ_ _ _ _ _ _ us hl=>match us,hl with | [_],_=>rfl) rfl rfl) ?_
  refine And.intro (fe X G (T:=T) dg22 (by decide +kernel) (λ_ _ _ _ _ _ us hl=>match us,hl with | [_],_=>rfl) rfl rfl) ?_
  refine And.intro (fe X G (T:=T) dg23 (by decide +kernel) (λ_ _ _ _ _ _ us hl=>match us,hl with | [_],_=>rfl) rfl rfl) ?_
  refine And.intro (fe X G (T:=T) dg24 (by decide +kernel) (λ_ _ _ _ _ _ us hl=>match us,hl with | [_,_,_],_=>rfl) rfl rfl) ?_
  refine And.intro (fe X G (T:=T) dg25 (by decide +kernel) (λ_ _ _ _ _ _ us hl=>match us,hl with | [_,_,_],_=>rfl) rfl rfl) ?_
  refine And.intro (fe X G (T:=T) dg26 (by decide +kernel) (λ_ _ _ _ _ _ us hl=>match us,hl with | [_,_,_],_=>rfl) rfl rfl) ?_
  refine And.intro (fe X G (T:=T) dg27 (m:=["return"]) (by decide +kernel) (λ_ _ _ _ _ _ us hl=>match us,hl with | [_],_=>rfl) rfl rfl) ?_
  refine And.intro (fe X G (T:=T) dg28 (by decide +kernel) (λ_ _ _ _ _ _ us hl=>match us,hl with | [_,_],_=>rfl) rfl rfl) ?_
  refine And.intro (fe X G (T:=T) dg29 (m:=["_law_left"]) (by decide +kernel) (λ_ _ _ _ _ _ us hl=>match us,hl with | [_,_],_=>rfl) rfl rfl) ?_
  refine And.intro (fe X G (T:=T) dg30 (m:=["_law_some"]) (by decide +kernel) (λ_ _ _ _ _ _ us hl=>match us,hl with | [_,_],_=>rfl) rfl rfl) ?_
  refine And.intro (fe X G (T:=T) dg31 (m:=["_law_found"]) (by decide +kernel) (λ_ _ _ _ _ _ us hl=>match us,hl with | [_],_=>rfl) rfl rfl) ?_
  refine And.intro (fe X G (T:=T) dg32 (by decide +kernel) (λ_ _ _ _ _ _ us hl=>match us,hl with | [_,_],_=>rfl) rfl rfl) ?_
  refine And.intro (fe X G (T:=T) dg33 (by decide +kernel) (λ_ _ _ _ _ _ us hl=>match us,hl with | [_,_,_],_=>rfl) rfl rfl) ?_
  refine And.intro (fe X G (T:=T) dg34 (by decide +kernel) (λ_ _ _ _ _ _ us hl=>match us,hl with | [_,_],_=>rfl) rfl rfl) ?_
  refine And.intro (fe X G (T:=T) dg35 (m:=["_law_groups","[]"]) (by decide +kernel) (λ_ _ _ _ _ _ us hl=>match us,hl with | [_,_],_=>rfl) rfl rfl) ?_
  refine And.intro (fe X G (T:=T) dg36 (m:=["_law_boxes","_law_hands_here","()"]) (by decide +kernel) (λ_ _ _ _ _ _ us hl=>match us,hl with | [_,_],_=>rfl) rfl rfl) ?_
  refine And.intro (fe X G (T:=T) dg37 (by decide +kernel) (λ_ _ _ _ _ _ us hl=>match us,hl with | [_],_=>rfl) rfl rfl) ?_
  refine And.intro (fe X G (T:=T) dg38 (by decide +kernel) (λ_ _ _ _ _ _ us hl=>match us,hl with | [_,_],_=>rfl) rfl rfl) ?_
  refine And.intro (fe X G (T:=T) dg39 (by decide +kernel) (λ_ _ _ _ _ _ us hl=>match us,hl with | [_],_=>rfl) rfl rfl) ?_
  trivial
 have ok:=b3h (Rs:=Rs) (T:=T) (k:=7) (i:=39) (fd:=i4 (top 51) []) (b57 st fs 7) rfl FL rfl rfl (V1 (by decide +kernel))
 exact FnOk.imp ok (a8f c0e)
theorem walk {l:PySem.W.OpenLaw} {q:Program} {loose:List Str} {XP:(Str->Option Value)->Heap->Prop} {YP:World->Heap->Prop} {d:DefRec} {K:Params->PySem.W.Frag} (hn:l.most=some 63) (hdf:d.params.defaults=[])
  (hY:∀ (w:World) (h:Heap),YP w h->(K w.params).In h)
  (F:∀ (w:World) (mg:Str->Option Value) (fa:Addr) (h:Heap),(K w.params).In h->h.Ns mainGlobals mg->mg d.name=some (.ref fa) ->
   ∃ fd:FuncData,(∀ (s:Shared) (u:Value),BindsTo s fd ⟨[u],[]⟩ [("_law_script",u)])/\∀ base:Heap,(K w.params).In base->base.Ns mainGlobals mg->FnOk l.prog w (K w.params) mg base CX0 11 fa fd ["_law_script"] (a0r (K w.params))) :
  PySem.W.WalkO q loose XP YP l.row.toRowW d [] (λf vs=>PySem.call f vs):=
 L2.walk_of (n:=63) (k:=11) (x:="_law_script") (CX:=λ_=>CX0) (sp:=λw=>a0r (K w.params)) hn (by decide) hdf ⟨λ_=>rfl,by decide,by decide,rfl⟩ hY F (λ_ _ a ns hl _ hS=>⟨a,ns,rfl,hS,λ_=>rfl⟩) λ_ _ _ _ _ z=>z
end L3.K55
open PySem PySem.W PyProof.Rows
set_option maxRecDepth 100000 in
set_option maxHeartbeats 0 in
theorem PySem.Challenge.cw_handnames_k55_weavings_of_rounds_holds : PySem.Challenge.rw_handnames_k55_weavings_of_rounds.Holds := by
 w_on;o_law;k_head;(case hw=>w_witness2)
 k_fill
 refine L3.K55.walk (l:=PySem.Challenge.rw_handnames_k55_weavings_of_rounds) rfl rfl (λw h Y=>PySem.W.kIn_of Y) ?F
 case F=>
  intro w mg fa h KX G hmg
  refine' L3.K55.all_mk KX G hmg ?_ ?_ ?_ ?_ ?_ ?_ ?_ ?_ ?_ ?_ ?_ ?_ ?_ ?_ ?_ ?_ ?_ ?_ ?_ ?_ ?_ ?_ ?_ ?_ ?_ ?_ ?_ ?_ ?_ ?_ ?_ ?_ ?_ ?_ ?_ ?_ ?_ ?_ ?_ ?_ ?_ ?_ ?_ ?_ ?_ ?_ ?_ ?_ ?_ ?_ ?_ ?_ ?_ ?_ ?_ ?_ ?_ ?_ ?_ ?_ ?_ ?_ ?_ ?_ ?_
  rotate_left 68
  iterate 16 k_is
  iterate 7 kernel_rfl
  iterate 40 (refine' L3.gf_mk ?a ?l ?c ?k;(case a=>k_is);(case l=>k_is);(case c=>k_is);(case k=>k_is))
  iterate 2 k_is
end
